import Derived.Deep.Slices
import Derived.ChangeSame
import Derived.Shelf.Vars
import Derived.MakeChecks
import Derived.FnData
import Derived.Test.YtfmmllpjgkgeaaaGreatDoorCards
import Derived.Test.YtfmmllpjgkgeaaaGreatDoorTie
import Derived.ProofKit
import Derived.OpenShut
import Derived.Deep.DeepHandedRow
import Derived.Carry
import Derived.Lay
import Derived.Test.YtfmmllpjgkgeaaaGreatDoorPartM43
set_option linter.unusedVariables false
set_option linter.unusedSimpArgs false
set_option maxHeartbeats 16000000
set_option maxRecDepth 100000
namespace Go.Proofs.YtfmmllpjgkgeaaaGreatDoor
open Go.Proofs.Tryz
theorem SH{H:Type}(d:DataW H):0<Rows.uptoBulk d:=by unfold Rows.uptoBulk;split<;>omega
theorem Ac{H:Type}(l:List (DataW H)):l.length<=Rows.uptoBulkAll l/\∀d∈l,Rows.uptoBulk d<=Rows.uptoBulkAll l:=by
 induction l with
 | nil=>exact⟨Nat.zero_le _,λd h=>absurd h List.not_mem_nil⟩
 | cons a r ih =>
  have hp:=SH a;have e:Rows.uptoBulkAll (a::r)=Rows.uptoBulk a+Rows.uptoBulkAll r:=by rw[Rows.uptoBulkAll]
  rw[e,List.length_cons];refine⟨by have:=ih.1;omega,λd h=>?_⟩;rcases List.mem_cons.1 h with rfl|h
  ·omega
  ·have:=ih.2 d h;omega
end Go.Proofs.YtfmmllpjgkgeaaaGreatDoor
namespace Go.Proofs.YtfmmllpjgkgeaaaGreatDoor
open Go.Proofs.Tryz Go.ChangeShapes Go.WideShapes Go.Deep
variable{W:World}
theorem CQ:prog.cellsOf 65=5:=by kernel_rfl
theorem SI:prog.cellsOf 3=1:=by kernel_rfl
theorem SK:prog.cellsOf 9=1:=by kernel_rfl
def xR{H:Type}(o:dM):DataW H:=.agg [.lit (.int .i64 o.kind),.lit (.int .i64 o.a),.lit (.int .i64 o.n),.lit (.int .i64 o.m),.lit (.string o.s.data.toList)]
theorem wf_i64{n:Int}(h:(Lit.int .i64 n).wf=true):-9223372036854775808<=n/\n<=9223372036854775807:=by unfold Lit.wf at h;simp only[Bool.and_eq_true,decide_eq_true_eq]at h;exact h
section
variable{H:Type}{enc:TypeId×Value->H}{w:World}{base:Nat}{spare:Nat->Bool}{held:Bool}
theorem OI{fuel:Nat}{cs:List Value}{x:DataW H×List MemPlace}(h:DataW.trod enc prog w base spare held fuel 65 cs=some x):∃o:dM,cs=[.int .i64 o.kind,.int .i64 o.a,.int .i64 o.n,.int .i64 o.m,.string o.s]/\x=(xR o,[]) /\ (Lit.int .i64 o.kind).wf=true/\(Lit.int .i64 o.a).wf=true/\(Lit.int .i64 o.n).wf=true/\(Lit.int .i64 o.m).wf=true/\o.s.size<=maxLen:=by
 obtain⟨xs,k,hk,hxy,hlen,hxl,hf⟩:=DataW.trod_struct underlying65 h;rw[CQ]at hlen
 match xs,hxl,cs,hlen with
 | [y0,y1,y2,y3,y4],_,[v0,v1,v2,v3,v4],_ =>
  have g0:=hf 0 _ rfl;have g1:=hf 1 _ rfl;have g2:=hf 2 _ rfl;have g3:=hf 3 _ rfl;have g4:=hf 4 _ rfl;simp[SI,SK]at g0 g1 g2 g3 g4;obtain⟨n0,e0,rfl,q0⟩:=DataW.trod_int underlying3 g0;obtain⟨n1,e1,rfl,q1⟩:=DataW.trod_int underlying3 g1;obtain⟨n2,e2,rfl,q2⟩:=DataW.trod_int underlying3 g2;obtain⟨n3,e3,rfl,q3⟩:=DataW.trod_int underlying3 g3;obtain⟨s,e4,rfl,q4⟩:=DataW.trod_string underlying9 g4;cases e0;cases e1;cases e2;cases e3;cases e4
  exact⟨⟨n0,n1,n2,n3,s⟩,rfl,by rw[hxy];rfl,q0,q1,q2,q3,q4⟩
theorem open_script{fuel:Nat}{v:Value}{x:DataW H×List MemPlace}(h:DataW.trod enc prog w base spare held fuel 22 [v]=some x):∃l:List dM,Ep w v l/\∀o∈l,(Rows.uptoBulk x.1<=1048576->o.ok/\l.length<=1048576):=by
 rcases open_slice underlying22 h with⟨h0,rfl⟩|⟨a,len,cap,m,n,D,Pl,hcs,hb,hl,hm,hmm,rfl,hx⟩
 ·cases h0;exact⟨[],Or.inl ⟨_,_,rfl,rfl⟩,λo ho=>absurd ho (by simp)⟩
 ·cases hcs;have hlm:len<=m:=by rw[hmm];split<;>omega
  have each:∀i,i<m->∃o:dM,(∃cs',w.cells? base (a.add (i*5)) 5=some cs'/\cs'=[.int .i64 o.kind,.int .i64 o.a,.int .i64 o.n,.int .i64 o.m,.string o.s])/\D i=xR o /\
    (Lit.int .i64 o.kind).wf=true/\(Lit.int .i64 o.a).wf=true/\(Lit.int .i64 o.n).wf=true/\(Lit.int .i64 o.m).wf=true:=by
   intro i hi;obtain⟨cs',h1,h2⟩:=hx i hi;rw[CQ]at h1;obtain⟨o,e1,e2,q0,q1,q2,q3,_⟩:=OI h2;exact⟨o,⟨cs',h1,e1⟩,congrArg (·.1) e2,q0,q1,q2,q3⟩
  haveI:Inhabited dM:=⟨⟨0,0,0,0,⟨#[]⟩⟩⟩
  obtain⟨q,hq⟩:=choose_lt each;have hcell:∀i,i<len->∀j(hj:j<5),w.cell? (a.add (i*5+j))=some ([Value.int .i64 (q i).kind,.int .i64 (q i).a,.int .i64 (q i).n,.int .i64 (q i).m,.string (q i).s][j]'hj):=by intro i hi j hj;obtain⟨⟨cs',h1,e1⟩,_⟩:=hq i (by omega);subst e1;obtain⟨_,_,hcell⟩:=World.cells?_some h1;have:=hcell j (by simpa using hj);rw[add_add]at this;rw[this];exact List.getElem?_eq_getElem _
  obtain⟨ab,ao,ap⟩:=a;by_cases h0:len=0
  ·subst h0;exact⟨[],Or.inl ⟨_,_,rfl,rfl⟩,λo ho=>absurd ho (by simp)⟩
  ·have hs0:=World.cell?_spot (hcell 0 (by omega) 0 (by omega));have hspot:ap=none:=by simpa[Addr.add]using hs0
   subst hspot;have hll:((List.range len).map q).length=len:=by simp
   have hgl:∀j(h:j<((List.range len).map q).length),((List.range len).map q)[j]=q j:=λj h=>by simp
   refine⟨(List.range len).map q,Or.inr ⟨ab,ao,cap,by rw[hll],by rw[hll];exact hl, ?_⟩,λo ho hbk=>?_⟩
   ·have hc:∀i,i<len->∀j(hj:j<5),w.cell? ⟨ab,ao+i*5+j,none⟩=some ([Value.int .i64 (q i).kind,.int .i64 (q i).a,.int .i64 (q i).n,.int .i64 (q i).m,.string (q i).s][j]'hj):=λi hi j hj=>by
     have:=hcell i hi j hj;have e:(⟨ab,ao,none⟩:Addr).add (i*5+j)=⟨ab,ao+(i*5+j),none⟩:=by simp[Addr.add]
     rw[show(ao+i*5+j)=ao+(i*5+j)by omega,<- e];exact this
    refine⟨?_,λj hj=>?_,λj hj=>?_,λj hj=>?_,λj hj=>?_,λj hj=>?_⟩
    ·exact World.block_lt_of_cell? w ⟨ab,_,none⟩ (hc 0 (by omega) 0 (by omega))
    ·rw[hgl j hj];exact hc j (by rw[hll]at hj;exact hj) 0 (by omega)
    ·rw[hgl j hj];exact hc j (by rw[hll]at hj;exact hj) 1 (by omega)
    ·rw[hgl j hj];exact hc j (by rw[hll]at hj;exact hj) 2 (by omega)
    ·rw[hgl j hj];exact hc j (by rw[hll]at hj;exact hj) 3 (by omega)
    ·rw[hgl j hj];exact hc j (by rw[hll]at hj;exact hj) 4 (by omega)
   ·obtain⟨i,hi,rfl⟩:=List.mem_map.1 ho;have hi':=List.mem_range.1 hi;obtain⟨_,hD,q0,q1,q2,q3⟩:=hq i (by omega);have hbk2:Rows.uptoBulk (DataW.slice ((List.range len).map D) ((List.range (m-len)).map λj=>D (len+j)))<=1048576:=hbk;rw[Rows.uptoBulk]at hbk2;have hA:=Ac ((List.range len).map D);have h1:=hA.2 (D i) (List.mem_map.2 ⟨i,hi,rfl⟩);rw[hD]at h1;have h2:=(Ac [(.lit (.int .i64 (q i).kind):DataW H),.lit (.int .i64 (q i).a),.lit (.int .i64 (q i).n),.lit (.int .i64 (q i).m),.lit (.string (q i).s.data.toList)]).2 (.lit (.string (q i).s.data.toList)) (by simp);have h3:Rows.uptoBulk (xR (H:=H) (q i))=Rows.uptoBulkAll [(.lit (.int .i64 (q i).kind):DataW H),.lit (.int .i64 (q i).a),.lit (.int .i64 (q i).n),.lit (.int .i64 (q i).m),.lit (.string (q i).s.data.toList)]+1:=by unfold xR;rw[Rows.uptoBulk]
    have h4:Rows.uptoBulk (.lit (.string (q i).s.data.toList):DataW H)=(q i).s.data.toList.length+1:=by rw[Rows.uptoBulk]
    have h5:(q i).s.data.toList.length=(q i).s.size:=by rw[Array.length_toList];(first|done|rfl)
    have h6:=hA.1;rw[List.length_map,List.length_range]at h6;exact⟨⟨wf_i64 q0,wf_i64 q1,wf_i64 q2,wf_i64 q3,by omega⟩,by rw[hll];omega⟩
end
theorem g0:prog.globalNamed "internal/bytealg.MaxLen" = some 0:=by kernel_rfl
theorem g1:prog.globalNamed "strconv.ErrSyntax" = some 1:=by kernel_rfl
theorem g2:prog.globalNamed "strconv.ErrRange" = some 2:=by kernel_rfl
theorem g3:prog.globalNamed "internal/strconv.uint64pow10" = some 3:=by kernel_rfl
theorem SL(hS:W.ShapedOpen prog):∃m,W.cell? ⟨0,0,none⟩=some (.int .i64 m) :=
 cell_of_shapedOpen_int (zero:=#[.int .i64 0]) (t:=3) hS (of_decide_eq_true (by kernel_rfl)) (by kernel_rfl) rfl (by kernel_rfl) (by kernel_rfl) underlying3
theorem SQ(hL:laidMetH prog Rows.meetsUptoRow.laid W):laidMetH prog [("internal/strconv.uint64pow10",Lib.tabData .u64 Lib.pow10Tab)] W:=by
 have hp:=laidMetH.filter (λx=>x.1 == "internal/strconv.uint64pow10") hL;have e1:(Rows.meetsUptoRow.laid.filter λx=>x.1 == "internal/strconv.uint64pow10")=[("internal/strconv.uint64pow10",Lib.tabData .u64 Lib.pow10Tab)]:=by rfl
 rw[e1]at hp;exact hp
theorem SS{H:Type}{enc:TypeId×Value->H}{P:Program}{w:World}{base:Nat}{sp:Nat->Bool}{held:Bool}{fuel:Nat}{t:TypeId}{ms:Array (String×TypeId)}{cs:List Value}{x:DataW H×List MemPlace}(ht:P.underlying t=some (.interface ms))(h:DataW.trod enc P w base sp held fuel t cs=some x):∃v,cs=[v]/\(v=.nilIface\/∃u y,v=.iface u y):=by
 cases fuel with
 | zero=>simp[DataW.trod]at h
 | succ n =>
  cases cs with
  | nil=>simp[DataW.trod,ht]at h
  | cons c r =>
   cases r with
   | nil=>cases c<;>simp[DataW.trod,ht]at h⊢
   | cons _ _=>simp[DataW.trod,ht]at h
theorem Ic{name:String}{d:DataW Unit}{g:Nat}{t:TypeId}{ms:Array (String×TypeId)}(hg:prog.globalNamed name=some g)(hty:(prog.globals[g]?).map (·.type)=some t)(ht:prog.underlying t=some (.interface ms))(h:laidMet prog [(name,d)] W):∃ev,W.cell? ⟨g,0,none⟩=some ev/\(ev=.nilIface\/∃te pe,ev=.iface te pe):=by obtain⟨ps,⟨g',t',cs,fuel,p,q,hg',ht',hvar,hd,_,_⟩,_⟩:=h;obtain rfl:=Option.some.inj (hg.symm.trans hg');obtain rfl:=Option.some.inj (hty.symm.trans ht');obtain⟨v,e,hv⟩:=SS ht hd;refine⟨v, ?_,hv⟩;rw[World.var?_cell hg hvar 0,<- Array.getElem?_toList,e];rfl
theorem ty1:(prog.globals[1]?).map (·.type)=some 260:=by kernel_rfl
theorem ty2:(prog.globals[2]?).map (·.type)=some 260:=by kernel_rfl
theorem ty3:(prog.globals[3]?).map (·.type)=some 348:=by kernel_rfl
theorem SV:prog.cellsOf 348=20:=by kernel_rfl
theorem SX:prog.cellsOf 321=1:=by kernel_rfl
theorem SY(hL:laidMetH prog Rows.meetsUptoRow.laid W):∃ ev,W.cell? ⟨1,0,none⟩=some ev/\(ev=.nilIface\/∃ te pe,ev=.iface te pe):=by have hp:=laidMetH.filter (λx=>x.1 == "strconv.ErrSyntax") hL;obtain⟨d,e1,e2⟩:∃ d,(Rows.meetsUptoRow.laid.filter λx=>x.1 == "strconv.ErrSyntax")=[("strconv.ErrSyntax",d)]/\d.handleName?.isNone=true:=⟨_,rfl,rfl⟩;rw[e1,MakeChecks.laidMetH_plain _ _ _ (by simp[e2])]at hp;exact Ic g1 ty1 underlying260 hp
theorem S9(hL:laidMetH prog Rows.meetsUptoRow.laid W):∃ ev,W.cell? ⟨2,0,none⟩=some ev/\(ev=.nilIface\/∃ te pe,ev=.iface te pe):=by have hp:=laidMetH.filter (λx=>x.1 == "strconv.ErrRange") hL;obtain⟨d,e1,e2⟩:∃ d,(Rows.meetsUptoRow.laid.filter λx=>x.1 == "strconv.ErrRange")=[("strconv.ErrRange",d)]/\d.handleName?.isNone=true:=⟨_,rfl,rfl⟩;rw[e1,MakeChecks.laidMetH_plain _ _ _ (by simp[e2])]at hp;exact Ic g2 ty2 underlying260 hp
theorem Ie(hL:laidMetH prog Rows.meetsUptoRow.laid W):Lib.TabIs prog W "internal/strconv.uint64pow10" .u64 Lib.pow10Tab:=by have hp:=SQ hL;rw[MakeChecks.laidMetH_plain _ _ _ (by kernel_rfl)]at hp;exact Lib.tabIs_of_head g3 ty3 underlying348 underlying321 SX SV hp
theorem U1(hS:W.ShapedOpen prog)(hL:laidMetH prog Rows.meetsUptoRow.laid W):Glob W :=
 ⟨SL hS,SY hL,S9 hL,Ie hL,World.block_lt_of_cell? W ⟨3,0,none⟩ ((Ie hL).cell g3 0 (by decide))⟩
end Go.Proofs.YtfmmllpjgkgeaaaGreatDoor
namespace Go.Proofs.YtfmmllpjgkgeaaaGreatDoor
open Go.Proofs.Tryz Go.ChangeShapes Go.WideShapes Go.ChangeAt Go.RowKit Go.Deep
theorem own:ownKnob prog.godebug=none:=by kernel_rfl
theorem laidOut:laidOutB prog=true:=by kernel_rfl
theorem contract(H:Type)(enc:TypeId×Value->H)(W:World)(args:Array Value)(base:Nat)(ds gs:List (DataW H))(before:List MemPlace)(hval:∀(j:Nat)t v,Tryz.f4.params[j]?=some t->args[j]?=some v->Value.okWide prog W .any base t v)(hW:DataW.Whole enc prog Tryz.f4.params.toList Rows.meetsSpec.vars false W args.toList ds gs before)(hB:Rows.uptoSmall H (ds++gs)=true)(hL:laidMetH prog Rows.meetsUptoRow.laid W)(hS:W.ShapedOpen prog):Calls prog 4 args W λe W'=>∃v,e=.returned v/\Rows.meetsSpec.post enc prog Tryz.f4 false true false false W args v W':=by
 have hW':=hW;obtain⟨p,q,hA0,hV,rfl,hfz,hnd⟩:=hW;have hA:DataW.TrodAll enc prog W 0 (λ_=>true) true Tryz.f4.params.toList args.toList ds p:=hA0;rw[Tryz.params4]at hA hval;obtain⟨v0,vs0,d0,ds0,p0,q0,hargs,rfl,rfl,h0,r0⟩:=trodAll_cons hA;obtain⟨rfl,rfl,rfl⟩:=trodAll_nil r0;obtain rfl:args=#[v0]:=by cases args;simp_all
 obtain⟨rfl,rfl⟩:=trodVars_none hV;clear hA0;simp only[List.append_nil]at hW' hB;have hb1:Rows.uptoBulk d0<=1048576:=by have h1:=of_decide_eq_true hB;have h2:=(Ac [d0]).2 d0 (List.mem_singleton.2 rfl);omega
 have h0k:=h0;obtain⟨fuel,hf⟩:=h0;have hcs:v0.cells.toList=[v0]:=by obtain⟨a,len,cap,rfl⟩:=okWide_slice underlying22 (hval 0 22 v0 rfl rfl);rfl
 rw[hcs]at hf;obtain⟨l,hv,hok⟩:=open_script hf;have hlen:l.length<=1099511627776:=by
  cases l with
  | nil=>exact Nat.zero_le _
  | cons o r=>exact Nat.le_trans (hok o (List.mem_cons_self ..) hb1).2 (by decide)
 refine(OH W (U1 hS hL) v0 l hv hlen (λo ho=>(hok o ho hb1).1)).mono λe W' ⟨he,hg⟩=>?_;subst he;have hlt:∀x∈p0,x.block<W.heap.size:=λx hx=>by simpa using hW'.lt x hx
 exact⟨_,rfl,_,_,_,[],_,[],hW',trodAll_mk1 (shut_bool underlying4 _),trodAll_mk1 (Below.trod laidOut (by kernel_rfl) (of_decide_eq_true (by kernel_rfl)) h0k hg hlt),rfl,hg.frame _,λh=>by cases h⟩
