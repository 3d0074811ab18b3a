import Derived.Deep.Slices
import Derived.Test.YtfmmllpjgkgeaaaGreatDoorCards
import Derived.Test.YtfmmllpjgkgeaaaGreatDoorTie
import Derived.Deep.DeepHandedRow
import Derived.Lay
import Derived.Test.YtfmmllpjgkgeaaaGreatDoorPartS46
set_option linter.unusedVariables false
set_option linter.unusedSimpArgs false
set_option maxHeartbeats 16000000
set_option maxRecDepth 100000
namespace Go.Proofs.YtfmmllpjgkgeaaaGreatDoor
section
open Go.Proofs.Tryz
theorem Oz{H:Type}(d:DataW H):0<Rows.uptoBulk d:=by unfold Rows.uptoBulk;split<;>omega
theorem wC{H:Type}(l:List (DataW H)):l.length<=Rows.uptoBulkAll l/\∀d∈l,Rows.uptoBulk d<=Rows.uptoBulkAll l:=by
 induction l with
 | nil=>exact⟨Nat.zero_le _,λd h=>absurd h List.not_mem_nil⟩
 | cons a r ih =>
  have b:=Oz a;have e:Rows.uptoBulkAll (a::r)=Rows.uptoBulk a+Rows.uptoBulkAll r:=by rw[Rows.uptoBulkAll]
  rw[e,δ];refine⟨by have:=ih.1;omega,λd h=>?_⟩;rcases List.mem_cons.1 h with rfl|h
  .omega
  .have:=ih.2 d h;omega
end
section
open Go.Proofs.Tryz Go.ChangeShapes Go.WideShapes Go.Deep
variable{W:World}
theorem yI:prog.cellsOf 65=5:=by kernel_rfl
theorem OA:prog.cellsOf 3=1:=by kernel_rfl
theorem OB:prog.cellsOf 9=1:=by kernel_rfl
def sU{H:Type}(o:StepD):DataW H:=.agg [.lit (.int .i64 o.kind),.lit (.int .i64 o.a),.lit (.int .i64 o.n),.lit (.int .i64 o.m),.lit (.string o.s.data.toList)]
theorem wf_i64{n:Int}(h:(Lit.int .i64 n).wf=true):-9223372036854775808<=n/\n<=9223372036854775807:=by unfold Lit.wf at h;simp only[γ,decide_eq_true_eq]at h;exact h
section
variable{H:Type}{enc:TypeId×Value->H}{w:World}{base:Nat}{spare:Nat->Bool}{held:Bool}
theorem J5{i:Nat}{cs:List Value}{x:DataW H×List MemPlace}(j:DataW.trod enc prog w base spare held i 65 cs=some x):∃o:StepD,cs=[.int .i64 o.kind,.int .i64 o.a,.int .i64 o.n,.int .i64 o.m,.string o.s]/\x=(sU o,[]) /\ (Lit.int .i64 o.kind).wf=true/\(Lit.int .i64 o.a).wf=true/\(Lit.int .i64 o.n).wf=true/\(Lit.int .i64 o.m).wf=true/\o.s.size<=maxLen:=by
 obtain⟨A,C,B,l,c,k,a⟩:=DataW.trod_struct underlying65 j;rw[yI]at c
 match A,k,cs,c with
 | [y0,y1,y2,y3,y4],_,[v0,v1,v2,v3,v4],_ =>
  have g0:=a 0 _ rfl;have g1:=a 1 _ rfl;have g2:=a 2 _ rfl;have g3:=a 3 _ rfl;have b:=a 4 _ rfl;simp[OA,OB]at g0 g1 g2 g3 b;obtain⟨m,d,rfl,r⟩:=DataW.trod_int underlying3 g0;obtain⟨n,e,rfl,s⟩:=DataW.trod_int underlying3 g1;obtain⟨p,f,rfl,t⟩:=DataW.trod_int underlying3 g2;obtain⟨q,g,rfl,u⟩:=DataW.trod_int underlying3 g3;obtain⟨y,h,rfl,v⟩:=DataW.trod_string underlying9 b;cases d;cases e;cases f;cases g;cases h
  exact⟨⟨m,n,p,q,y⟩,rfl,by rw[l];rfl,r,s,t,u,v⟩
theorem open_script{Q:Nat}{v:Value}{x:DataW H×List MemPlace}(s:DataW.trod enc prog w base spare held Q 22 [v]=some x):∃u:List StepD,Ac w v u/\∀o∈u,(Rows.uptoBulk x.1<=1048576->o.ok/\u.length<=1048576):=by
 rcases open_slice underlying22 s with⟨t,rfl⟩|⟨p,len,L,m,n,D,Pl,W,hb,X,hm,Y,rfl,hx⟩
 .cases t;exact⟨[],τ ⟨_,_,rfl,rfl⟩,λo l=>absurd l Ω⟩
 .cases W;have a2:len<=m:=by rw[Y];split<;>omega
  have P:∀i,i<m->∃o:StepD,(∃h,w.cells? base (p.add (i*5)) 5=some h/\h=[.int .i64 o.kind,.int .i64 o.a,.int .i64 o.n,.int .i64 o.m,.string o.s])/\D i=sU o /\
    (Lit.int .i64 o.kind).wf=true/\(Lit.int .i64 o.a).wf=true/\(Lit.int .i64 o.n).wf=true/\(Lit.int .i64 o.m).wf=true:=by
   intro i c;obtain⟨h,e,E⟩:=hx i c;rw[yI]at e;obtain⟨o,r,N,y,A,B,C,_⟩:=J5 E;exact⟨o,⟨h,e,r⟩,congrArg (·.1) N,y,A,B,C⟩
  haveI:Inhabited StepD:=⟨⟨0,0,0,0,⟨#[]⟩⟩⟩
  obtain⟨q,G⟩:=choose_lt P;have a3:∀i,i<len->∀j(a:j<5),w.cell? (p.add (i*5+j))=some ([Value.int .i64 (q i).kind,.int .i64 (q i).a,.int .i64 (q i).n,.int .i64 (q i).m,.string (q i).s][j]'a):=by intro i c j a;obtain⟨⟨h,e,r⟩,_⟩:=G i V;subst r;obtain⟨_,_,a3⟩:=World.cells?_some e;have:=a3 j (by simpa using a);rw[add_add]at this;rw[this];exact σ _
  obtain⟨g,d,K⟩:=p;by_cases t:len=0
  .subst t;exact⟨[],τ ⟨_,_,rfl,rfl⟩,λo l=>absurd l Ω⟩
  .have Z:=World.cell?_spot (a3 0 V 0 V);have a0:K=none:=by simpa[Addr.add]using Z
   subst a0;have b:((List.range len).map q).length=len:=Ω
   have k:∀j(s:j<((List.range len).map q).length),((List.range len).map q)[j]=q j:=λj s=>Ω
   refine⟨(List.range len).map q,υ ⟨g,d,L,by rw[b],by rw[b];exact X, ?_⟩,λo l T=>?_⟩
   .have f:∀i,i<len->∀j(a:j<5),w.cell? (O g (d+i*5+j))=some ([Value.int .i64 (q i).kind,.int .i64 (q i).a,.int .i64 (q i).n,.int .i64 (q i).m,.string (q i).s][j]'a):=λi c j a=>by
     have:=a3 i c j a;have M:((O g d):Addr).add (i*5+j)=(O g (d+(i*5+j))):=by simp[Addr.add]
     rw[show(d+i*5+j)=d+(i*5+j)by omega,<- M];exact this
    refine⟨?_,λj a=>?_,λj a=>?_,λj a=>?_,λj a=>?_,λj a=>?_⟩
    .exact World.block_lt_of_cell? w (O g _) (f 0 V 0 V)
    .rw[k j a];exact f j (by rw[b]at a;exact a) 0 V
    .rw[k j a];exact f j (by rw[b]at a;exact a) 1 V
    .rw[k j a];exact f j (by rw[b]at a;exact a) 2 V
    .rw[k j a];exact f j (by rw[b]at a;exact a) 3 V
    .rw[k j a];exact f j (by rw[b]at a;exact a) 4 V
   .obtain⟨i,c,rfl⟩:=ι.1 l;have a1:=List.mem_range.1 c;obtain⟨_,S,y,A,B,C⟩:=G i V;have U:Rows.uptoBulk (DataW.slice ((List.range len).map D) ((List.range (m-len)).map λj=>D (len+j)))<=1048576:=T;rw[Rows.uptoBulk]at U;have F:=wC ((List.range len).map D);have e:=F.2 (D i) (ι.2 ⟨i,c,rfl⟩);rw[S]at e;have E:=(wC [(.lit (.int .i64 (q i).kind):DataW H),.lit (.int .i64 (q i).a),.lit (.int .i64 (q i).n),.lit (.int .i64 (q i).m),.lit (.string (q i).s.data.toList)]).2 (.lit (.string (q i).s.data.toList)) Ω;have h3:Rows.uptoBulk (sU (H:=H) (q i))=Rows.uptoBulkAll [(.lit (.int .i64 (q i).kind):DataW H),.lit (.int .i64 (q i).a),.lit (.int .i64 (q i).n),.lit (.int .i64 (q i).m),.lit (.string (q i).s.data.toList)]+1:=by unfold sU;rw[Rows.uptoBulk]
    have h4:Rows.uptoBulk (.lit (.string (q i).s.data.toList):DataW H)=(q i).s.data.toList.length+1:=by rw[Rows.uptoBulk]
    have h5:(q i).s.data.toList.length=(q i).s.size:=by rw[Array.length_toList];(first|done|rfl)
    have R:=F.1;rw[List.length_map,List.length_range]at R;exact⟨⟨wf_i64 y,wf_i64 A,wf_i64 B,wf_i64 C,V⟩,by rw[b];omega⟩
end
theorem g0:prog.globalNamed "internal/bytealg.MaxLen" = some 0:=by kernel_rfl
theorem g1:prog.globalNamed "strconv.ErrSyntax" = some 1:=by kernel_rfl
theorem g2:prog.globalNamed "strconv.ErrRange" = some 2:=by kernel_rfl
theorem g3:prog.globalNamed "internal/strconv.uint64pow10" = some 3:=by kernel_rfl
theorem OC(a:W.ShapedOpen prog):∃m,W.cell? (z 0)=some (.int .i64 m) :=
 cell_of_shapedOpen_int (zero:=#[.int .i64 0]) (t:=3) a (of_decide_eq_true (by kernel_rfl)) (by kernel_rfl) rfl (by kernel_rfl) (by kernel_rfl) underlying3
theorem OD(c:laidMetH prog Rows.slimsUptoRow.laid W):laidMetH prog [("internal/strconv.uint64pow10",Lib.tabData .u64 Lib.pow10Tab)] W:=by
 have a:=laidMetH.filter (λx=>x.1 == "internal/strconv.uint64pow10") c;have b:(Rows.slimsUptoRow.laid.filter λx=>x.1 == "internal/strconv.uint64pow10")=[("internal/strconv.uint64pow10",Lib.tabData .u64 Lib.pow10Tab)]:=by rfl
 rw[b]at a;exact a
theorem OE{H:Type}{enc:TypeId×Value->H}{P:Program}{w:World}{base:Nat}{e:Nat->Bool}{held:Bool}{b:Nat}{t:TypeId}{d:Array (String×TypeId)}{cs:List Value}{x:DataW H×List MemPlace}(a:P.underlying t=some (.interface d))(h:DataW.trod enc P w base e held b t cs=some x):∃v,cs=[v]/\(v=.nilIface\/∃u y,v=.iface u y):=by
 cases b with
 | zero=>simp[DataW.trod]at h
 | succ n =>
  cases cs with
  | nil=>simp[DataW.trod,a]at h
  | cons c r =>
   cases r with
   | nil=>cases c<;>simp[DataW.trod,a]at h⊢
   | cons _ _=>simp[DataW.trod,a]at h
theorem DV{c:String}{d:DataW Unit}{g:Nat}{t:TypeId}{o:Array (String×TypeId)}(b:prog.globalNamed c=some g)(l:(prog.globals[g]?).map (·.type)=some t)(j:prog.underlying t=some (.interface o))(h:laidMet prog [(c,d)] W):∃a,W.cell? (z g)=some a/\(a=.nilIface\/∃q p,a=.iface q p):=by obtain⟨x,⟨u,A,r,s,w,y,i,k,n,f,_,_⟩,_⟩:=h;obtain rfl:=Option.some.inj (b.symm.trans i);obtain rfl:=Option.some.inj (l.symm.trans k);obtain⟨v,e,m⟩:=OE j f;refine⟨v, ?_,m⟩;rw[World.var?_cell b n 0,<- Array.getElem?_toList,e];rfl
theorem ty1:(prog.globals[1]?).map (·.type)=some 260:=by kernel_rfl
theorem ty2:(prog.globals[2]?).map (·.type)=some 260:=by kernel_rfl
theorem ty3:(prog.globals[3]?).map (·.type)=some 348:=by kernel_rfl
theorem OG:prog.cellsOf 348=20:=by kernel_rfl
theorem OH:prog.cellsOf 321=1:=by kernel_rfl
theorem OI(f:laidMetH prog Rows.slimsUptoRow.laid W):∃ a,W.cell? (z 1)=some a/\(a=.nilIface\/∃ h g,a=.iface h g):=by have b:=laidMetH.filter (λx=>x.1 == "strconv.ErrSyntax") f;obtain⟨d,c,e⟩:∃ d,(Rows.slimsUptoRow.laid.filter λx=>x.1 == "strconv.ErrSyntax")=[("strconv.ErrSyntax",d)]/\d.handleName?.isNone=true:=⟨_,rfl,rfl⟩;rw[c,MakeChecks.laidMetH_plain _ _ _ (by simp[e])]at b;exact DV g1 ty1 underlying260 b
theorem OJ(f:laidMetH prog Rows.slimsUptoRow.laid W):∃ a,W.cell? (z 2)=some a/\(a=.nilIface\/∃ h g,a=.iface h g):=by have b:=laidMetH.filter (λx=>x.1 == "strconv.ErrRange") f;obtain⟨d,c,e⟩:∃ d,(Rows.slimsUptoRow.laid.filter λx=>x.1 == "strconv.ErrRange")=[("strconv.ErrRange",d)]/\d.handleName?.isNone=true:=⟨_,rfl,rfl⟩;rw[c,MakeChecks.laidMetH_plain _ _ _ (by simp[e])]at b;exact DV g2 ty2 underlying260 b
theorem DW(b:laidMetH prog Rows.slimsUptoRow.laid W):Lib.TabIs prog W "internal/strconv.uint64pow10" .u64 Lib.pow10Tab:=by have a:=OD b;rw[MakeChecks.laidMetH_plain _ _ _ (by kernel_rfl)]at a;exact Lib.tabIs_of_head g3 ty3 underlying348 underlying321 OH OG a
theorem QC(b:W.ShapedOpen prog)(a:laidMetH prog Rows.slimsUptoRow.laid W):Glob W :=
 ⟨OC b,OI a,OJ a,DW a,World.block_lt_of_cell? W (z 3) ((DW a).cell g3 0 Ψ)⟩
end
section
open Go.Proofs.Tryz Go.ChangeShapes Go.WideShapes Go.ChangeAt Go.RowKit Go.Deep
theorem own:ownKnob prog.godebug=none:=by kernel_rfl
theorem laidOut:laidOutB prog=true:=by kernel_rfl
theorem contract(H:Type)(enc:TypeId×Value->H)(W:World)(args:Array Value)(base:Nat)(ds c:List (DataW H))(s:List MemPlace)(a2:∀(a3:Nat)t v,Tryz.f5.params[a3]?=some t->args[a3]?=some v->Value.okWide prog W .any base t v)(i:DataW.Whole enc prog Tryz.f5.params.toList Rows.slimsSpec.vars false W args.toList ds c s)(h:Rows.uptoSmall H (ds++c)=true)(y:laidMetH prog Rows.slimsUptoRow.laid W)(A:W.ShapedOpen prog):Calls prog 5 args W λe W'=>∃v,e=.returned v/\Rows.slimsSpec.post enc prog Tryz.f5 false true false false W args v W':=by
 have b:=i;obtain⟨p,q,g,B,rfl,Y,Z⟩:=i;have f:DataW.TrodAll enc prog W 0 (λ_=>true) true Tryz.f5.params.toList args.toList ds p:=g;rw[Tryz.params5]at f a2;obtain⟨a,a1,d0,R,M,q0,X,rfl,rfl,d,N⟩:=trodAll_cons f;obtain⟨rfl,rfl,rfl⟩:=trodAll_nil N;obtain rfl:args=#[a]:=by cases args;simp_all
 obtain⟨rfl,rfl⟩:=trodVars_none B;clear g;simp only[List.append_nil]at b h;have j:Rows.uptoBulk d0<=1048576:=by have T:=of_decide_eq_true h;have U:=(wC [d0]).2 d0 (List.mem_singleton.2 rfl);omega
 have w:=d;obtain⟨S,k⟩:=d;have C:a.cells.toList=[a]:=by obtain⟨P,a0,Q,rfl⟩:=okWide_slice underlying22 (a2 0 22 a rfl rfl);rfl
 rw[C]at k;obtain⟨l,K,n⟩:=open_script k;have E:l.length<=1099511627776:=by
  cases l with
  | nil=>exact Nat.zero_le _
  | cons o r=>exact ς (n o (List.mem_cons_self ..) j).2 Ψ
 refine(J4 W (QC A y) a l K E (λo G=>(n o G j).1)).mono λe W' ⟨D,m⟩=>?_;subst D;have F:∀x∈M,x.block<W.heap.size:=λx L=>by simpa using b.lt x L
 exact⟨_,rfl,_,_,_,[],_,[],b,trodAll_mk1 (shut_bool underlying4 _),trodAll_mk1 (Below.trod laidOut (by kernel_rfl) (of_decide_eq_true (by kernel_rfl)) w m F),rfl,m.frame _,λu=>by cases u⟩
