import Derived.Test.YtfmmllpjgkgeaabGreatDoorRows
import Derived.Deep.Slices
import Derived.Test.YtfmmllpjgkgeaabGreatDoorZ47
set_option linter.all false
set_option maxHeartbeats 0
set_option maxRecDepth 100000
namespace Go.Proofs.YtfmmllpjgkgeaabGreatDoor
section
open Go.Proofs.Tryz
def YL{H:Type}(d:DataW H):0<Rows.uptoBulk d:=by unfold Rows.uptoBulk;split<;>omega
def yY{H:Type}(l:List (DataW H)):l.length<=Rows.uptoBulkAll l/\∀d∈l,Rows.uptoBulk d<=Rows.uptoBulkAll l:=by
 induction l with
 | nil=>exact⟨Nat.zero_le _,λd h=>absurd h List.not_mem_nil⟩
 | cons a r ih =>
  have b:=YL a;have e:Rows.uptoBulkAll (a::r)=Rows.uptoBulk a+Rows.uptoBulkAll r:=by rw[Rows.uptoBulkAll]
  rw[e,δ];refine⟨by have:=ih.1;omega,λd h=>?_⟩;rcases ϑL.1 h with rfl|h
  .omega
  .have:=ih.2 d h;omega
end
section
open Go.Proofs.Tryz Go.ChangeShapes Go.WideShapes Go.Deep
def Ib:prog.cellsOf 32=5:=by kernel_rfl
def YM:prog.cellsOf 3=1:=by kernel_rfl
def YN:prog.cellsOf 9=1:=by kernel_rfl
def BI{H:Type}(o:dM):DataW H:=.agg [.lit (.int .i64 o.kind),.lit (.int .i64 o.a),.lit (.int .i64 o.n),.lit (.int .i64 o.m),.lit (.string o.s.data.toList)]
def wf_i64{n:Int}(h:(Lit.int .i64 n).wf=true):-9223372036854775808<=n/\n<=9223372036854775807:=by unfold Lit.wf at h;simp only[γ,ϑs]at h;exact h
section
variable{H:Type}{enc:TypeId×Value->H}{w:World}{base:Nat}{spare:Nat->Bool}{held:Bool}
def Vk{i:Nat}{cs:List Value}{x:DataW H×List MemPlace}(j:DataW.trod enc prog w base spare held i 32 cs=some x):∃o:dM,cs=[.int .i64 o.kind,.int .i64 o.a,.int .i64 o.n,.int .i64 o.m,.string o.s]/\x=(BI o,[]) /\ (Lit.int .i64 o.kind).wf=true/\(Lit.int .i64 o.a).wf=true/\(Lit.int .i64 o.n).wf=true/\(Lit.int .i64 o.m).wf=true/\o.s.size<=maxLen:=by
 obtain⟨A,C,B,l,c,k,a⟩:=DataW.trod_struct underlying32 j;rw[Ib]at c
 match A,k,cs,c with
 | [y0,y1,y2,y3,y4],_,[v0,v1,v2,v3,v4],_ =>
  have g0:=a 0 _ rfl;have g1:=a 1 _ rfl;have g2:=a 2 _ rfl;have g3:=a 3 _ rfl;have b:=a 4 _ rfl;simp[YM,YN]at g0 g1 g2 g3 b;obtain⟨m,d,rfl,r⟩:=DataW.trod_int underlying3 g0;obtain⟨n,e,rfl,s⟩:=DataW.trod_int underlying3 g1;obtain⟨p,f,rfl,t⟩:=DataW.trod_int underlying3 g2;obtain⟨q,g,rfl,u⟩:=DataW.trod_int underlying3 g3;obtain⟨y,h,rfl,v⟩:=DataW.trod_string underlying9 b;cases d;cases e;cases f;cases g;cases h
  exact⟨⟨m,n,p,q,y⟩,rfl,by rw[l];rfl,r,s,t,u,v⟩
def open_script{Q:Nat}{v:Value}{x:DataW H×List MemPlace}(s:DataW.trod enc prog w base spare held Q 22 [v]=some x):∃u:List dM,yV w v u/\∀o∈u,(Rows.uptoBulk x.1<=1048576->o.ok/\u.length<=1048576):=by
 rcases open_slice underlying22 s with⟨t,rfl⟩|⟨p,len,L,m,n,D,Pl,W,hb,X,hm,Y,rfl,hx⟩
 .cases t;exact⟨[],τ ⟨_,_,rfl,rfl⟩,λo l=>absurd l Ω⟩
 .cases W;have a2:len<=m:=by rw[Y];split<;>omega
  have P:∀i,i<m->∃o:dM,(∃h,w.cells? base (p.add (i*5)) 5=some h/\h=[.int .i64 o.kind,.int .i64 o.a,.int .i64 o.n,.int .i64 o.m,.string o.s])/\D i=BI o /\
    (Lit.int .i64 o.kind).wf=true/\(Lit.int .i64 o.a).wf=true/\(Lit.int .i64 o.n).wf=true/\(Lit.int .i64 o.m).wf=true:=by
   intro i c;obtain⟨h,e,E⟩:=hx i c;rw[Ib]at e;obtain⟨o,r,N,y,A,B,C,_⟩:=Vk E;exact⟨o,⟨h,e,r⟩,congrArg (·.1) N,y,A,B,C⟩
  haveI:Inhabited dM:=⟨⟨0,0,0,0,⟨#[]⟩⟩⟩
  obtain⟨q,G⟩:=choose_lt P;have a3:∀i,i<len->∀j(a:j<5),w.cell? (p.add (i*5+j))=some ([Value.int .i64 (q i).kind,.int .i64 (q i).a,.int .i64 (q i).n,.int .i64 (q i).m,.string (q i).s][j]'a):=by intro i c j a;obtain⟨⟨h,e,r⟩,_⟩:=G i V;subst r;obtain⟨_,_,a3⟩:=World.cells?_some e;have:=a3 j (by simpa using a);rw[add_add]at this;rw[this];exact σ _
  obtain⟨g,d,K⟩:=p;by_cases t:len=0
  .subst t;exact⟨[],τ ⟨_,_,rfl,rfl⟩,λo l=>absurd l Ω⟩
  .have Z:=World.cell?_spot (a3 0 V 0 V);have a0:K=none:=by simpa[Addr.add]using Z
   subst a0;have b:((List.range len).map q).length=len:=Ω
   have k:∀j(s:j<((List.range len).map q).length),((List.range len).map q)[j]=q j:=λj s=>Ω
   refine⟨(List.range len).map q,υ ⟨g,d,L,by rw[b],by rw[b];exact X, ?_⟩,λo l T=>?_⟩
   .have f:∀i,i<len->∀j(a:j<5),w.cell? (O g (d+i*5+j))=some ([Value.int .i64 (q i).kind,.int .i64 (q i).a,.int .i64 (q i).n,.int .i64 (q i).m,.string (q i).s][j]'a):=λi c j a=>by
     have:=a3 i c j a;have M:((O g d):Addr).add (i*5+j)=(O g (d+(i*5+j))):=by simp[Addr.add]
     rw[show(d+i*5+j)=d+(i*5+j)by omega,<- M];exact this
    refine⟨?_,λj a=>?_,λj a=>?_,λj a=>?_,λj a=>?_,λj a=>?_⟩
    .exact ϑA w (O g _) (f 0 V 0 V)
    .rw[k j a];exact f j (by rw[b]at a;exact a) 0 V
    .rw[k j a];exact f j (by rw[b]at a;exact a) 1 V
    .rw[k j a];exact f j (by rw[b]at a;exact a) 2 V
    .rw[k j a];exact f j (by rw[b]at a;exact a) 3 V
    .rw[k j a];exact f j (by rw[b]at a;exact a) 4 V
   .obtain⟨i,c,rfl⟩:=ι.1 l;have a1:=ϑp.1 c;obtain⟨_,S,y,A,B,C⟩:=G i V;have U:Rows.uptoBulk (DataW.slice ((List.range len).map D) ((List.range (m-len)).map λj=>D (len+j)))<=1048576:=T;rw[Rows.uptoBulk]at U;have F:=yY ((List.range len).map D);have e:=F.2 (D i) (ι.2 ⟨i,c,rfl⟩);rw[S]at e;have E:=(yY [(.lit (.int .i64 (q i).kind):DataW H),.lit (.int .i64 (q i).a),.lit (.int .i64 (q i).n),.lit (.int .i64 (q i).m),.lit (.string (q i).s.data.toList)]).2 (.lit (.string (q i).s.data.toList)) Ω;have h3:Rows.uptoBulk (BI (H:=H) (q i))=Rows.uptoBulkAll [(.lit (.int .i64 (q i).kind):DataW H),.lit (.int .i64 (q i).a),.lit (.int .i64 (q i).n),.lit (.int .i64 (q i).m),.lit (.string (q i).s.data.toList)]+1:=by unfold BI;rw[Rows.uptoBulk]
    have h4:Rows.uptoBulk (.lit (.string (q i).s.data.toList):DataW H)=(q i).s.data.toList.length+1:=by rw[Rows.uptoBulk]
    have h5:(q i).s.data.toList.length=(q i).s.size:=by rw[Array.length_toList];(first|done|rfl)
    have R:=F.1;rw[ϑh,List.length_range]at R;exact⟨⟨wf_i64 y,wf_i64 A,wf_i64 B,wf_i64 C,V⟩,by rw[b];omega⟩
