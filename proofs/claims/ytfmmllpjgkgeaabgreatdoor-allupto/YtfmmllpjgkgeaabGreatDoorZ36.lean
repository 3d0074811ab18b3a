import Derived.Test.YtfmmllpjgkgeaabGreatDoorZ35
set_option linter.all false
set_option maxHeartbeats 0
set_option maxRecDepth 100000
namespace Go.Proofs.YtfmmllpjgkgeaabGreatDoor
open Go.Proofs.Tryz Go.RowKit Go.Maps Go.WideMaps Go.Deep
def Z5(r a:Int)(w:World)(h:r<1\/6<r\/a<0\/50<a):Calls prog 10 #[I r,I a] w λe b=>e=.returned (.tuple #[.pointer none,I 1])/\b=w:=by
 have c:(decide (r<1)||decide (6<r)||decide (a<0)||decide (50<a))=true:=Θ
 go_enter func10,ntmps10;go_wp2;all_goals first|(go_ret2;exact⟨rfl,rfl⟩)|(exfalso;omega)
def Tryz.infoPR:(prog.info? 78).map (λi=>(i.zero,i.size,i.bytes))=some (some (.pointer none),1,8):=by kernel_rfl
def Tryz.infoInt8:(prog.info? 3).map (λi=>(i.zero,i.size,i.bytes))=some (some (I 0),1,8):=by kernel_rfl
def UH(l:List Nat):List Value:=l.map λn:Nat=>I n
def Qg{w:World}{B:Nat}{v:Value}{l:List Nat}(h:w.ownsRow B 3 1 v l.length (UH l)):lg w v l:=by
 have d:=h;obtain⟨_,⟨a,b⟩|⟨g,c,k,a,b,e,f,_⟩⟩:=h
 .exact τ ⟨a,List.length_eq_zero_iff.1 b⟩
 .refine υ ⟨g,0,c,a,f,(Array.getElem?_eq_some_iff.1 e).1,λj i=>?_⟩;have:=d.cells (g:=g) (by rw[a];rfl) j (I (l[j])) (by simp[UH,i]);rw[Addr.add_lit]at this;exact this
def Qh(w:World)(i n:Nat)(hn:n<=6)(W:i<=6):Calls prog 29 #[I i,I n] w λe w'=>∃v,e=.returned v/\lg w' v (others i n)/\Below w.heap.size w w':=by
 obtain⟨L,D,G,H,K⟩:=info_parts Tryz.infoInt8;go_enter func29,ntmps29;go_wp2_with fail;go_loopg [5,6,8] n (λm Q R S p=>∃j:Nat,j+m=n/\S=I j/\Below w.heap.size w p/\p.ownsRow w.heap.size 3 1 Q (others i j).length (UH (others i j)));case atStart=>exact⟨0,V,rfl,φ _ _,ϑj _ _ _ _⟩
 case round =>
  obtain⟨j,X,rfl,g,h⟩:=hrel;have d:=ω g;have c:=ω h;have F:=g.size;have Y:=Eh i j;have E:∃l cap,u5=.slice l (others i j).length cap:=by
   rcases h.2 with⟨f,u⟩|⟨m,r,U,f,_⟩
   .exact⟨none,0,by rw[f,u]⟩
   .exact⟨_,r,f⟩
  obtain⟨l,cap,rfl⟩:=E;clear g h;by_cases Z:j<n
  .have Hs:=MW i j;have k:=ω Hs;clear Hs;generalize others i j=b at *;by_cases e:j=i
   .have a:((j:Int)=(i:Int)):=V
    have B:((j:Int) !=(i:Int))=false:=by simpa using a
    have C:decide ((j:Int)≠(i:Int))=false:=by simpa using a
    subst e;clear a B C;go_wp2_with fail;go_roundg (n-(j+1));case measure=>omega
    case rel=>exact⟨j+1,V,Λ,d.o,by have o:=k.o;simp at o;rw[o];exact c.o⟩
   .have a:¬((j:Int)=(i:Int)):=V
    have q:=ω<|λP=>c.o.alloc P
    have x:b.length+1<=maxLen:=by unfold maxLen;omega
    have y:(b.length+1)*8<=140737488355328:=V
    go_wp2_with (first|(at_builtin;refine wpList_append_own_at _ rfl (.tmp 14) (.tmp 16) 62 rfl w.heap.size 3 L (I 0) 1 8 underlying62 D G H K rfl Ψ _ _ _ rfl (q.o _) (z wr.heap.size) 1 1 [I j] rfl rfl (cell_one_new _ _ _) (by simp[Value.oneCell']) x y Θ ?_;intro R w6 N t T yE));have A:Below w.heap.size w w6:=(d.o.alloc F _).grown t Θ (λM e=>(c.o.lt M e).1);go_roundg (n-(j+1));case measure=>omega
    case rel =>
     refine⟨j+1,V,Λ,A, ?_⟩;rw[k.o,ύ e,ρ];have s:UH (b++[j])=UH b++[I j]:=by simp[UH]
     rw[s];exact N
  .have e:j=n:=V
   subst e;go_wp2_with fail;go_ret;exact⟨_,rfl,Qg c.o,d.o⟩
def XU(r j:Nat)(w:World)(G:Glob w)(h1:1<=r)(F:r<=6)(a0:j<=50):Calls prog 10 #[I r,I j] w λe b=>∃rv ds,e=.returned (.tuple #[.pointer (some (z w.heap.size)),I 0])/\ds.length=r/\Js w b rv r j ds:=by
 obtain⟨iR,VU,S,T,U⟩:=info_parts Tryz.infoPR;have W:=ω G;clear G;go_enter func10,ntmps10;go_wp2;go_loopw [25] (λq wr=>∃(ds:List RD)(rv:Value),ds.length<=r/\q=I ds.length/\Js w wr rv r j ds) (λq _=>r-(intOf q).toNat);case atStart =>exact⟨[],.slice none 0 0,Ω,rfl,aC.new w _ _,ϑj _ _ _ _,λs h=>absurd h Ω,λq s hi=>absurd hi Ω,(φ _ _).alloc (χ _) _⟩
 case round =>
  obtain⟨ds,rv,K,rfl,ae⟩:=hrel;by_cases a9:ds.length<r
  .have d:=ω ae;have ac:=ae.blk.lt;have c1:wr.drew.cell? (O w.heap.size 2)=some rv:=(ae.blk.cell 2).trans rfl;have m1:J<|ds.length+1<=maxLen:=by unfold J maxLen;omega
   have m2:J<|(ds.length+1)*8<=140737488355328:=ω V
   have a4:J<|rv.ownBlock≠some w.heap.size:=ae.ne ae.blk Ψ;have a1:ds.length<=5:=V
   have a2:Below wr.heap.size wr wr.drew:=(φ _ wr).drew;have Y:J<|∀wx,Below wr.heap.size wr wx->Calls prog 29 #[I ds.length,I r] wx λe b=>∃f n g,e=.returned (.slice f n g)/\(lg b (.slice f n g) (others ds.length r)/\Below wr.heap.size wr b)/\b.cell? (O w.heap.size 2)=some rv:=λwx H=>by refine ψ (Qh wx ds.length r F V) ?_;rintro e b⟨v,rfl,D,h3⟩;obtain⟨f,g,rfl⟩:=D.shape;have E:=H.trans (h3.mono H.size);exact⟨f,_,g,rfl,⟨D,E⟩,((d.o.blk.below E).cell 2).trans rfl⟩
   have Z:J<|∀wx c f n g,(lg c (.slice f n g) (others ds.length r)/\Below wr.heap.size wr c)->wx.heap=c.heap->wx.os=c.os->wx.tape=c.tape->wx.output=c.output->Calls prog 28 #[I ds.length,I j,.slice f n g] wx λe b=>∃i af,e=.returned (.pointer (some (z i)))/\(af.rb=i/\cO b af/\(∃i ag o m,af=GH i ag o m ds.length j r)/\(∀t,af.own t->wr.heap.size<=t)/\Below wr.heap.size wr b)/\b.cell? (O w.heap.size 2)=some rv/\∀B,(b.alloc B).cell? (O w.heap.size 2)=some rv:=λwx c f n g k N ho ht hp=>by have C:Below c.heap.size c wx:=⟨ho,ht,hp,by rw[N];exact χ _,λt _=>by rw[N]⟩;have p:Below wr.heap.size wr wx:=k.2.trans (C.mono k.2.size);have a3:=d.o.bel.trans (p.mono d.o.bel.size);refine ψ (Qc wx (W.o.mono a3) ds.length j _ (others ds.length r) (k.1.below C) a1 a0 (λs l=>by have:=(Ef.1 l).1;omega) (ς (Eh _ _) F)) ?_;rintro e b⟨i,ag,o,m,rfl,a,h8,h9⟩;have aa:=p.size;have y:=p.trans (h9.mono p.size);exact⟨i,GH i ag o m ds.length j r,rfl,⟨rfl,a,⟨i,ag,o,m,rfl⟩,λt K=>by have:=UG K;omega,y⟩,((d.o.blk.below y).cell 2).trans rfl,λB=>(((d.o.blk.below y).alloc B).cell 2).trans rfl⟩
   clear ae;go_wp2_with fail
   go_region_law (first|(go_simp;refine ψ (Z.o _ c _ _ _ k rfl rfl rfl rfl) ?_;rintro e w7⟨R,q7,rfl,a,d1,a8⟩)|(go_simp;refine ψ (Y.o _ a2) ?_;rintro e c⟨a6,n5,a7,rfl,k,e1⟩)|(refine jL rfl (.tmp 32) (.tmp 39) 74 rfl w.heap.size 78 iR (.pointer none) 1 8 underlying74 VU S T U rfl Ψ rv ds.length (ptrs (ds.map RD.rb)) rfl ?_ _ 1 1 [.pointer (some (z R))] rfl rfl ?_ ?_ m1.o m2.o ?_ ?_;(exact(own_below d.o.row a.2.2.2.2).alloc _);(intro s u l;match s,l with|0,l=>(cases l;simp[Addr.add]));(intro u M;simp at M;subst M;rfl);(have ad:=a.2.2.2.2.size;simp;omega);intro v6 w6 A x;obtain⟨g6,c6,rfl⟩:=dK A (Nat.succ_pos _);have Q:=(d.o.blk.below a.2.2.2.2).alloc (.cells #[.pointer (some (z R))] 78);have P:aC w6 w.heap.size #[.int .i32 0,.int .u32 0,rv,.slice none 0 0] 77:=((x.block _ Q.lt (Ne.symm a4.o)).trans Q);have k1:=(P.cell 2).trans rfl;have kf:=P.frozen))
   all_goals
    obtain⟨a5,a⟩:=a;subst a5;have L:=d.o.more a.2.2.2 a.1 a.2.1 a.2.2.1 A x;have X:J<|_:=L;clear L a A x;go_wp2;go_roundw;case rel=>exact⟨ds++[q7],.slice (some (z g6)) (ds.length+1) c6,by simp<;>omega,by simp<;>go_num,X.o⟩
    case measure=>simp[intOf];omega
  .have d:=ω ae;have hr:ds.length=r:=V
   clear ae;go_wp2;go_ret2;exact⟨rv,ds,rfl,hr,d.o⟩
