import Derived.Test.YtfmmllpjgkgeaabGreatDoorZ12
set_option linter.all false
set_option maxHeartbeats 0
set_option maxRecDepth 100000
namespace Go.Proofs.YtfmmllpjgkgeaabGreatDoor
section
open Go.Proofs.Tryz Go.RowKit Go.Maps Go.WideMaps
variable{ns:List Nat}{w:World}
def newS(s o:jF)(d:Nat):Prop:=s.S d/\¬(o.S d/\(s.It d=none↔o.It d=none))
open Classical in
noncomputable def Ub(s o:jF)(d:Nat):Option Value:=if newS s o d then s.It d else none
open Classical in
noncomputable def jZ(s o:jF)(ns:List Nat)(i:Nat)(d:Nat):Option Value:=if d∈ns.take i/\newS s o d then s.It d else none
def dN.at{d:Option Addr}{n e:Nat}(h:dN w (.slice d n e) ns)(i:Nat)(c:i<ns.length):∃b a,d=some (O b a)/\n=ns.length/\n<=e/\w.cell? (O b (a+i*2))=some (I (who ns[i]))/\w.cell? (O b (a+i*2+1))=some (I (nth ns[i])):=by
 rcases h with⟨_,rfl⟩|⟨b,a,k,f,j,l,g⟩
 .simp at c
 .simp only[ϑa]at f;obtain⟨rfl,rfl,rfl⟩:=f;exact⟨b,a,rfl,rfl,j,(g i c).1,(g i c).2⟩
def dN.shape{v:Value}(h:dN w v ns):∃a cap,v=.slice a ns.length cap:=by
 rcases h with⟨rfl,rfl⟩|⟨b,c,cap,rfl,_⟩
 .exact⟨none,0,rfl⟩
 .exact⟨_,cap,rfl⟩
structure SN(w:World)(s o:jF)(ns:List Nat)(sv:Value)(ib cb lb B:Nat)(S:Nat->Prop)(It:Nat->Option Value)(wx:World):Prop where
 st:aP wx ib cb lb S It
 sat:s.At wx
 oat:o.At wx
 sl:dN wx sv ns
 olds:∀k,Value.map s.io=.map (some k)\/Value.map s.co=.map (some k)\/Value.map s.lo=.map (some k)->k<w.heap.size
 ar5:∀k,Value.map o.io=.map (some k)\/Value.map o.co=.map (some k)\/Value.map o.lo=.map (some k)->k<w.heap.size
 new:w.heap.size+3<=ib/\w.heap.size+3<=cb/\w.heap.size+3<=lb/\ib<B/\cb<B/\lb<B
 svn:∀b,sv.ownBlock=some b->B<b
 bs:aC wx w.heap.size #[.map s.io,.map s.co,.map s.lo] 101
 bo:aC wx (w.heap.size+1) #[.map o.io,.map o.co,.map o.lo] 101
 r0:aC wx (w.heap.size+2) #[.map none,.map none,.map none] 101
 bx:aC wx B #[.map (some ib),.map (some cb),.map (some lb)] 101
 below:Below w.heap.size w wx
section
variable{w:World}{s o:jF}{ns:List Nat}{sv:Value}{ib cb lb B:Nat}{S S':Nat->Prop}{It It':Nat->Option Value}{wx wy:World}
def SN.turn(h:SN w s o ns sv ib cb lb B S It wx)(a:aA (λk=>k=ib\/k=cb\/k=lb) wx wy)(c:aP wy ib cb lb S' It'):SN w s o ns sv ib cb lb B S' It' wy:=by have d:=h.new;refine⟨c,h.sat.aJ a (λk b m=>by have:=h.olds k b;omega),h.oat.aJ a (λk b m=>by have:=h.ar5 k b;omega),h.sl.aJ a (λk b m=>by have:=h.svn k b;omega),h.olds,h.ar5,h.new,h.svn,h.bs.aJ a V,h.bo.aJ a V,h.r0.aJ a V,h.bx.aJ a V, ?_⟩;exact h.below.trans ⟨a.os,a.tape,a.output,a.size,λk b=>a.block k (ο b h.below.size) V⟩
def SN.mono(h:SN w s o ns sv ib cb lb B S It wx)(a:Below wx.heap.size wx wy):SN w s o ns sv ib cb lb B S It wy:=h.turn (aA.of_below a) (h.st.below a)
def SN.iff(h:SN w s o ns sv ib cb lb B S It wx)(a:∀n,1<=nth n->(S' n↔S n))(b:It'=It):SN w s o ns sv ib cb lb B S' It' wx:=by subst b;exact h.turn (aA.refl _ _) ⟨h.st.ctx.iff a,h.st.its,h.st.ne,λn c=>by have:=h.st.ok n c;exact⟨this.1,(a n this.1.2.1).2 this.2⟩⟩
end
open Classical in
def PN{s o:jF}{i:Nat}(f:i<ns.length)(j:ns.Nodup):jZ s o ns (i+1)=λk=>if k=ns[i]/\newS s o k then s.It k else jZ s o ns i k:=by
 funext k;unfold jZ;have:k∈ns.take (i+1)↔k∈ns.take i\/k=ns[i]:=by rw[ν f,θ,ϑe]
 by_cases a:newS s o k
 .by_cases b:k=ns[i]
  .rw[ώ ⟨this.2 (υ b),a⟩,ώ ⟨b,a⟩]
  .have g:¬(k=ns[i]/\newS s o k):=λh=>b h.1;rw[ύ g];by_cases c:k∈ns.take i
   .have d:k∈ns.take (i+1)/\newS s o k:=⟨this.2 (τ c),a⟩;have e:k∈ns.take i/\newS s o k:=⟨c,a⟩;rw[ώ d,ώ e]
   .have d:¬(k∈ns.take (i+1)/\newS s o k):=λh=>(this.1 h.1).elim c b;have e:¬(k∈ns.take i/\newS s o k):=λh=>c h.1;rw[ύ d,ύ e]
 .rw[ύ (λh=>a h.2),ύ (λh=>a h.2),ύ (λh=>a h.2)]
def DJ{It:Nat->Option Value}(n:Nat)(a:∀n v,It n=some v->Ad v):∃b d c e,(im It (aW n)).getD (.agg #[.string ⟨#[]⟩,.int .u8 0,.string ⟨#[]⟩,I 0])=.agg #[.string b,.int .u8 d,.string c,I e]/\∀v,It n=some v->v=.agg #[.string b,.int .u8 d,.string c,I e]:=by
 rw[jh];cases h:It n with
 | none=>exact⟨_,_,_,_,rfl,λv a=>by cases a⟩
 | some v =>obtain⟨b,d,c,e,rfl⟩:=a n v h;exact⟨b,d,c,e,rfl,λv a=>by cases a;rfl⟩
def aB3:Prop:=∀(w:World)(co lo:Option Nat)(c:Nat->Nat)(L:Nat->Bool),ni w (.map co) (.map lo) c L ->
  Calls prog 202 #[.agg #[.map co,.map lo]] w λe w'=>∃v ns,e=.returned v/\dN w' v ns/\ns.Nodup/\(∀d,d∈ns↔1<=nth d/\oW c L d)/\(∀b,v.ownBlock=some b->w.heap.size<=b)/\Below w.heap.size w w'
open Classical in
def Xe(b4:aB3)(w:World)(s o:jF)(h:s.At w)(ho:o.At w):Calls prog 143 #[.agg #[.map s.io,.map s.co,.map s.lo],.agg #[.map o.io,.map o.co,.map o.lo]] w λe w'=>∃ib cb lb,e=.returned (.agg #[.map (some ib),.map (some cb),.map (some lb)])/\aP w' ib cb lb (newS s o) (Ub s o)/\(w.heap.size<=ib/\w.heap.size<=cb/\w.heap.size<=lb)/\Below w.heap.size w w':=by
 have HL:=ω b4;clear b4;have HS:=ω h;have HO:=ω ho;clear h ho;go_enter func143,ntmps143;go_wp2_with fail;have k0:aC (((w.alloc (.cells #[.map s.io,.map s.co,.map s.lo] 101)).alloc (.cells #[.map o.io,.map o.co,.map o.lo] 101)).alloc (.cells #[.map none,.map none,.map none] 101)) w.heap.size #[.map s.io,.map s.co,.map s.lo] 101:=((aC.new w _ _).alloc _).alloc _;have k1:aC (((w.alloc (.cells #[.map s.io,.map s.co,.map s.lo] 101)).alloc (.cells #[.map o.io,.map o.co,.map o.lo] 101)).alloc (.cells #[.map none,.map none,.map none] 101)) (w.heap.size+1) #[.map o.io,.map o.co,.map o.lo] 101:=by have:=(aC.new (w.alloc (.cells #[.map s.io,.map s.co,.map s.lo] 101)) #[.map o.io,.map o.co,.map o.lo] 101).alloc (.cells #[.map none,.map none,.map none] 101);rwa [ϊ]at this
 have k2:aC (((w.alloc (.cells #[.map s.io,.map s.co,.map s.lo] 101)).alloc (.cells #[.map o.io,.map o.co,.map o.lo] 101)).alloc (.cells #[.map none,.map none,.map none] 101)) (w.heap.size+2) #[.map none,.map none,.map none] 101:=by have:=aC.new ((w.alloc (.cells #[.map s.io,.map s.co,.map s.lo] 101)).alloc (.cells #[.map o.io,.map o.co,.map o.lo] 101)) #[.map none,.map none,.map none] 101;simp only[ϊ]at this;exact this
 have ag:Below w.heap.size w (((w.alloc (.cells #[.map s.io,.map s.co,.map s.lo] 101)).alloc (.cells #[.map o.io,.map o.co,.map o.lo] 101)).alloc (.cells #[.map none,.map none,.map none] 101)):=(((φ _ w).alloc (χ _) _).alloc Ω _).alloc Θ _;have e1:(((w.alloc (.cells #[.map s.io,.map s.co,.map s.lo] 101)).alloc (.cells #[.map o.io,.map o.co,.map o.lo] 101)).alloc (.cells #[.map none,.map none,.map none] 101)).heap.size=w.heap.size+3:=Ω
 generalize (((w.alloc (.cells #[.map s.io,.map s.co,.map s.lo] 101)).alloc (.cells #[.map o.io,.map o.co,.map o.lo] 101)).alloc (.cells #[.map none,.map none,.map none] 101))=w0 at *;refine ψ (sF _ (.slice none 0 0) [] (τ ⟨rfl,rfl⟩) Ω Ω) ?_;rintro e w1⟨ib,cb,lb,rfl,al,S,y⟩;have b8:=al.lt;rw[e1]at S;have T:J<|∀a,a=.cells #[.map (some ib),.map (some cb),.map (some lb)] 101->∀W ns sv,Below (w1.alloc a).heap.size (w1.alloc a) W->dN W sv ns->(∀b,sv.ownBlock=some b->(w1.alloc a).heap.size<=b)->SN w s o ns sv ib cb lb w1.heap.size (λd=>d∈ns.take 0/\newS s o d) (jZ s o ns 0) W:=λa bi W ns sv b6 a4 aa=>by
  subst bi;have a1:Below w.heap.size w w1:=ag.trans (y.mono V);have hz:=(φ _ w1).alloc (χ _) (.cells #[.map (some ib),.map (some cb),.map (some lb)] 101);have a5:=hz.trans (b6.mono hz.size);have ae:=a1.trans (a5.mono a1.size);have e2:jZ s o ns 0=λ_=>none:=by funext k;unfold jZ;rw[ύ Ω]
  have an:=al.below a5;have bx:=y.size;refine⟨⟨an.ctx.iff (λn _=>Ω),by rw[e2];exact an.its,an.ne,λn D=>by rw[e2]at D;exact absurd rfl D⟩,HS.o.aJ (M:=λ_=>False) (aA.of_below ae) (λ_ _ h=>h),HO.o.aJ (M:=λ_=>False) (aA.of_below ae) (λ_ _ h=>h),a4,λk c=>HS.o.r.lt k c,λk c=>HO.o.r.lt k c,V,λb K=>by have:=aa b K;simp at this;omega,(k0.below y).below a5,(k1.below y).below a5,(k2.below y).below a5, ?_,ae⟩;exact(b6.block _ Ω).trans (aC.new w1 _ _)
 have HC:J<|∀a,∃l L,ni (w1.alloc a) (.map s.co) (.map s.lo) l L/\∀d,1<=nth d->(s.S d↔oW l L d):=λa=>by have a1:Below w.heap.size w w1:=ag.trans (y.mono V);obtain⟨l,L,j,_,f⟩:=HS.o.r.ctx;exact⟨l,L,j.below (a1.trans (((φ _ w1).alloc (χ _) a).mono a1.size)),f⟩
 have YW:J<|∀a,(w1.alloc a).cell? (O w.heap.size 1)=some (.map s.co)/\(w1.alloc a).cell? (O w.heap.size 2)=some (.map s.lo):=λa=>⟨(((k0.below y).alloc a).cell 1).trans rfl,(((k0.below y).alloc a).cell 2).trans rfl⟩;have c1:=λa=>(YW.o a).1;have c2:=λa=>(YW.o a).2;clear al y k0 k1 k2 ag e1 HS HO YW S b8;go_wp2_with fail;obtain⟨l,L,C,a2⟩:=HC.o (.cells #[.map (some ib),.map (some cb),.map (some lb)] 101);refine ψ (HL.o _ s.co s.lo l L C) ?_;rintro e w2⟨sv,ns,rfl,a4,ak,R,aa,b5⟩;obtain⟨ao,ax,bo⟩:=a4.shape;have HN:J<|ns.Nodup/\∀d,d∈ns↔1<=nth d/\s.S d:=⟨ak,λd=>(R d).trans (and_congr_right λhd=>(a2 d hd).symm)⟩;have Cj:J<|∀d∈ns,okD d:=λd hd=>by
  obtain⟨j,f|f⟩:=(R d).1 hd
  .have h3:=C.vC (who d);exact⟨C.c5 _ V,j,V⟩
  .exact(C.CV d f).1
 have hA:=T.o _ rfl w2 ns sv b5 a4 aa;have bt:=lI 3072 ns ak (λd hd=>ng (Cj.o d hd));subst bo;clear T HC C a2 a4 ak R aa b5 c1 c2;have T:=ω hA;clear hA;go_wp2_with fail;go_loopg [17] ns.length (λg bq wx=>∃i:Nat,i+g=ns.length/\bq=I i/\SN w s o ns (.slice ao ns.length ax) ib cb lb w1.heap.size (λd=>d∈ns.take i/\newS s o d) (jZ s o ns i) wx);case atStart=>exact⟨0,V,rfl,T.o⟩
 case round =>
  obtain⟨i,bs,rfl,bz⟩:=hrel;have B:=ω bz;clear T;by_cases hi:i<ns.length
  .obtain⟨b,bp,bf,_,br,q0,q1⟩:=bz.sl.at i hi;subst bf;obtain⟨n,D⟩:∃n,n=ns[i]:=⟨_,rfl⟩;rw[<- D]at q0 q1;have R:n∈ns:=by rw[D];exact κ hi
   have a3:=Cj.o n R;have be:=((HN.o.2 n).1 R).2;have bh:=a3.2.1;have Kr:=a3.1;obtain⟨kl,a8⟩:=keyE n V;have U:J<|jZ s o ns (i+1)=λk=>if k=n/\newS s o k then s.It k else jZ s o ns i k:=ω<|by rw[PN hi HN.o.1,D]
   have X:J<|∀k,k∈ns.take (i+1)↔k∈ns.take i\/k=n:=λk=>by rw[ν hi,<- D,θ,ϑe]
   clear D;obtain⟨E,A,F,G,hu,bc⟩:=DJ (It:=s.It) n bz.sat.v;obtain⟨y0,y1,y2,y3,bb,_⟩:=DJ (It:=o.It) n bz.oat.v;obtain⟨here,Q⟩:∃b:Bool,(s.It n).isSome=b:=⟨_,rfl⟩;obtain⟨was,ZG⟩:∃b:Bool,(o.It n).isSome=b:=⟨_,rfl⟩;have hc:(im s.It (aW n)).isSome=here:=by rw[jh];exact Q
   have b7:(im o.It (aW n)).isSome=was:=by rw[jh];exact ZG
   have aw:=ω bc;obtain⟨Ni,az⟩:=bz.sat.r.its;obtain⟨No,b3⟩:=bz.oat.r.its;have HI:J<|∀wy,Below wr.heap.size wr wy->dQ prog 140 wy (.map s.io) Ni (im s.It):=λwy K=>az.below K;have aq:J<|∀wy,Below wr.heap.size wr wy->dQ prog 140 wy (.map o.io) No (im o.It):=λwy K=>b3.below K;have a0:=(bz.bs.cell 0).trans rfl;have b0:=(bz.bo.cell 0).trans rfl;have b1:=(bz.bo.cell 1).trans rfl;have b2:=(bz.bo.cell 2).trans rfl;have b8:=bz.bx.lt;have bg:=bz.new;have bv:w.heap.size+2<wr.heap.size:=V
   have Hc:J<|∃l L,ni wr (.map o.co) (.map o.lo) l L/\∀d,1<=nth d->(o.S d↔oW l L d):=by obtain⟨l,L,j,_,f⟩:=bz.oat.r.ctx;exact⟨l,L,j,f⟩
   clear bz bc az b3;have z0:∀a,(wr.alloc a).cell? (z w.heap.size)=some (.map s.io):=λa=>((B.o.bs.alloc a).cell 0).trans rfl;have z1:∀a r,((wr.alloc a).alloc r).cell? (z (w.heap.size+1))=some (.map o.io):=λa r=>(((B.o.bo.alloc a).alloc r).cell 0).trans rfl;have z2:∀a r H,(((wr.alloc a).alloc r).alloc H).cell? (O (w.heap.size+1) 1)=some (.map o.co):=λa r H=>((((B.o.bo.alloc a).alloc r).alloc H).cell 1).trans rfl;have z3:∀a r H,(((wr.alloc a).alloc r).alloc H).cell? (O (w.heap.size+1) 2)=some (.map o.lo):=λa r H=>((((B.o.bo.alloc a).alloc r).alloc H).cell 2).trans rfl;go_wp2_with (first|(at_lookup;refine iY rfl (.tmp 23) (.tmp 24) 95 rfl 85 jE underlying95 (zCh _) rfl (HI.o _ ?_) (aW n) _ rfl a8 _ hu _ hc ?_;(go_grown))|(at_lookup;refine iY rfl (.tmp 30) (.tmp 31) 95 rfl 85 jE underlying95 (zCh _) rfl (aq.o _ ?_) (aW n) _ rfl a8 _ bb _ b7 ?_;(go_grown)));have hW:∀W,W=(((wr.alloc (.cells #[I (who n),I (nth n)] 140)).alloc (.cells #[.string E,.int .u8 A,.string F,I G] 85)).alloc (.cells #[.string y0,.int .u8 y1,.string y2,I y3] 85))->Below wr.heap.size wr W/\aC W wr.heap.size #[I (who n),I (nth n)] 140/\aC W (wr.heap.size+1) #[.string E,.int .u8 A,.string F,I G] 85:=λW hW=>by subst hW;refine⟨(((φ _ wr).alloc (χ _) _).alloc Ω _).alloc Θ _,((aC.new wr _ _).alloc _).alloc _, ?_⟩;have:=(aC.new (wr.alloc (.cells #[I (who n),I (nth n)] 140)) #[.string E,.int .u8 A,.string F,I G] 85).alloc (.cells #[.string y0,.int .u8 y1,.string y2,I y3] 85);rwa [ϊ]at this
   have hW:=hW _ rfl;generalize (((wr.alloc (.cells #[I (who n),I (nth n)] 140)).alloc (.cells #[.string E,.int .u8 A,.string F,I G] 85)).alloc (.cells #[.string y0,.int .u8 y1,.string y2,I y3] 85))=W3 at *;obtain⟨a6,kd,kc⟩:=hW;obtain⟨l,L,C,a2⟩:=Hc.o;have av:=ω<|a2 n bh
   refine ψ (IC W3 _ _ l n L (C.below a6) Kr) ?_;rintro e w4⟨rfl,a7⟩;have m:=B.o.mono (a6.trans (a7.mono a6.size));have ab:=kd.below a7;have Zz:=kc.below a7;have bu:=Zz.lt;clear a6 a7 kd kc Hc C a2 z0 z1 z2 z3 a0 b0 b1 b2 q0 q1 HI aq hc b7 hu bb;obtain⟨c4,ai⟩:∃c4:Bool,c4=(decide (nth n<=l (who n))||L n):=⟨_,rfl⟩;have HH:J<|c4=true↔o.S n:=ω<|by rw[av.o,ai];simp[oW]
   rw[<- ai];clear ai av;have ad:J<|(here=was)->o.S n->jZ s o ns (i+1)=jZ s o ns i/\∀k,(k∈ns.take (i+1)/\newS s o k)↔(k∈ns.take i/\newS s o k):=λhe bj=>by
    have b9:¬newS s o n:=λh=>h.2 ⟨bj,by rw[<- Option.not_isSome_iff_eq_none,<- Option.not_isSome_iff_eq_none,Q,ZG,he]⟩;refine⟨?_,λk=>?_⟩
    .rw[U.o];funext k;by_cases e:k=n
     .subst e;rw[ύ (λh=>b9 h.2)]
     .rw[ύ (λh=>e h.1)]
    .rw[X.o];constructor
     .rintro⟨j|rfl,f⟩
      .exact⟨j,f⟩
      .exact absurd f b9
     .rintro⟨j,f⟩;exact⟨τ j,f⟩
   have PS:J<|¬(o.S n/\here=was)->newS s o n:=λh=>⟨be,λ⟨j,f⟩=>h ⟨j,by
    rw[<- Q,<- ZG];cases ha:s.It n with
    | none=>rw[f.1 ha]
    | some v=>cases K:o.It n with
     | none=>have:=f.2 K;rw[ha]at this;cases this
     | some v'=>rfl⟩⟩
   have Xf:J<|∀k,newS s o n->((k∈ns.take (i+1)/\newS s o k)↔(k∈ns.take i/\newS s o k)\/k=n):=λk c=>by
    rw[X.o];constructor
    .rintro⟨j|rfl,f⟩
     .exact τ ⟨j,f⟩
     .exact υ rfl
    .rintro(⟨j,f⟩|rfl)
     .exact⟨τ j,f⟩
     .exact⟨υ rfl,c⟩
   have JG:=ω m;by_cases a9:c4=true/\here=was
   .obtain⟨rfl,rfl⟩:=a9;have t:=ad.o rfl (HH.o.1 rfl);clear m PS Xf U X ad;go_wp2_with fail;go_roundg (ns.length-(i+1));case measure=>omega
    case rel=>exact⟨i+1,V,Λ,JG.o.iff (λk _=>t.2 k) t.1⟩
   .have S:=PS.o (λh=>a9 ⟨HH.o.2 h.1,h.2⟩);have g0:=(m.bx.cell 0).trans rfl;have g1:=(m.bx.cell 1).trans rfl;have g2:=(m.bx.cell 2).trans rfl;have d0:=(ab.cell 0).trans rfl;have d1:=(ab.cell 1).trans rfl;have bk:c4=false\/(c4=true/\(here==was)=false):=by
     cases c4 with
     | false=>exact τ rfl
     | true=>exact υ ⟨rfl,by simpa using λh=>a9 ⟨rfl,h⟩⟩
    have HAdd:J<|Calls prog 194 #[.agg #[.map (some cb),.map (some lb)],aW n] w4 λe w'=>e=.returned (.tuple #[])/\SN w s o ns (.slice (some (O b bp)) ns.length ax) ib cb lb w1.heap.size (λd=>d∈ns.take (i+1)/\newS s o d) (jZ s o ns i) w'/\aC w' wr.heap.size #[I (who n),I (nth n)] 140/\aC w' (wr.heap.size+1) #[.string E,.int .u8 A,.string F,I G] 85:=by refine ψ (add_any w4 cb lb n _ m.st.ctx a3) ?_;rintro e w5⟨rfl,j,f⟩;have ah:aA (λk=>k=ib\/k=cb\/k=lb) w4 w5:=f.mono (λk _ c=>υ c);refine⟨rfl,(m.turn (S':=λk=>(k∈ns.take i/\newS s o k)\/k=n) (It':=jZ s o ns i) ah ⟨j,m.st.its.imp λN g=>g.block (f.block _ g.lt (by have:=m.st.ne;omega)),m.st.ne,λk c=>by have:=m.st.ok k c;exact⟨this.1,τ this.2⟩⟩).iff (λk _=>Xf.o k S) rfl,ab.aJ f V,Zz.aJ f V⟩
    have HT:=ω<|(X.o n).2 (υ rfl)
    clear m PS Xf X ad JG ab Zz a9;have ac:=ω S;have ap:J<|here=false->jZ s o ns (i+1)=jZ s o ns i:=λhf=>by
     rw[U.o];funext k;by_cases e:k=n/\newS s o k
     .rw[ώ e];obtain⟨rfl,e2⟩:=e;have bm:s.It k=none:=by rw[<- Option.not_isSome_iff_eq_none,Q,hf];simp
      unfold jZ;rw[bm];split<;>rfl
     .rw[ύ e]
    have ar:J<|here=true->jZ s o ns (i+1)=λk=>if k=n then some (.agg #[.string E,.int .u8 A,.string F,I G])else jZ s o ns i k:=λhf=>by
     rw[U.o];funext k;by_cases e:k=n
     .subst e;rw[ώ ⟨rfl,ac.o⟩,ώ rfl];obtain⟨v,hv⟩:=Option.isSome_iff_exists.1 (Q.trans hf);rw[hv,aw.o v hv]
     .rw[ύ (λh=>e h.1),ύ e]
    clear U S Q ZG aw;rcases bk with rfl|⟨rfl,bl⟩
    .go_wp2_with fail;refine ψ HAdd.o ?_;rintro e w5⟨rfl,x,P,q⟩;have u:=ω x;have g0:=(x.bx.cell 0).trans rfl;have d0:=(P.cell 0).trans rfl;have d1:=(P.cell 1).trans rfl;have c0:=(q.cell 0).trans rfl;have c1:=(q.cell 1).trans rfl;have c2:=(q.cell 2).trans rfl;have c3:=(q.cell 3).trans rfl;obtain⟨Nj,Y⟩:=x.st.its;have bd:=jY Y (λk c=>(u.o.st.ok k c).1);have aj:Nj<maxLen:=by unfold maxLen;omega
     clear x P q HAdd;cases here with
     | false =>
      have t:=ap.o rfl;go_wp2_with fail;go_roundg (ns.length-(i+1));case measure=>omega
      case rel=>exact⟨i+1,V,Λ,u.o.iff (λk _=>Iff.rfl) t⟩
     | true =>
      have t:=ar.o rfl;go_wp2_with (first|(at_mapUpdate;refine iM rfl (.tmp 50) (.tmp 51) (.tmp 52) 95 rfl 85 jE underlying95 rfl Y aj (aW n) (.agg #[.string E,.int .u8 A,.string F,I G]) _ rfl rfl a8 ?_;intro w6 Bq Z bn;have af:=(u.o.turn ((aA.refl _ w5).grown Z (λk e=>by cases e;exact τ (τ rfl))) (u.o.st.put Z Bq a3 (show n∈ns.take (i+1)/\newS s o n from⟨HT.o,ac.o⟩)));go_frame));go_roundg (ns.length-(i+1));case measure=>omega
      case rel=>exact⟨i+1,V,Λ,af.iff (λk _=>Iff.rfl) t⟩
    .have bw:decide (here=was)=false:=by simpa using bl
     go_wp2_with fail;refine ψ HAdd.o ?_;rintro e w5⟨rfl,x,P,q⟩;have u:=ω x;have g0:=(x.bx.cell 0).trans rfl;have d0:=(P.cell 0).trans rfl;have d1:=(P.cell 1).trans rfl;have c0:=(q.cell 0).trans rfl;have c1:=(q.cell 1).trans rfl;have c2:=(q.cell 2).trans rfl;have c3:=(q.cell 3).trans rfl;obtain⟨Nj,Y⟩:=x.st.its;have bd:=jY Y (λk c=>(u.o.st.ok k c).1);have aj:Nj<maxLen:=by unfold maxLen;omega
     clear x P q HAdd;cases here with
     | false =>
      have t:=ap.o rfl;go_wp2_with fail;go_roundg (ns.length-(i+1));case measure=>omega
      case rel=>exact⟨i+1,V,Λ,u.o.iff (λk _=>Iff.rfl) t⟩
     | true =>
      have t:=ar.o rfl;go_wp2_with (first|(at_mapUpdate;refine iM rfl (.tmp 50) (.tmp 51) (.tmp 52) 95 rfl 85 jE underlying95 rfl Y aj (aW n) (.agg #[.string E,.int .u8 A,.string F,I G]) _ rfl rfl a8 ?_;intro w6 Bq Z bn;have af:=(u.o.turn ((aA.refl _ w5).grown Z (λk e=>by cases e;exact τ (τ rfl))) (u.o.st.put Z Bq a3 (show n∈ns.take (i+1)/\newS s o n from⟨HT.o,ac.o⟩)));go_frame));go_roundg (ns.length-(i+1));case measure=>omega
      case rel=>exact⟨i+1,V,Λ,af.iff (λk _=>Iff.rfl) t⟩
  .have x0:=(bz.bx.cell 0).trans rfl;have A:=(bz.bx.cell 1).trans rfl;have x2:=(bz.bx.cell 2).trans rfl;have r0:=(bz.r0.cell 0).trans rfl;have r1:=(bz.r0.cell 1).trans rfl;have r2:=(bz.r0.cell 2).trans rfl;have f0:=bz.r0.frozen;have bg:=bz.new;have ba:ns.take i=ns:=ϑg V;clear bz;go_wp2_with fail;have ah:aA (λk=>k=w.heap.size+2) wr (((wr.setCell (z (w.heap.size+2)) (.map (some ib))).setCell (O (w.heap.size+2) 1) (.map (some cb))).setCell (O (w.heap.size+2) 2) (.map (some lb))):=(((aA.refl (λk=>k=w.heap.size+2) wr).setCell (p:=(z (w.heap.size+2))) rfl _).setCell (p:=(O (w.heap.size+2) 1)) rfl _).setCell (p:=(O (w.heap.size+2) 2)) rfl _;refine ϐ (v:=.agg #[.map (some ib),.map (some cb),.map (some lb)]) (by simp[results,Tryz.results143,go_sem,r0,r1,r2,bV,aT,World.cell?_setCell_other]) rfl ⟨ib,cb,lb,rfl, ?_,V, ?_⟩
   .have h:=B.o.st.aJ ah V V V;rw[ba]at h;have hI:jZ s o ns i=Ub s o:=by
     funext k;unfold jZ Ub;rw[ba];by_cases c:newS s o k
     .by_cases hm:k∈ns
      .rw[ώ ⟨hm,c⟩,ώ c]
      .rw[ύ (λh=>hm h.1),ώ c];cases hv:s.It k with
       | none=>rfl
       | some v=>exact absurd ((HN.o.2 k).2 ⟨((B.o.sat.r.ok k (by rw[hv];simp)).1).2.1,c.1⟩) hm
     .rw[ύ (λh=>c h.2),ύ c]
    rw[hI]at h;exact⟨h.ctx.iff (λk c=>⟨λhs=>⟨(HN.o.2 k).2 ⟨c,hs.1⟩,hs⟩,λhs=>hs.2⟩),h.its,h.ne,λk c=>⟨(h.ok k c).1,(h.ok k c).2.2⟩⟩
   .exact((B.o.below.setCell (p:=(z (w.heap.size+2))) (by show w.heap.size<=w.heap.size+2;omega) _).setCell (p:=(O (w.heap.size+2) 1)) (by show w.heap.size<=w.heap.size+2;omega) _).setCell (p:=(O (w.heap.size+2) 2)) (by show w.heap.size<=w.heap.size+2;omega) _
def Gt(f:Nat->Nat):∀n,sumTo f n=0↔∀i,i<n->f i=0
 | 0=>by simp[sumTo]
 | n+1=>by
  show sumTo f n+f n=0↔_;have a:=Gt f n;constructor
  .intro h i b;by_cases e:i=n
   .subst e;omega
   .exact a.1 V i V
  .intro h;have:=a.2 (λi b=>h i V);have:=h n V;omega
def Uc{lo:Option Nat}{b:Nat}{K:Nat->Nat}{L:Nat->Bool}(k:dQ prog 140 w (.map lo) b (lm L))(t:∀a,K a<=501)(l:∀a,K a≠0->a<=5)(m:∀d,L d=true->okD d/\K (who d)<nth d):b+aF K=0↔∀d,1<=nth d->¬oW K L d:=by
 have q:b=0↔∀d,L d=false:=by
  rcases k with⟨_,h,j⟩|⟨g,_,h⟩
  .refine⟨λ_ d=>?_,λ_=>h⟩;have:=congrFun j (aW d);have c:=uM d L;rw[this]at c;exact c.symm
  .refine⟨λi d=>?_,λi=>h.zero jE (λkey=>by simp[lm,i])⟩;obtain⟨s,_,u,n⟩:=h.count jE;have:s=[]:=List.length_eq_zero_iff.1 V;subst this;have o:lm L (aW d)=none:=ϑc λe=>by simpa using(n _).2 e
   have c:=uM d L;rw[o]at c;exact c.symm
 have p:aF K=0↔∀a,K a=0:=by unfold aF;rw[Gt];exact⟨λh a=>ϑc λe=>e (h a (by have:=l a e;omega)),λh r _=>h r⟩
 have:b+aF K=0↔b=0/\aF K=0:=V
 rw[this,q,p];constructor
 .rintro⟨a,g⟩ d f (h|h)
  .rw[g]at h;omega
  .rw[a]at h;cases h
 .intro h;refine⟨λd=>?_,λa=>ϑc λe=>?_⟩
  .cases f:L d with
   | false=>rfl
   | true=>exact absurd (υ f) (h d (m d f).1.2.1)
  .exact h (dX a 1) (by rw[dG V];omega) (τ (by rw[dG V,dI V];omega))
def Xh(w:World)(co lo:Option Nat)(K:Nat->Nat)(L:Nat->Bool)(h:ni w (.map co) (.map lo) K L):Calls prog 155 #[.agg #[.map co,.map lo]] w λe w'=>∃G:Nat,e=.returned (I G)/\(G=0↔∀g,1<=nth g->¬oW K L g)/\Below w.heap.size w w':=by
 obtain⟨⟨N,i⟩,⟨f,ab⟩,l,m,n⟩:=h;have a5:f<=3072:=by
  rcases ab with⟨_,h,_⟩|⟨b,_,h⟩
  .omega
  .exact sD h (λg Z=>(n g Z).1)
 have W:=ω<|Uc ab l m n
 have D:∀wx,Below w.heap.size w wx->∀d,(Builtin.len_ #[97] d #[.map lo]).run prog wx=.ok (I f) wx:=λwx c d=>(ab.below c).len underlying97 d;have a1:=λo d=>D _ ((φ _ w).alloc (χ _) o) d;have u:J<|∀wy,Below w.heap.size w wy->dQ prog 3 wy (.map co) N (cm K):=λwy c=>i.below c;have P:=ω l;have Q:=ω m;clear i ab l m n D;go_enter func155,ntmps155;go_wp2_with (first|(at_range;refine fV rfl (.tmp 10) 96 rfl 3 lU underlying96 rfl (u.o _ ?_) ?_;(go_grown);intro w3 r B a2;have A:Below w.heap.size w w3:=(((φ w.heap.size w).alloc (χ _) _).grown B Ω (λk e=>by cases e));rw[ϊ]at r⊢;clear u a1 B a2;go_frame));go_loopg [3] N (λX v3 wx=>∃(left:Value->Prop)(s:Nat),X=s/\bY prog 3 wx (.map co) (w.heap.size+1) N (cm K) left s/\Below w.heap.size w wx/\v3=I ((f+oJ K left:Nat):Int));case atStart=>exact⟨_,_,rfl,r,A,by rw[CY];rfl⟩
 case round =>
  obtain⟨left,s,hq,p,c,rfl⟩:=hrel;have ac:=ω p;have j:=ω c;have t:J<|∀key v,left key->cm K key=some v->∃x:Nat,key=(λx:Nat=>Value.int .i64 x) x/\v=(λx:Nat=>Value.int .i64 (K x)) x:=λkey v _ hk=>by obtain⟨x,i,ab,_⟩:=oV hk;exact⟨x,i,ab⟩
  have aa:=p.lt;have a8:oJ K left<=3006:=QN P.o;clear p c r A;go_wp2_with (first|(at_next;refine gU rfl (.tmp 11) rfl lU (λx:Nat=>I x) (λx:Nat=>I (K x)) rfl ac.o t.o ?_ ?_))
  .intro a0;have S:J<|oJ K left=aF K:=Gh a0;clear ac t;go_wp2_with fail;go_ret;exact⟨f+aF K,by rw[S.o];simp,W.o,j.o⟩
  .intro a w4 H E q F a7 C a9 a6;have y:K a≠0:=by intro Y;rw[su,ώ Y]at q;cases q
   have T:=ω F;have R:J<|Below w.heap.size w w4:=j.o.grown C V (λk e=>by cases e;omega);have U:J<|oJ K (λM=>left M/\¬M=Value.int IntKind.i64 (a:Int))=oJ K left+K a:=Gi (by have:=Q.o a y;omega) E;have a3:=P.o a;clear F C ac j t y q E;generalize oJ K left=mk at *;generalize a4:K a=ka at *;go_wp2_with fail;go_roundg H;case measure=>omega
   case rel=>exact⟨_,H,rfl,T.o,R.o,by rw[U.o];go_num⟩
def Ud(w:World)(io co lo:Option Nat)(S:Nat->Prop)(h:II w (.map co) (.map lo) S):Calls prog 88 #[.agg #[.map io,.map co,.map lo]] w λe w'=>∃n:Nat,e=.returned (I n)/\(n=0↔∀d,1<=nth d->¬S d)/\Below w.heap.size w w':=by
 have k:J<|∀g,Calls prog 155 #[.agg #[.map co,.map lo]] (w.alloc g) λe w'=>∃n:Nat,e=.returned (I n)/\(n=0↔∀d,1<=nth d->¬S d)/\Below w.heap.size w w':=λg=>by have a:Below w.heap.size w (w.alloc g):=(φ _ w).alloc (χ _) _;obtain⟨l,L,m,_,i⟩:=h;refine ψ (Xh _ co lo l L (m.below a)) ?_;rintro e w'⟨n,rfl,c,o⟩;exact⟨n,rfl,c.trans ⟨λq d b f=>q d b ((i d b).1 f),λq d b f=>q d b ((i d b).2 f)⟩,a.trans (o.mono a.size)⟩
 clear h;go_enter func88,ntmps88;go_wp2_with fail;refine ψ (k.o _) ?_;rintro e p⟨n,rfl,c,a⟩;have j:=ω c;clear c;go_wp2;go_ret;exact⟨n,rfl,j.o,a⟩
