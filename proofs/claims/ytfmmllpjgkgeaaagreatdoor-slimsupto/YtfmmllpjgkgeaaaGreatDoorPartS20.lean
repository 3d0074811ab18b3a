import Derived.Test.YtfmmllpjgkgeaaaGreatDoorPartS12
set_option linter.unusedVariables false
set_option linter.unusedSimpArgs false
set_option maxHeartbeats 16000000
set_option maxRecDepth 100000
namespace Go.Proofs.YtfmmllpjgkgeaaaGreatDoor
section
open Go.Proofs.Tryz Go.RowKit Go.Maps Go.WideMaps
variable{ns:List Nat}{w:World}
def newS(s o:StD)(d:Nat):Prop:=s.S d/\¬(o.S d/\(s.It d=none↔o.It d=none))
open Classical in
noncomputable def Jg(s o:StD)(d:Nat):Option Value:=if newS s o d then s.It d else none
open Classical in
noncomputable def dN(s o:StD)(ns:List Nat)(i:Nat)(d:Nat):Option Value:=if d∈ns.take i/\newS s o d then s.It d else none
theorem aU.at{d:Option Addr}{n e:Nat}(h:aU w (.slice d n e) ns)(i:Nat)(c:i<ns.length):∃b a,d=some (O b a)/\n=ns.length/\n<=e/\w.cell? (O b (a+i*2))=some (.int .i64 (who ns[i]))/\w.cell? (O b (a+i*2+1))=some (.int .i64 (nth ns[i])):=by
 rcases h with⟨_,rfl⟩|⟨b,a,k,f,j,l,g⟩
 .simp at c
 .simp only[Value.slice.injEq]at f;obtain⟨rfl,rfl,rfl⟩:=f;exact⟨b,a,rfl,rfl,j,(g i c).1,(g i c).2⟩
theorem aU.shape{v:Value}(h:aU w v ns):∃a cap,v=.slice a ns.length cap:=by
 rcases h with⟨rfl,rfl⟩|⟨b,c,cap,rfl,_⟩
 .exact⟨none,0,rfl⟩
 .exact⟨_,cap,rfl⟩
structure SN(w:World)(s o:StD)(ns:List Nat)(sv:Value)(ib cb lb B:Nat)(S:Nat->Prop)(It:Nat->Option Value)(wx:World):Prop where
 st:ay wx ib cb lb S It
 sat:s.At wx
 Yq:o.At wx
 sl:aU wx sv ns
 olds:∀k,Value.map s.io=.map (some k)\/Value.map s.co=.map (some k)\/Value.map s.lo=.map (some k)->k<w.heap.size
 WV:∀k,Value.map o.io=.map (some k)\/Value.map o.co=.map (some k)\/Value.map o.lo=.map (some k)->k<w.heap.size
 new:w.heap.size+3<=ib/\w.heap.size+3<=cb/\w.heap.size+3<=lb/\ib<B/\cb<B/\lb<B
 svn:∀b,sv.ownBlock=some b->B<b
 bs:ah wx w.heap.size #[.map s.io,.map s.co,.map s.lo] 102
 bo:ah wx (w.heap.size+1) #[.map o.io,.map o.co,.map o.lo] 102
 r0:ah wx (w.heap.size+2) #[.map none,.map none,.map none] 102
 bx:ah wx B #[.map (some ib),.map (some cb),.map (some lb)] 102
 below:Below w.heap.size w wx
section
variable{w:World}{s o:StD}{ns:List Nat}{sv:Value}{ib cb lb B:Nat}{S S':Nat->Prop}{It WW:Nat->Option Value}{wx wy:World}
theorem SN.turn(h:SN w s o ns sv ib cb lb B S It wx)(a:Chg (λk=>k=ib\/k=cb\/k=lb) wx wy)(c:ay wy ib cb lb S' WW):SN w s o ns sv ib cb lb B S' WW wy:=by have d:=h.new;refine⟨c,h.sat.chg a (λk b m=>by have:=h.olds k b;omega),h.Yq.chg a (λk b m=>by have:=h.WV k b;omega),h.sl.chg a (λk b m=>by have:=h.svn k b;omega),h.olds,h.WV,h.new,h.svn,h.bs.chg a V,h.bo.chg a V,h.r0.chg a V,h.bx.chg a V, ?_⟩;exact h.below.trans ⟨a.os,a.tape,a.output,a.size,λk b=>a.block k (ο b h.below.size) V⟩
theorem SN.mono(h:SN w s o ns sv ib cb lb B S It wx)(a:Below wx.heap.size wx wy):SN w s o ns sv ib cb lb B S It wy:=h.turn (Chg.of_below a) (h.st.below a)
theorem SN.iff(h:SN w s o ns sv ib cb lb B S It wx)(a:∀n,1<=nth n->(S' n↔S n))(b:WW=It):SN w s o ns sv ib cb lb B S' WW wx:=by subst b;exact h.turn (Chg.refl _ _) ⟨h.st.ctx.iff a,h.st.its,h.st.ne,λn c=>by have:=h.st.ok n c;exact⟨this.1,(a n this.1.2.1).2 this.2⟩⟩
end
open Classical in
theorem Fp{s o:StD}{i:Nat}(f:i<ns.length)(j:ns.Nodup):dN s o ns (i+1)=λk=>if k=ns[i]/\newS s o k then s.It k else dN s o ns i k:=by
 funext k;unfold dN;have:k∈ns.take (i+1)↔k∈ns.take i\/k=ns[i]:=by rw[ν f,θ,List.mem_singleton]
 by_cases a:newS s o k
 .by_cases b:k=ns[i]
  .rw[ώ ⟨this.2 (υ b),a⟩,ώ ⟨b,a⟩]
  .have g:¬(k=ns[i]/\newS s o k):=λh=>b h.1;rw[ύ g];by_cases c:k∈ns.take i
   .have d:k∈ns.take (i+1)/\newS s o k:=⟨this.2 (τ c),a⟩;have e:k∈ns.take i/\newS s o k:=⟨c,a⟩;rw[ώ d,ώ e]
   .have d:¬(k∈ns.take (i+1)/\newS s o k):=λh=>(this.1 h.1).elim c b;have e:¬(k∈ns.take i/\newS s o k):=λh=>c h.1;rw[ύ d,ύ e]
 .rw[ύ (λh=>a h.2),ύ (λh=>a h.2),ύ (λh=>a h.2)]
theorem uX{It:Nat->Option Value}(n:Nat)(a:∀n v,It n=some v->nX v):∃b d c e,(im It (aA n)).getD (.agg #[.string ⟨#[]⟩,.int .u8 0,.string ⟨#[]⟩,.int .i64 0])=.agg #[.string b,.int .u8 d,.string c,.int .i64 e]/\∀v,It n=some v->v=.agg #[.string b,.int .u8 d,.string c,.int .i64 e]:=by
 rw[eP];cases h:It n with
 | none=>exact⟨_,_,_,_,rfl,λv a=>by cases a⟩
 | some v =>obtain⟨b,d,c,e,rfl⟩:=a n v h;exact⟨b,d,c,e,rfl,λv a=>by cases a;rfl⟩
def WX:Prop:=∀(w:World)(co lo:Option Nat)(c:Nat->Nat)(L:Nat->Bool),iI w (.map co) (.map lo) c L ->
  Calls prog 209 #[.agg #[.map co,.map lo]] w λe w'=>∃v ns,e=.returned v/\aU w' v ns/\ns.Nodup/\(∀d,d∈ns↔1<=nth d/\iP c L d)/\(∀b,v.ownBlock=some b->w.heap.size<=b)/\Below w.heap.size w w'
open Classical in
theorem MB(b3:WX)(w:World)(s o:StD)(h:s.At w)(ho:o.At w):Calls prog 151 #[.agg #[.map s.io,.map s.co,.map s.lo],.agg #[.map o.io,.map o.co,.map o.lo]] w λe w'=>∃ib cb lb,e=.returned (.agg #[.map (some ib),.map (some cb),.map (some lb)])/\ay w' ib cb lb (newS s o) (Jg s o)/\(w.heap.size<=ib/\w.heap.size<=cb/\w.heap.size<=lb)/\Below w.heap.size w w':=by
 have HL:J WX:=b3;clear b3;have HS:J<|s.At w:=h;have HO:J<|o.At w:=ho;clear h ho;go_enter func151,ntmps151;go_wp2_with fail;have k0:ah (((w.alloc (.cells #[.map s.io,.map s.co,.map s.lo] 102)).alloc (.cells #[.map o.io,.map o.co,.map o.lo] 102)).alloc (.cells #[.map none,.map none,.map none] 102)) w.heap.size #[.map s.io,.map s.co,.map s.lo] 102:=((ah.new w _ _).alloc _).alloc _;have k1:ah (((w.alloc (.cells #[.map s.io,.map s.co,.map s.lo] 102)).alloc (.cells #[.map o.io,.map o.co,.map o.lo] 102)).alloc (.cells #[.map none,.map none,.map none] 102)) (w.heap.size+1) #[.map o.io,.map o.co,.map o.lo] 102:=by have:=(ah.new (w.alloc (.cells #[.map s.io,.map s.co,.map s.lo] 102)) #[.map o.io,.map o.co,.map o.lo] 102).alloc (.cells #[.map none,.map none,.map none] 102);rwa [ϊ]at this
 have k2:ah (((w.alloc (.cells #[.map s.io,.map s.co,.map s.lo] 102)).alloc (.cells #[.map o.io,.map o.co,.map o.lo] 102)).alloc (.cells #[.map none,.map none,.map none] 102)) (w.heap.size+2) #[.map none,.map none,.map none] 102:=by have:=ah.new ((w.alloc (.cells #[.map s.io,.map s.co,.map s.lo] 102)).alloc (.cells #[.map o.io,.map o.co,.map o.lo] 102)) #[.map none,.map none,.map none] 102;simp only[ϊ]at this;exact this
 have ae:Below w.heap.size w (((w.alloc (.cells #[.map s.io,.map s.co,.map s.lo] 102)).alloc (.cells #[.map o.io,.map o.co,.map o.lo] 102)).alloc (.cells #[.map none,.map none,.map none] 102)):=(((φ _ w).alloc (χ _) _).alloc Ω _).alloc Θ _;have e1:(((w.alloc (.cells #[.map s.io,.map s.co,.map s.lo] 102)).alloc (.cells #[.map o.io,.map o.co,.map o.lo] 102)).alloc (.cells #[.map none,.map none,.map none] 102)).heap.size=w.heap.size+3:=Ω
 generalize (((w.alloc (.cells #[.map s.io,.map s.co,.map s.lo] 102)).alloc (.cells #[.map o.io,.map o.co,.map o.lo] 102)).alloc (.cells #[.map none,.map none,.map none] 102))=w0 at *;refine ψ (lM _ (.slice none 0 0) [] (τ ⟨rfl,rfl⟩) Ω Ω) ?_;rintro e w1⟨ib,cb,lb,rfl,ak,S,A⟩;have b7:=ak.lt;rw[e1]at S;have Y:J<|∀a,a=.cells #[.map (some ib),.map (some cb),.map (some lb)] 102->∀W ns sv,Below (w1.alloc a).heap.size (w1.alloc a) W->aU W sv ns->(∀b,sv.ownBlock=some b->(w1.alloc a).heap.size<=b)->SN w s o ns sv ib cb lb w1.heap.size (λd=>d∈ns.take 0/\newS s o d) (dN s o ns 0) W:=λa bh W ns sv b5 a5 ab=>by
  subst bh;have a1:Below w.heap.size w w1:=ae.trans (A.mono V);have hz:=(φ _ w1).alloc (χ _) (.cells #[.map (some ib),.map (some cb),.map (some lb)] 102);have WY:=hz.trans (b5.mono hz.size);have TN:Below w.heap.size w W:=a1.trans (WY.mono a1.size);have e2:dN s o ns 0=λ_=>none:=by funext k;unfold dN;rw[ύ Ω]
  have al:=ak.below WY;have bv:=A.size;refine⟨⟨al.ctx.iff (λn _=>Ω),by rw[e2];exact al.its,al.ne,λn H=>by rw[e2]at H;exact absurd rfl H⟩,HS.o.chg (M:=λ_=>False) (Chg.of_below TN) (λ_ _ h=>h),HO.o.chg (M:=λ_=>False) (Chg.of_below TN) (λ_ _ h=>h),a5,λk c=>HS.o.r.lt k c,λk c=>HO.o.r.lt k c,V,λb P=>by have:=ab b P;simp at this;omega,(k0.below A).below WY,(k1.below A).below WY,(k2.below A).below WY, ?_,TN⟩;exact(b5.block _ Ω).trans (ah.new w1 _ _)
 have HC:J<|∀a,∃l L,iI (w1.alloc a) (.map s.co) (.map s.lo) l L/\∀d,1<=nth d->(s.S d↔iP l L d):=λa=>by have a1:Below w.heap.size w w1:=ae.trans (A.mono V);obtain⟨l,L,j,_,f⟩:=HS.o.r.ctx;exact⟨l,L,j.below (a1.trans (((φ _ w1).alloc (χ _) a).mono a1.size)),f⟩
 have OU:J<|∀a,(w1.alloc a).cell? (O w.heap.size 1)=some (.map s.co)/\(w1.alloc a).cell? (O w.heap.size 2)=some (.map s.lo):=λa=>⟨(((k0.below A).alloc a).cell 1).trans rfl,(((k0.below A).alloc a).cell 2).trans rfl⟩;have c1:=λa=>(OU.o a).1;have c2:=λa=>(OU.o a).2;clear ak A k0 k1 k2 ae e1 HS HO OU S b7;go_wp2_with fail;obtain⟨l,L,G,a2⟩:=HC.o (.cells #[.map (some ib),.map (some cb),.map (some lb)] 102);refine ψ (HL.o _ s.co s.lo l L G) ?_;rintro e w2⟨sv,ns,rfl,a5,aj,R,ab,b4⟩;obtain⟨ao,F,bn⟩:=a5.shape;have HN:J<|ns.Nodup/\∀d,d∈ns↔1<=nth d/\s.S d:=⟨aj,λd=>(R d).trans (and_congr_right λhd=>(a2 d hd).symm)⟩;have av:J<|∀d∈ns,okD d:=λd hd=>by
  obtain⟨j,f|f⟩:=(R d).1 hd
  .have h3:=G.nI (who d);exact⟨G.c5 _ V,j,V⟩
  .exact(G.ug d f).1
 have hA:=Y.o _ rfl w2 ns sv b4 a5 ab;have br:ns.length<=3072:=gX 3072 ns aj (λd hd=>iV (av.o d hd));subst bn;clear Y HC G a2 a5 aj R ab b4 c1 c2;have Y:J<|SN w s o ns (.slice ao ns.length F) ib cb lb w1.heap.size (λd=>d∈ns.take 0/\newS s o d) (dN s o ns 0) w2:=hA;clear hA;go_wp2_with fail;go_loopg [17] ns.length (λg bo wx=>∃i:Nat,i+g=ns.length/\bo=.int .i64 i/\SN w s o ns (.slice ao ns.length F) ib cb lb w1.heap.size (λd=>d∈ns.take i/\newS s o d) (dN s o ns i) wx);case atStart=>exact⟨0,V,rfl,Y.o⟩
 case round =>
  obtain⟨i,bq,rfl,bw⟩:=hrel;have E:J<|SN w s o ns (.slice ao ns.length F) ib cb lb w1.heap.size (λd=>d∈ns.take i/\newS s o d) (dN s o ns i) wr:=bw;clear Y;by_cases hi:i<ns.length
  .obtain⟨b,a6,bd,_,bp,q0,q1⟩:=bw.sl.at i hi;subst bd;obtain⟨n,H⟩:∃n,n=ns[i]:=⟨_,rfl⟩;rw[<- H]at q0 q1;have R:n∈ns:=by rw[H];exact κ hi
   have a4:=av.o n R;have Zf:s.S n:=((HN.o.2 n).1 R).2;have bf:=a4.2.1;have bg:=a4.1;obtain⟨kl,a9⟩:=keyE n V;have X:J<|dN s o ns (i+1)=λk=>if k=n/\newS s o k then s.It k else dN s o ns i k:=ω<|by rw[Fp hi HN.o.1,H]
   have U:J<|∀k,k∈ns.take (i+1)↔k∈ns.take i\/k=n:=λk=>by rw[ν hi,<- H,θ,List.mem_singleton]
   clear H;obtain⟨B,u,C,D,hu,bb⟩:=uX (It:=s.It) n bw.sat.v;obtain⟨y0,y1,y2,y3,ba,_⟩:=uX (It:=o.It) n bw.Yq.v;obtain⟨here,T⟩:∃b:Bool,(s.It n).isSome=b:=⟨_,rfl⟩;obtain⟨was,PZ⟩:∃b:Bool,(o.It n).isSome=b:=⟨_,rfl⟩;have hc:(im s.It (aA n)).isSome=here:=by rw[eP];exact T
   have b6:(im o.It (aA n)).isSome=was:=by rw[eP];exact PZ
   have aw:J<|∀v,s.It n=some v->v=.agg #[.string B,.int .u8 u,.string C,.int .i64 D]:=bb;obtain⟨Ni,ax⟩:=bw.sat.r.its;obtain⟨No,az⟩:=bw.Yq.r.its;have HI:J<|∀wy,Below wr.heap.size wr wy->aW prog 134 wy (.map s.io) Ni (im s.It):=λwy P=>ax.below P;have ap:J<|∀wy,Below wr.heap.size wr wy->aW prog 134 wy (.map o.io) No (im o.It):=λwy P=>az.below P;have a0:=(bw.bs.cell 0).trans rfl;have b0:=(bw.bo.cell 0).trans rfl;have b1:=(bw.bo.cell 1).trans rfl;have b2:=(bw.bo.cell 2).trans rfl;have b7:=bw.bx.lt;have be:=bw.new;have bt:w.heap.size+2<wr.heap.size:=V
   have Hc:J<|∃l L,iI wr (.map o.co) (.map o.lo) l L/\∀d,1<=nth d->(o.S d↔iP l L d):=by obtain⟨l,L,j,_,f⟩:=bw.Yq.r.ctx;exact⟨l,L,j,f⟩
   clear bw bb ax az;have z0:∀a,(wr.alloc a).cell? (z w.heap.size)=some (.map s.io):=λa=>((E.o.bs.alloc a).cell 0).trans rfl;have z1:∀a r,((wr.alloc a).alloc r).cell? (z (w.heap.size+1))=some (.map o.io):=λa r=>(((E.o.bo.alloc a).alloc r).cell 0).trans rfl;have z2:∀a r K,(((wr.alloc a).alloc r).alloc K).cell? (O (w.heap.size+1) 1)=some (.map o.co):=λa r K=>((((E.o.bo.alloc a).alloc r).alloc K).cell 1).trans rfl;have z3:∀a r K,(((wr.alloc a).alloc r).alloc K).cell? (O (w.heap.size+1) 2)=some (.map o.lo):=λa r K=>((((E.o.bo.alloc a).alloc r).alloc K).cell 2).trans rfl;go_wp2_with (first|(at_lookup;refine dS rfl (.tmp 23) (.tmp 24) 96 rfl 86 fG underlying96 (VL _) rfl (HI.o _ ?_) (aA n) _ rfl a9 _ hu _ hc ?_;(go_grown))|(at_lookup;refine dS rfl (.tmp 30) (.tmp 31) 96 rfl 86 fG underlying96 (VL _) rfl (ap.o _ ?_) (aA n) _ rfl a9 _ ba _ b6 ?_;(go_grown)));have hW:∀W,W=(((wr.alloc (.cells #[.int .i64 (who n),.int .i64 (nth n)] 134)).alloc (.cells #[.string B,.int .u8 u,.string C,.int .i64 D] 86)).alloc (.cells #[.string y0,.int .u8 y1,.string y2,.int .i64 y3] 86))->Below wr.heap.size wr W/\ah W wr.heap.size #[.int .i64 (who n),.int .i64 (nth n)] 134/\ah W (wr.heap.size+1) #[.string B,.int .u8 u,.string C,.int .i64 D] 86:=λW hW=>by subst hW;refine⟨(((φ _ wr).alloc (χ _) _).alloc Ω _).alloc Θ _,((ah.new wr _ _).alloc _).alloc _, ?_⟩;have:=(ah.new (wr.alloc (.cells #[.int .i64 (who n),.int .i64 (nth n)] 134)) #[.string B,.int .u8 u,.string C,.int .i64 D] 86).alloc (.cells #[.string y0,.int .u8 y1,.string y2,.int .i64 y3] 86);rwa [ϊ]at this
   have hW:=hW _ rfl;generalize (((wr.alloc (.cells #[.int .i64 (who n),.int .i64 (nth n)] 134)).alloc (.cells #[.string B,.int .u8 u,.string C,.int .i64 D] 86)).alloc (.cells #[.string y0,.int .u8 y1,.string y2,.int .i64 y3] 86))=W3 at *;obtain⟨a7,kd,kc⟩:=hW;obtain⟨l,L,G,a2⟩:=Hc.o;have ar:J<|o.S n↔iP l L n:=a2 n bf;refine ψ (yU W3 _ _ l n L (G.below a7) bg) ?_;rintro e w4⟨rfl,a8⟩;have m:SN w s o ns (.slice (some (O b a6)) ns.length F) ib cb lb w1.heap.size (λd=>d∈ns.take i/\newS s o d) (dN s o ns i) w4:=E.o.mono (a7.trans (a8.mono a7.size));have Q9:=kd.below a8;have PS:=kc.below a8;have bs:wr.heap.size+1<w4.heap.size:=PS.lt;clear a7 a8 kd kc Hc G a2 z0 z1 z2 z3 a0 b0 b1 b2 q0 q1 HI ap hc b6 hu ba;obtain⟨Q,ag⟩:∃Q:Bool,Q=(decide (nth n<=l (who n))||L n):=⟨_,rfl⟩;have HH:J<|Q=true↔o.S n:=ω<|by rw[ar.o,ag];simp[iP]
   rw[<- ag];clear ag ar;have ad:J<|(here=was)->o.S n->dN s o ns (i+1)=dN s o ns i/\∀k,(k∈ns.take (i+1)/\newS s o k)↔(k∈ns.take i/\newS s o k):=λhe bi=>by
    have b8:¬newS s o n:=λh=>h.2 ⟨bi,by rw[<- Option.not_isSome_iff_eq_none,<- Option.not_isSome_iff_eq_none,T,PZ,he]⟩;refine⟨?_,λk=>?_⟩
    .rw[X.o];funext k;by_cases e:k=n
     .subst e;rw[ύ (λh=>b8 h.2)]
     .rw[ύ (λh=>e h.1)]
    .rw[U.o];constructor
     .rintro⟨j|rfl,f⟩
      .exact⟨j,f⟩
      .exact absurd f b8
     .rintro⟨j,f⟩;exact⟨τ j,f⟩
   have Fv:J<|¬(o.S n/\here=was)->newS s o n:=λh=>⟨Zf,λ⟨j,f⟩=>h ⟨j,by
    rw[<- T,<- PZ];cases ha:s.It n with
    | none=>rw[f.1 ha]
    | some v=>cases P:o.It n with
     | none=>have:=f.2 P;rw[ha]at this;cases this
     | some v'=>rfl⟩⟩
   have MC:J<|∀k,newS s o n->((k∈ns.take (i+1)/\newS s o k)↔(k∈ns.take i/\newS s o k)\/k=n):=λk c=>by
    rw[U.o];constructor
    .rintro⟨j|rfl,f⟩
     .exact τ ⟨j,f⟩
     .exact υ rfl
    .rintro(⟨j,f⟩|rfl)
     .exact⟨τ j,f⟩
     .exact⟨υ rfl,c⟩
   have Ak:J<|SN w s o ns (.slice (some (O b a6)) ns.length F) ib cb lb w1.heap.size (λd=>d∈ns.take i/\newS s o d) (dN s o ns i) w4:=m;by_cases aa:Q=true/\here=was
   .obtain⟨rfl,rfl⟩:=aa;have t:=ad.o rfl (HH.o.1 rfl);clear m Fv MC X U ad;go_wp2_with fail;go_roundg (ns.length-(i+1));case measure=>omega
    case rel=>exact⟨i+1,V,Λ,Ak.o.iff (λk _=>t.2 k) t.1⟩
   .have S:newS s o n:=Fv.o (λh=>aa ⟨HH.o.2 h.1,h.2⟩);have g0:=(m.bx.cell 0).trans rfl;have g1:=(m.bx.cell 1).trans rfl;have g2:=(m.bx.cell 2).trans rfl;have d0:=(Q9.cell 0).trans rfl;have d1:=(Q9.cell 1).trans rfl;have bj:Q=false\/(Q=true/\(here==was)=false):=by
     cases Q with
     | false=>exact τ rfl
     | true=>exact υ ⟨rfl,by simpa using λh=>aa ⟨rfl,h⟩⟩
    have HAdd:J<|Calls prog 201 #[.agg #[.map (some cb),.map (some lb)],aA n] w4 λe w'=>e=.returned (.tuple #[])/\SN w s o ns (.slice (some (O b a6)) ns.length F) ib cb lb w1.heap.size (λd=>d∈ns.take (i+1)/\newS s o d) (dN s o ns i) w'/\ah w' wr.heap.size #[.int .i64 (who n),.int .i64 (nth n)] 134/\ah w' (wr.heap.size+1) #[.string B,.int .u8 u,.string C,.int .i64 D] 86:=by refine ψ (add_any w4 cb lb n _ m.st.ctx a4) ?_;rintro e w5⟨rfl,j,f⟩;have af:Chg (λk=>k=ib\/k=cb\/k=lb) w4 w5:=f.mono (λk _ c=>υ c);refine⟨rfl,(m.turn (S':=λk=>(k∈ns.take i/\newS s o k)\/k=n) (WW:=dN s o ns i) af ⟨j,m.st.its.imp λN g=>g.block (f.block _ g.lt (by have:=m.st.ne;omega)),m.st.ne,λk c=>by have:=m.st.ok k c;exact⟨this.1,τ this.2⟩⟩).iff (λk _=>MC.o k S) rfl,Q9.chg f V,PS.chg f V⟩
    have HT:J<|n∈ns.take (i+1):=(U.o n).2 (υ rfl);clear m Fv MC U ad Ak Q9 PS aa;have ac:J<|newS s o n:=S;have an:J<|here=false->dN s o ns (i+1)=dN s o ns i:=λhf=>by
     rw[X.o];funext k;by_cases e:k=n/\newS s o k
     .rw[ώ e];obtain⟨rfl,e2⟩:=e;have bl:s.It k=none:=by rw[<- Option.not_isSome_iff_eq_none,T,hf];simp
      unfold dN;rw[bl];split<;>rfl
     .rw[ύ e]
    have aq:J<|here=true->dN s o ns (i+1)=λk=>if k=n then some (.agg #[.string B,.int .u8 u,.string C,.int .i64 D])else dN s o ns i k:=λhf=>by
     rw[X.o];funext k;by_cases e:k=n
     .subst e;rw[ώ ⟨rfl,ac.o⟩,ώ rfl];obtain⟨v,hv⟩:=Option.isSome_iff_exists.1 (T.trans hf);rw[hv,aw.o v hv]
     .rw[ύ (λh=>e h.1),ύ e]
    clear X S T PZ aw;rcases bj with rfl|⟨rfl,bk⟩
    .go_wp2_with fail;refine ψ HAdd.o ?_;rintro e w5⟨rfl,y,bx,q⟩;have x:J<|SN w s o ns (.slice (some (O b a6)) ns.length F) ib cb lb w1.heap.size (λd=>d∈ns.take (i+1)/\newS s o d) (dN s o ns i) w5:=y;have g0:=(y.bx.cell 0).trans rfl;have d0:=(bx.cell 0).trans rfl;have d1:=(bx.cell 1).trans rfl;have c0:=(q.cell 0).trans rfl;have c1:=(q.cell 1).trans rfl;have c2:=(q.cell 2).trans rfl;have c3:=(q.cell 3).trans rfl;obtain⟨Nj,Z⟩:=y.st.its;have bc:Nj<=3072:=fM Z (λk c=>(x.o.st.ok k c).1);have ai:Nj<maxLen:=by unfold maxLen;omega
     clear y bx q HAdd;cases here with
     | false =>
      have t:=an.o rfl;go_wp2_with fail;go_roundg (ns.length-(i+1));case measure=>omega
      case rel=>exact⟨i+1,V,Λ,x.o.iff (λk _=>Iff.rfl) t⟩
     | true =>
      have t:=aq.o rfl;go_wp2_with (first|(at_mapUpdate;refine dO rfl (.tmp 50) (.tmp 51) (.tmp 52) 96 rfl 86 fG underlying96 rfl Z ai (aA n) (.agg #[.string B,.int .u8 u,.string C,.int .i64 D]) _ rfl rfl a9 ?_;intro w6 sF a3 bm;have SE:=(x.o.turn ((Chg.refl _ w5).grown a3 (λk e=>by cases e;exact τ (τ rfl))) (x.o.st.put a3 sF a4 (show n∈ns.take (i+1)/\newS s o n from⟨HT.o,ac.o⟩)));go_frame));go_roundg (ns.length-(i+1));case measure=>omega
      case rel=>exact⟨i+1,V,Λ,SE.iff (λk _=>Iff.rfl) t⟩
    .have bu:decide (here=was)=false:=by simpa using bk
     go_wp2_with fail;refine ψ HAdd.o ?_;rintro e w5⟨rfl,y,bx,q⟩;have x:J<|SN w s o ns (.slice (some (O b a6)) ns.length F) ib cb lb w1.heap.size (λd=>d∈ns.take (i+1)/\newS s o d) (dN s o ns i) w5:=y;have g0:=(y.bx.cell 0).trans rfl;have d0:=(bx.cell 0).trans rfl;have d1:=(bx.cell 1).trans rfl;have c0:=(q.cell 0).trans rfl;have c1:=(q.cell 1).trans rfl;have c2:=(q.cell 2).trans rfl;have c3:=(q.cell 3).trans rfl;obtain⟨Nj,Z⟩:=y.st.its;have bc:Nj<=3072:=fM Z (λk c=>(x.o.st.ok k c).1);have ai:Nj<maxLen:=by unfold maxLen;omega
     clear y bx q HAdd;cases here with
     | false =>
      have t:=an.o rfl;go_wp2_with fail;go_roundg (ns.length-(i+1));case measure=>omega
      case rel=>exact⟨i+1,V,Λ,x.o.iff (λk _=>Iff.rfl) t⟩
     | true =>
      have t:=aq.o rfl;go_wp2_with (first|(at_mapUpdate;refine dO rfl (.tmp 50) (.tmp 51) (.tmp 52) 96 rfl 86 fG underlying96 rfl Z ai (aA n) (.agg #[.string B,.int .u8 u,.string C,.int .i64 D]) _ rfl rfl a9 ?_;intro w6 sF a3 bm;have SE:=(x.o.turn ((Chg.refl _ w5).grown a3 (λk e=>by cases e;exact τ (τ rfl))) (x.o.st.put a3 sF a4 (show n∈ns.take (i+1)/\newS s o n from⟨HT.o,ac.o⟩)));go_frame));go_roundg (ns.length-(i+1));case measure=>omega
      case rel=>exact⟨i+1,V,Λ,SE.iff (λk _=>Iff.rfl) t⟩
  .have x0:=(bw.bx.cell 0).trans rfl;have u:=(bw.bx.cell 1).trans rfl;have x2:=(bw.bx.cell 2).trans rfl;have r0:=(bw.r0.cell 0).trans rfl;have r1:=(bw.r0.cell 1).trans rfl;have r2:=(bw.r0.cell 2).trans rfl;have f0:=bw.r0.frozen;have be:=bw.new;have b9:ns.take i=ns:=List.take_of_length_le V;clear bw;go_wp2_with fail;have af:Chg (λk=>k=w.heap.size+2) wr (((wr.setCell (z (w.heap.size+2)) (.map (some ib))).setCell (O (w.heap.size+2) 1) (.map (some cb))).setCell (O (w.heap.size+2) 2) (.map (some lb))):=(((Chg.refl (λk=>k=w.heap.size+2) wr).setCell (p:=(z (w.heap.size+2))) rfl _).setCell (p:=(O (w.heap.size+2) 1)) rfl _).setCell (p:=(O (w.heap.size+2) 2)) rfl _;refine ϐ (v:=.agg #[.map (some ib),.map (some cb),.map (some lb)]) (by simp[results,Tryz.results151,go_sem,r0,r1,r2,cs_same,cs_oth,World.cell?_setCell_other]) rfl ⟨ib,cb,lb,rfl, ?_,V, ?_⟩
   .have h:=E.o.st.chg af V V V;rw[b9]at h;have hI:dN s o ns i=Jg s o:=by
     funext k;unfold dN Jg;rw[b9];by_cases c:newS s o k
     .by_cases hm:k∈ns
      .rw[ώ ⟨hm,c⟩,ώ c]
      .rw[ύ (λh=>hm h.1),ώ c];cases hv:s.It k with
       | none=>rfl
       | some v=>exact absurd ((HN.o.2 k).2 ⟨((E.o.sat.r.ok k (by rw[hv];simp)).1).2.1,c.1⟩) hm
     .rw[ύ (λh=>c h.2),ύ c]
    rw[hI]at h;exact⟨h.ctx.iff (λk c=>⟨λhs=>⟨(HN.o.2 k).2 ⟨c,hs.1⟩,hs⟩,λhs=>hs.2⟩),h.its,h.ne,λk c=>⟨(h.ok k c).1,(h.ok k c).2.2⟩⟩
   .exact((E.o.below.setCell (p:=(z (w.heap.size+2))) (by show w.heap.size<=w.heap.size+2;omega) _).setCell (p:=(O (w.heap.size+2) 1)) (by show w.heap.size<=w.heap.size+2;omega) _).setCell (p:=(O (w.heap.size+2) 2)) (by show w.heap.size<=w.heap.size+2;omega) _
theorem yg(f:Nat->Nat):∀n,sumTo f n=0↔∀i,i<n->f i=0
 | 0=>by simp[sumTo]
 | n+1=>by
  show sumTo f n+f n=0↔_;have a:=yg f n;constructor
  .intro h i b;by_cases e:i=n
   .subst e;omega
   .exact a.1 V i V
  .intro h;have:=a.2 (λi b=>h i V);have:=h n V;omega
theorem Jh{lo:Option Nat}{b:Nat}{K:Nat->Nat}{L:Nat->Bool}(k:aW prog 134 w (.map lo) b (lm L))(t:∀a,K a<=501)(l:∀a,K a≠0->a<=5)(m:∀d,L d=true->okD d/\K (who d)<nth d):b+sizeK K=0↔∀d,1<=nth d->¬iP K L d:=by
 have q:b=0↔∀d,L d=false:=by
  rcases k with⟨_,h,j⟩|⟨g,_,h⟩
  .refine⟨λ_ d=>?_,λ_=>h⟩;have:=congrFun j (aA d);have c:=mY d L;rw[this]at c;exact c.symm
  .refine⟨λi d=>?_,λi=>h.zero fG (λkey=>by simp[lm,i])⟩;obtain⟨s,_,u,n⟩:=h.count fG;have:s=[]:=List.length_eq_zero_iff.1 V;subst this;have o:lm L (aA d)=none:=Classical.byContradiction λe=>by simpa using(n _).2 e
   have c:=mY d L;rw[o]at c;exact c.symm
 have p:sizeK K=0↔∀a,K a=0:=by unfold sizeK;rw[yg];exact⟨λh a=>Classical.byContradiction λe=>e (h a (by have:=l a e;omega)),λh r _=>h r⟩
 have:b+sizeK K=0↔b=0/\sizeK K=0:=V
 rw[this,q,p];constructor
 .rintro⟨a,g⟩ d f (h|h)
  .rw[g]at h;omega
  .rw[a]at h;cases h
 .intro h;refine⟨λd=>?_,λa=>Classical.byContradiction λe=>?_⟩
  .cases f:L d with
   | false=>rfl
   | true=>exact absurd (υ f) (h d (m d f).1.2.1)
  .exact h (mkD a 1) (by rw[aZ V];omega) (τ (by rw[aZ V,bW V];omega))
theorem MG(w:World)(co lo:Option Nat)(K:Nat->Nat)(L:Nat->Bool)(h:iI w (.map co) (.map lo) K L):Calls prog 136 #[.agg #[.map co,.map lo]] w λg w'=>∃M:Nat,g=.returned (.int .i64 M)/\(M=0↔∀d,1<=nth d->¬iP K L d)/\Below w.heap.size w w':=by
 obtain⟨⟨N,i⟩,⟨c,e⟩,l,m,n⟩:=h;have a5:c<=3072:=by
  rcases e with⟨_,h,_⟩|⟨b,_,h⟩
  .omega
  .exact lK h (λd hd=>(n d hd).1)
 have X:J<|c+sizeK K=0↔∀d,1<=nth d->¬iP K L d:=Jh e l m n;have F:∀wx,Below w.heap.size w wx->∀ab,(Builtin.len_ #[98] ab #[.map lo]).run prog wx=.ok (.int .i64 c) wx:=λwx f ab=>(e.below f).len underlying98 ab;have a1:∀o ab,(Builtin.len_ #[98] ab #[.map lo]).run prog (w.alloc o)=.ok (.int .i64 c) (w.alloc o):=λo ab=>F _ ((φ _ w).alloc (χ _) o) ab;have A:J<|∀wy,Below w.heap.size w wy->aW prog 3 wy (.map co) N (cm K):=λwy f=>i.below f;have P:J<|∀a,K a<=501:=l;have R:J<|∀a,K a≠0->a<=5:=m;clear i e l m n F;go_enter func136,ntmps136;go_wp2_with (first|(at_range;refine cO rfl (.tmp 10) 97 rfl 3 jd underlying97 rfl (A.o _ ?_) ?_;(go_grown);intro w3 s D a2;have C:Below w.heap.size w w3:=(((φ w.heap.size w).alloc (χ _) _).grown D Ω (λk g=>by cases g));rw[ϊ]at s⊢;clear A a1 D a2;go_frame));go_loopg [3] N (λY v3 wx=>∃(left:Value->Prop)(q:Nat),Y=q/\aB prog 3 wx (.map co) (w.heap.size+1) N (cm K) left q/\Below w.heap.size w wx/\v3=.int .i64 ((c+jB K left:Nat):Int));case atStart=>exact⟨_,_,rfl,s,C,by rw[uq];rfl⟩
 case round =>
  obtain⟨left,q,hq,p,f,rfl⟩:=hrel;have ac:J<|aB prog 3 wr (.map co) (w.heap.size+1) N (cm K) left q:=p;have j:J<|Below w.heap.size w wr:=f;have t:J<|∀key v,left key->cm K key=some v->∃x:Nat,key=(λx:Nat=>Value.int .i64 x) x/\v=(λx:Nat=>Value.int .i64 (K x)) x:=λkey v _ hk=>by obtain⟨x,i,e,_⟩:=jI hk;exact⟨x,i,e⟩
  have aa:w.heap.size+1<wr.heap.size:=p.lt;have a8:jB K left<=3006:=Gu P.o;clear p f s C;go_wp2_with (first|(at_next;refine dG rfl (.tmp 11) rfl jd (λx:Nat=>.int .i64 x) (λx:Nat=>.int .i64 (K x)) rfl ac.o t.o ?_ ?_))
  .intro a0;have T:J<|jB K left=sizeK K:=xP a0;clear ac t;go_wp2_with fail;go_ret;exact⟨c+sizeK K,by rw[T.o];simp,X.o,j.o⟩
  .intro a Q u G r H a7 E a9 a6;have B:K a≠0:=by intro Z;rw[lJ,ώ Z]at r;cases r
   have U:J<|aB prog 3 Q (.map co) (w.heap.size+1) N (cm K) (λy=>left y/\¬y=Value.int IntKind.i64 (a:Int)) u:=H;have S:J<|Below w.heap.size w Q:=j.o.grown E V (λk g=>by cases g;omega);have W:J<|jB K (λy=>left y/\¬y=Value.int IntKind.i64 (a:Int))=jB K left+K a:=xQ (by have:=R.o a B;omega) G;have a3:=P.o a;clear H E ac j t B r G;generalize jB K left=mk at *;generalize a4:K a=ka at *;go_wp2_with fail;go_roundg u;case measure=>omega
   case rel=>exact⟨_,u,rfl,U.o,S.o,by rw[W.o];go_num⟩
theorem Ji(w:World)(io co lo:Option Nat)(S:Nat->Prop)(h:yY w (.map co) (.map lo) S):Calls prog 79 #[.agg #[.map io,.map co,.map lo]] w λe w'=>∃n:Nat,e=.returned (.int .i64 n)/\(n=0↔∀d,1<=nth d->¬S d)/\Below w.heap.size w w':=by
 have k:J<|∀g,Calls prog 136 #[.agg #[.map co,.map lo]] (w.alloc g) λe w'=>∃n:Nat,e=.returned (.int .i64 n)/\(n=0↔∀d,1<=nth d->¬S d)/\Below w.heap.size w w':=λg=>by have a:Below w.heap.size w (w.alloc g):=(φ _ w).alloc (χ _) _;obtain⟨l,L,m,_,i⟩:=h;refine ψ (MG _ co lo l L (m.below a)) ?_;rintro e w'⟨n,rfl,c,o⟩;exact⟨n,rfl,c.trans ⟨λq d b f=>q d b ((i d b).1 f),λq d b f=>q d b ((i d b).2 f)⟩,a.trans (o.mono a.size)⟩
 clear h;go_enter func79,ntmps79;go_wp2_with fail;refine ψ (k.o _) ?_;rintro e p⟨n,rfl,c,a⟩;have j:J<|n=0↔∀d,1<=nth d->¬S d:=c;clear c;go_wp2;go_ret;exact⟨n,rfl,j.o,a⟩
