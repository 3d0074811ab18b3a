import Derived.Test.YtfmmllpjgkgeaabGreatDoorZ04
import Derived.Test.YtfmmllpjgkgeaabGreatDoorZ37
set_option linter.all false
set_option maxHeartbeats 0
set_option maxRecDepth 100000
namespace Go.Proofs.YtfmmllpjgkgeaabGreatDoor
section
open Go.Proofs.Tryz Go.RowKit
structure dM where
 kind:Int
 a:Int
 n:Int
 m:Int
 s:ByteArray
def dM.ok(o:dM):Prop:=(-9223372036854775808<=o.kind/\o.kind<=9223372036854775807)/\(-9223372036854775808<=o.a/\o.a<=9223372036854775807)/\(-9223372036854775808<=o.n/\o.n<=9223372036854775807)/\(-9223372036854775808<=o.m/\o.m<=9223372036854775807)/\o.s.size<=1048576
def dM.val(o:dM):Value:=.agg #[I o.kind,I o.a,I o.n,I o.m,.string o.s]
structure uy(w:World)(b off:Nat)(l:List dM):Prop where
 lt:b<w.heap.size
 k:∀j(h:j<l.length),w.cell? (O b (off+j*5))=some (I l[j].kind)
 a:∀j(h:j<l.length),w.cell? (O b (off+j*5+1))=some (I l[j].a)
 n:∀j(h:j<l.length),w.cell? (O b (off+j*5+2))=some (I l[j].n)
 m:∀j(h:j<l.length),w.cell? (O b (off+j*5+3))=some (I l[j].m)
 s:∀j(h:j<l.length),w.cell? (O b (off+j*5+4))=some (.string l[j].s)
def uy.below{w w':World}{b d:Nat}{l:List dM}(h:uy w b d l)(c:Below w.heap.size w w'):uy w' b d l :=
 ⟨ο h.lt c.size,λj a=>(c.cell (p:=(O b _)) h.lt).trans (h.k j a),λj a=>(c.cell (p:=(O b _)) h.lt).trans (h.a j a),λj a=>(c.cell (p:=(O b _)) h.lt).trans (h.n j a),λj a=>(c.cell (p:=(O b _)) h.lt).trans (h.m j a),λj a=>(c.cell (p:=(O b _)) h.lt).trans (h.s j a)⟩
structure RJ(last:Int)(I:Nat->Nat->World->Nat->Prop):Prop where
 heads:∀w,Glob w->Calls prog 6 #[.bool (decide (5<=last))] w λe w'=>e=.returned (.bool true)/\Below w.heap.size w w'
 start:∀w,Glob w->I 0 w.heap.size (w.alloc (.cells #[.slice none 0 0,.bool (decide (7<last))] 29)) w.heap.size
 step:∀c B w b(o:dM),o.ok->c<1048576->I c B w b->Calls prog 7 #[.pointer (some (z b)),o.val] w λe w'=>e=.returned (.bool true)/\I (c+1) B w' b/\Below B w w'
def YA(k:Int)(I:Nat->Nat->World->Nat->Prop)(u:RJ k I)(w:World)(r:Glob w)(b B q:Nat)(l:List dM)(v:uy w b B l)(R:l.length<=q)(X:l.length<=1048576)(A:∀o∈l,o.ok):Calls prog 5 #[.slice (some (O b B)) l.length q,.int .i64 k] w λj w'=>j=.returned (.int .i64 (-1))/\Below w.heap.size w w':=by
 have g:=ω u;have m:=ω r;have F:=ω v;have C:=ω A;clear u r v A;go_enter func5,ntmps5;go_wp2_with fail;refine ψ (g.o.heads w m.o) ?_;rintro j e⟨rfl,d⟩;have H:=ω d;have g1:=ω<|m.o.mono d
 have M:J<|_:=g.o.start e g1.o;have K:=ω<|λo=>d.alloc d.size o
 clear d;go_wp2_with fail;go_loopg [5,7] l.length (λL N P wx=>∃i:Nat,i+L=l.length/\N=.bool true/\P=.int .i64 i/\(∃c,c<=i/\I c e.heap.size wx e.heap.size)/\Below w.heap.size w wx);case atStart=>exact⟨0,V,rfl,rfl,⟨0,χ _,M.o⟩,K.o _⟩
 case round =>
  obtain⟨i,T,rfl,rfl,⟨h,S,s⟩,x⟩:=hrel;have n:=ω s;have f:=ω x;clear s x;by_cases a:i<l.length
  .have hS2:=F.o.below f.o;have U:=hS2.k i a;have Q:=hS2.a i a;have Z:=hS2.n i a;have Y:=hS2.m i a;have hs:=hS2.s i a;clear hS2;have G:=ω<|C.o _ (κ a)
   generalize l[i]=o at *;by_cases W:k<o.kind
   .go_wp2;go_roundg (l.length-(i+1));case measure=>omega
    case rel=>exact⟨i+1,V,rfl,rfl,⟨h,V,n.o⟩,f.o⟩
   .have p:J<|_:=g.o.step h e.heap.size wr e.heap.size o G.o V n.o;go_wp2_with fail;refine ψ p.o ?_;rintro j w2⟨rfl,t,y⟩;have E:=ω t;have D:=ω<|f.o.trans (y.mono H.o.size)
    clear t y p;go_wp2;go_roundg (l.length-(i+1));case measure=>omega
    case rel=>exact⟨i+1,V,rfl,rfl,⟨h+1,V,E.o⟩,D.o⟩
  .go_wp2;go_ret;exact⟨rfl,f.o⟩
def YB(f:Int)(I:Nat->Nat->World->Nat->Prop)(c:RJ f I)(w:World)(b:Glob w)(j:Option Addr)(l:Nat):Calls prog 5 #[.slice j 0 l,.int .i64 f] w λe w'=>e=.returned (.int .i64 (-1))/\Below w.heap.size w w':=by
 have i:=ω c;have h:=ω b;clear c b;go_enter func5,ntmps5;go_wp2_with fail;refine ψ (i.o.heads w h.o) ?_;rintro e q⟨rfl,a⟩;have k:=ω<|λo=>a.alloc a.size o
 clear a;go_wp2_with fail;go_loopg [5,7] 0 (λn p m wx=>m=.int .i64 0/\Below w.heap.size w wx);case atStart=>exact⟨rfl,k.o _⟩
 case round =>obtain⟨rfl,d⟩:=hrel;have g:=ω d;clear d;go_wp2;go_ret;exact⟨rfl,g.o⟩
def yV(w:World)(v:Value)(l:List dM):Prop :=
 (∃ad cap,v=.slice ad 0 cap/\l=[])\/∃b off cap,v=.slice (some (O b off)) l.length cap/\l.length<=cap/\uy w b off l
def Sz(n:Nat)(s:Sl):Prop:=s.es.length<=n/\s.acc<=n/\∀i,(s.rs i).made<=n/\(s.rs i).lost<=n
def Sz.mono{n m:Nat}{s:Sl}(h:Sz n s)(a:n<=m):Sz m s:=⟨ς h.1 a,ς h.2.1 a,λi=>⟨ς (h.2.2 i).1 a,ς (h.2.2 i).2 a⟩⟩
structure kQ(G:vS):Prop where
 up:∀w c R s i,G w c R s->Calls prog 22 #[.pointer (some (z c)),I i] w λe w'=>e=.returned (I (iQ s i))/\w'=w
 does:∀w c R s i t r s',G w c R s->Sz 1048575 s->t.size<=1048576->Oj s i (ay t) r s' ->
  Calls prog 51 #[.pointer (some (z c)),I i,.string t] w λe w'=>e=.returned (I r)/\∃R',G w' c R' s'/\(∀k,R' k->R k\/w.heap.size<=k)/\aA R w w'
 asks:∀w c R s i t,G w c R s->t.size<=1048576 ->
  Calls prog 23 #[.pointer (some (z c)),I i,.string t] w λe w'=>∃u,e=.returned (.tuple #[.string u,I (pR s i (ay t)).2])/\ay u=(pR s i (ay t)).1/\Below w.heap.size w w'
 cells:∀w c R s,G w c R s->s.kn.length<=6/\∃rb cap,w.cell? (O c 1)=some (.slice (some (z rb)) s.kn.length cap)/\s.kn.length<=cap/\∀i(h:i<s.kn.length),(∃kv,w.cell? (O rb (i*13))=some kv/\aI 4 w kv (bools s.kn[i])/\s.kn[i].length<=1048576)/\(∃ao kc,w.cell? (O rb (i*13+10))=some (.slice ao (s.rs i).kept.length kc)/\(s.rs i).kept.length<=50)
 sends:∀w c R s i j s',G w c R s->rH s i j s' ->
  Calls prog 47 #[.pointer (some (z c)),I i,I j] w λe w'=>e=.returned (.tuple #[I (iC s i j).1,I (iC s i j).2])/\∃R',G w' c R' s'/\(∀k,R' k->R k\/w.heap.size<=k)/\aA R w w'
 Ko:∀w c R s f s',G w c R s->Sz 1048575 s->J9 s f s' ->
  Calls prog 48 #[.pointer (some (z c)),I f] w λe w'=>e=.returned (.tuple #[I (delS s f).1,I (delS s f).2])/\∃R',G w' c R' s'/\(∀k,R' k->R k\/w.heap.size<=k)/\aA R w w'
 bound:∀w c R s f,G w c R s->Calls prog 46 #[.pointer (some (z c)),I f] w λe w'=>∃n:Nat,e=.returned (I n)/\n<=100000000/\(iF s.1 f=none->n=0)/\(∀x,s.ls[f.toNat-1]?=some x->iF s.1 f≠none->n=x.most/\n≠0)/\w'=w
 ticks:∀w c R s i,G w c R s ->
  Calls prog 53 #[.pointer (some (z c)),I i] w λe w'=>e=.returned (I (iQ s i))/\∃R',G w' c R' (wH s i)/\(∀k,R' k->R k\/w.heap.size<=k)/\aA R w w'
 crashes:∀w c R s i,G w c R s->Sz 1048575 s ->
  Calls prog 55 #[.pointer (some (z c)),I i] w λe w'=>e=.returned (I (iQ s i))/\∃R',G w' c R' (pU s i)/\(∀k,R' k->R k\/w.heap.size<=k)/\aA R w w'
 tears:∀w c R s i b,G w c R s ->
  Calls prog 57 #[.pointer (some (z c)),I i,I b] w λe w'=>e=.returned (I (vO s i b))/\∃R',G w' c R' (rJ s i b)/\(∀k,R' k->R k\/w.heap.size<=k)/\aA R w w'
 wakes:∀w c R s i s',G w c R s->Sz 1048575 s->(∀k d,k<s.kn.length->(s.rs k).dn=some d->cnt (s.kn.getD k [])<cnt d.xQ)->vP s i s' ->
  Calls prog 59 #[.pointer (some (z c)),I i,I (iq s' i).1] w λe w'=>e=.returned (.tuple #[I (xR s i),.bool true])/\∃R',G w' c R' s'/\(∀k,R' k->R k\/w.heap.size<=k)/\aA R w w'
 Cc:∀w c R s f b,G w c R s->(fH s.1 f).1.size<=1000000000 ->
  Calls prog 50 #[.pointer (some (z c)),I f,I b,I ((fH s.1 f).1.size)] w λe w'=>e=.returned (I (kW s f b))/\Below w.heap.size w w'
def hE1:Ev:=⟨⟨#[115,120]⟩,43,⟨#[97]⟩,0,[]⟩
def hE2:Ev:=⟨⟨#[115,120]⟩,43,⟨#[98]⟩,0,[true]⟩
def hE3:Ev:=⟨⟨#[115,120]⟩,45,⟨#[97]⟩,0,[true,true]⟩
def hRs:Nat->Nat->LR
 | 0=>λ_=>⟨0,0,[],λ_=>0,none,none⟩
 | n+1=>aX (hRs n) 0 ((hRs n 0).write 10)
def hS1:Sl:=⟨⟨[hE1],[[true],[]],[]⟩,10,hRs 1,[],1⟩
def hS2:Sl:=⟨⟨[hE1,hE2],[[true,true],[]],[]⟩,10,hRs 2,[],2⟩
def hS3:Sl:=⟨⟨[hE1,hE2,hE3],[[true,true,true],[]],[]⟩,10,hRs 3,[],3⟩
def hS4(b:ByteArray):Sl:=⟨⟨[hE1,hE2,hE3],[[true,true,true],[]],[⟨0,1,0,[true,true,true],b⟩]⟩,10,hRs 3,[newL hS3 0 1],3⟩
def hS5(b b':ByteArray):Sl:=⟨⟨[hE1,hE2,hE3],[[true,true,true],[true,true,true]],[⟨0,1,0,[true,true,true],b⟩,⟨1,0,1,[],b'⟩]⟩,10,aX (hRs 3) 1 ((hRs 3 1).write 10),[newL hS3 0 1,⟨0,0,false,80,[]⟩],3⟩
def hd1:Oj (st0 2 10) 0 (ay ⟨#[115,120,43,97]⟩) 0 hS1 :=
 υ (υ (υ ⟨⟨[115,120],43,[97],0⟩,hE1,rfl,by kernel_rfl,Ψ,⟨rfl,rfl,rfl,rfl,rfl⟩,And.intro rfl rfl⟩))
def hd2:Oj hS1 0 (ay ⟨#[115,120,43,98]⟩) 0 hS2 :=
 υ (υ (υ ⟨⟨[115,120],43,[98],0⟩,hE2,rfl,by kernel_rfl,Ψ,⟨rfl,rfl,rfl,rfl,rfl⟩,And.intro rfl rfl⟩))
def hd3:Oj hS2 0 (ay ⟨#[115,120,45,97]⟩) 0 hS3 :=
 υ (υ (υ ⟨⟨[115,120],45,[97],0⟩,hE3,rfl,by kernel_rfl,Ψ,⟨rfl,rfl,rfl,rfl,rfl⟩,And.intro rfl rfl⟩))
def hask:pR hS3 0 (ay ⟨#[115,120]⟩)=([98],0):=by decide +kernel
def av8:EZ [hE1,hE2,hE3] [[true,true,true],[true,true,true]] 1 (ay ⟨#[115,120]⟩)=([98],0):=by decide +kernel
def hkn:iq hS3 0=(3,0):=by decide +kernel
def hsend:iC hS3 0 1=(1,0):=by decide +kernel
structure yX(F:vS)(w:World)(x:Nat)(s:Sl)(wx:World):Prop where
 f:∃S,F wx x S s/\∀k,S k->w.heap.size<=k
 bel:Below w.heap.size w wx
 glob:Glob wx
def yX.next{F:vS}{w wx wy:World}{x:Nat}{s s':Sl}{S S':Nat->Prop}(h:yX F w x s wx)(a:∀k,S k->w.heap.size<=k)(d:Glob w)(f:F wy x S' s')(i:∀k,S' k->S k\/wx.heap.size<=k)(e:aA S wx wy):yX F w x s' wy :=
 have b:Below w.heap.size w wy:=h.bel.trans (wG e a h.bel.size)
 ⟨⟨S',f,λk g=>(i k g).elim (a k) (λc=>ς h.bel.size c)⟩,b,d.mono b⟩
def U7{F:vS}(hF:kF F)(w:World)(c:Glob w):Calls prog 6 #[.bool true] w λe w'=>e=.returned (.bool true)/\Below w.heap.size w w':=by
 have o:J<|Calls prog 10 #[I 2,I 10] w λe w'=>∃x,e=.returned (.tuple #[.pointer (some (z x)),I 0])/\yX F w x (st0 2 10) w':=by refine ψ (hF.good w 2 10 c Ψ Ψ Ψ) ?_;rintro e L⟨x,N,rfl,f1,s1,K⟩;exact⟨x,rfl,⟨N,f1,s1⟩,K,c.mono K⟩
 have g:J<|∀x s wx t r s',yX F w x s wx->t.size<=1048576->Oj s 0 (ay t) r s'->Calls prog 11 #[.pointer (some (z x)),I 0,.string t] wx λe w'=>e=.returned (I r)/\yX F w x s' w':=λx s wx t r s' h l T=>by obtain⟨S,f1,s1⟩:=h.f;refine ψ (hF.does wx x S s 0 t r s' h.glob f1 l T) ?_;rintro e d⟨rfl,i,f2,s2,a⟩;exact⟨rfl,h.next s1 c f2 s2 a⟩
 have k:J<|∀x s wx j t u,yX F w x s wx->t.size<=1048576->pR s j (ay t)=(ay u,0)->Calls prog 12 #[.pointer (some (z x)),I j,.string t] wx λe w'=>e=.returned (.tuple #[.string u,I 0])/\yX F w x s w':=λx s wx j t u h l R=>by obtain⟨S,f1,s1⟩:=h.f;refine ψ (hF.asks wx x S s j t h.glob f1 l) ?_;rw[R];rintro e d⟨u',rfl,W,i,f2,s2,a⟩;have:=nY W;subst this;exact⟨rfl,h.next s1 c f2 s2 a⟩
 have m:J<|∀x s wx,yX F w x s wx->iq s 0=(3,0)->Calls prog 13 #[.pointer (some (z x)),I 0] wx λe w'=>e=.returned (.tuple #[I 3,I 0])/\yX F w x s w':=λx s wx h U=>by obtain⟨S,f1,s1⟩:=h.f;refine ψ (hF.knows wx x S s 0 h.glob f1) ?_;rw[U];rintro e d⟨rfl,i,f2,s2,a⟩;exact⟨rfl,h.next s1 c f2 s2 a⟩
 have p:J<|∀x wx,yX F w x hS3 wx->Calls prog 14 #[.pointer (some (z x)),I 0,I 1] wx λe w'=>e=.returned (.tuple #[I 1,I 0])/\∃b,yX F w x (hS4 b) w':=λx wx h=>by obtain⟨S,f1,s1⟩:=h.f;refine ψ (hF.sends wx x S hS3 0 1 h.glob f1) ?_;rw[hsend];rintro e d⟨rfl,i,s',f,f2,s2,a⟩;unfold rH at f;rw[hsend,ώ rfl]at f;obtain⟨b,rfl⟩:=f;exact⟨rfl,b,h.next s1 c f2 s2 a⟩
 have n:J<|∀x wx b,yX F w x (hS4 b) wx->Calls prog 15 #[.pointer (some (z x)),I 1] wx λe w'=>e=.returned (.tuple #[I 2,I 0])/\∃b',yX F w x (hS5 b b') w':=λx wx b h=>by obtain⟨S,f1,s1⟩:=h.f;refine ψ (hF.Ko wx x S (hS4 b) 1 h.glob f1) ?_;have P:delS (hS4 b) 1=(2,0):=rfl;rw[P];rintro e d⟨rfl,i,s',f,f2,s2,a⟩;have Q:∃b',s'=hS5 b b':=f;obtain⟨b',rfl⟩:=Q;exact⟨rfl,b',h.next s1 c f2 s2 a⟩
 have q:J<|∀b b',pR (hS5 b b') 1 (ay ⟨#[115,120]⟩)=([98],0):=λb b'=>(ώ rfl).trans av8;clear hF c;go_enter func6,ntmps6;go_wp2_with fail;refine ψ o.o ?_;rintro e L⟨x,rfl,v⟩;go_wp2_with fail;refine ψ (g.o x _ L _ _ _ v Ψ hd1) ?_;rintro e d⟨rfl,y⟩;clear v;go_wp2_with fail;refine ψ (g.o x _ d _ _ _ y Ψ hd2) ?_;rintro e X⟨rfl,A⟩;clear y;go_wp2_with fail;refine ψ (g.o x _ X _ _ _ A Ψ hd3) ?_;rintro e Y⟨rfl,B⟩;clear A;go_wp2_with fail;refine ψ (k.o x _ Y 0 _ ⟨#[98]⟩ B Ψ hask) ?_;rintro e Z⟨rfl,C⟩;clear B;go_wp2_with fail;refine ψ (m.o x _ Z C hkn) ?_;rintro e w6⟨rfl,D⟩;clear C;go_wp2_with fail;refine ψ (p.o x w6 D) ?_;rintro e w7⟨rfl,b,E⟩;clear D;go_wp2_with fail;refine ψ (n.o x w7 b E) ?_;rintro e w8⟨rfl,b',G⟩;clear E;go_wp2_with fail;refine ψ (k.o x _ w8 1 _ ⟨#[98]⟩ G Ψ (q.o b b')) ?_;rintro e w9⟨rfl,H⟩;have M:=ω H.bel;clear G H o g k m p n q;go_wp2;go_ret;exact⟨rfl,M.o⟩
structure aQ(G:vS):Prop where
 stable:∀{M:Nat->Prop}{w w':World}{c:Nat}{R:Nat->Prop}{s:Sl},G w c R s->aA M w w'->(∀k,R k->¬M k)->(∀b,Tagged w b 4->¬M b)->G w' c R s
 tags:∀{w:World}{c:Nat}{R:Nat->Prop}{s:Sl}{k:Nat},G w c R s->R k->∃t,isRef t/\Tagged w k t
def NH{t:TypeId}(h:isRef t):t≠4/\t≠42/\t≠29/\t≠33:=by rcases h with rfl|rfl|rfl|rfl|rfl<;>decide
structure iw(F G:vS)(w:World)(pb x:Nat)(S:Nat->Prop)(c:Nat)(R:Nat->Prop)(s:Sl):Prop where
 tag:Tagged w pb 42
 c0:w.cell? (z pb)=some (.pointer (some (z x)))
 c1:w.cell? (O pb 1)=some (.pointer (some (z c)))
 f:F w x S s
 r:G w c R s
variable{F G:vS}
def ae0(d:bT F)(e:aQ G){w:World}{x:Nat}{S:Nat->Prop}{s s2:Sl}{c:Nat}{R:Nat->Prop}(f:F w x S s)(g:G w c R s2)(k:Nat)(i:S k)(h:R k):False:=by obtain⟨t,a,b⟩:=e.tags g h;exact(d.tags f i b).1 a
def aQ.lt(b:aQ G){w:World}{c:Nat}{R:Nat->Prop}{s:Sl}{k:Nat}(d:G w c R s)(e:R k):k<w.heap.size:=by obtain⟨t,_,a⟩:=b.tags d e;exact a.lt
def aQ.below(a:aQ G){w w':World}{c:Nat}{R:Nat->Prop}{s:Sl}(d:G w c R s)(b:Below w.heap.size w w'):G w' c R s:=a.stable d (aA.of_below (M:=λ_=>False) b) (λ_ _ h=>h) (λ_ _ h=>h)
def iw.below(b:bT F)(d:aQ G){w w':World}{pb x:Nat}{S:Nat->Prop}{c:Nat}{R:Nat->Prop}{s:Sl}(h:iw F G w pb x S c R s)(a:Below w.heap.size w w'):iw F G w' pb x S c R s :=
 ⟨h.tag.below a,(a.cell (p:=(z pb)) h.tag.lt).trans h.c0,(a.cell (p:=(O pb 1)) h.tag.lt).trans h.c1,b.below h.f a,d.below h.r a⟩
structure kJ(F G:vS)(S R:Nat->Prop)(w0:World)(pb x c:Nat)(s1 s2:Sl)(wx:World):Prop where
 tag:Tagged wx pb 42
 p0:wx.cell? (z pb)=some (.pointer (some (z x)))
 p1:wx.cell? (O pb 1)=some (.pointer (some (z c)))
 f:∃S',F wx x S' s1/\∀k,S' k->S k\/w0.heap.size<=k
 g:∃R',G wx c R' s2/\∀k,R' k->R k\/w0.heap.size<=k
 aJ:aA (λk=>S k\/R k) w0 wx
 glob:Glob wx
 s4:(∀k,S k->4<=k)/\(∀k,R k->4<=k)/\4<=w0.heap.size
abbrev qQ(o:dM):Obj:=.cells #[I o.kind,I o.a,I o.n,I o.m,.string o.s] 32
structure Mid(F G:vS)(S R:Nat->Prop)(w0:World)(bx:Nat)(o:dM)(pb x c:Nat)(s1 s2:Sl)(wx:World):Prop where
 m:kJ F G S R w0 pb x c s1 s2 wx
 bk:aC w0 bx #[I o.kind,I o.a,I o.n,I o.m,.string o.s] 32
 bS:¬S bx
 bR:¬R bx
section
variable{S R:Nat->Prop}{w0:World}{bx:Nat}{o:dM}{pb x c:Nat}{s1 s2:Sl}{wx wy:World}
def kJ.cell(h:kJ F G S R w0 pb x c s1 s2 wx){b:Nat}(f:b<w0.heap.size)(e:¬S b)(d:¬R b)(i:Nat):wx.cell? (O b i)=w0.cell? (O b i):=η (w:=w0) (h.aJ.block b f (λa=>a.elim e d))
def Mid.p0(h:Mid F G S R w0 bx o pb x c s1 s2 wx):wx.cell? (z pb)=some (.pointer (some (z x))):=h.m.p0
def Mid.p1(h:Mid F G S R w0 bx o pb x c s1 s2 wx):wx.cell? (O pb 1)=some (.pointer (some (z c))):=h.m.p1
def Mid.b0(h:Mid F G S R w0 bx o pb x c s1 s2 wx):wx.cell? (z bx)=some (I o.kind):=(h.m.cell h.bk.lt h.bS h.bR 0).trans ((h.bk.cell 0).trans rfl)
def Mid.b2(h:Mid F G S R w0 bx o pb x c s1 s2 wx):wx.cell? (O bx 2)=some (I o.n):=(h.m.cell h.bk.lt h.bS h.bR 2).trans ((h.bk.cell 2).trans rfl)
def Mid.b3(h:Mid F G S R w0 bx o pb x c s1 s2 wx):wx.cell? (O bx 3)=some (I o.m):=(h.m.cell h.bk.lt h.bS h.bR 3).trans ((h.bk.cell 3).trans rfl)
def Mid.b4(h:Mid F G S R w0 bx o pb x c s1 s2 wx):wx.cell? (O bx 4)=some (.string o.s):=(h.m.cell h.bk.lt h.bS h.bR 4).trans ((h.bk.cell 4).trans rfl)
def kJ.below(j:bT F)(k:aQ G)(h:kJ F G S R w0 pb x c s1 s2 wx)(a:Below wx.heap.size wx wy):kJ F G S R w0 pb x c s1 s2 wy:=by obtain⟨d,e,f⟩:=h.f;obtain⟨b,g,i⟩:=h.g;exact⟨h.tag.below a,(a.cell (p:=(z pb)) h.tag.lt).trans h.p0,(a.cell (p:=(O pb 1)) h.tag.lt).trans h.p1,⟨d,j.below e a,f⟩,⟨b,k.below g a,i⟩,h.aJ.below a,h.glob.mono a,h.s4⟩
def Mid.below(a:bT F)(b:aQ G)(h:Mid F G S R w0 bx o pb x c s1 s2 wx)(d:Below wx.heap.size wx wy):Mid F G S R w0 bx o pb x c s1 s2 wy:=⟨h.m.below a b d,h.bk,h.bS,h.bR⟩
def Mid.drew(a:bT F)(b:aQ G)(h:Mid F G S R w0 bx o pb x c s1 s2 wx):Mid F G S R w0 bx o pb x c s1 s2 wx.drew:=h.below a b (φ _ _).drew
def Mid.drewN(a:bT F)(b:aQ G)(h:Mid F G S R w0 bx o pb x c s1 s2 wx)(n:Nat):Mid F G S R w0 bx o pb x c s1 s2 (wx.drewN n):=h.below a b (below_drewN (φ _ _) n)
def ae1{wx wy:World}(i:Glob wx)(a:Below 4 wx wy):Glob wy:=by obtain⟨⟨m,g1⟩,⟨b,g2,d⟩,⟨c,g3,e⟩,f,h⟩:=i;refine⟨⟨m,(a.cell (p:=(z 0)) Ψ).trans g1⟩,⟨b,(a.cell (p:=(z 1)) Ψ).trans g2,d⟩,⟨c,(a.cell (p:=(z 2)) Ψ).trans g3,e⟩, ?_,ο h a.size⟩;exact var?_below (g:=3) a (by kernel_rfl) Ψ f
def kJ.av9(l:bT F)(p:aQ G)(h:kJ F G S R w0 pb x c s1 s2 wx){g i:Nat->Prop}{t:Sl}(j:F wx x g s1)(m:∀k,g k->S k\/w0.heap.size<=k)(A:F wy x i t)(C:∀k,i k->g k\/wx.heap.size<=k)(a:aA g wx wy):kJ F G S R w0 pb x c t s2 wy:=by
 obtain⟨u,o,v⟩:=h.g;have s:¬g pb:=λd=>(l.tags j d h.tag).2.2.1 rfl;have q:∀n,wy.cell? (O pb n)=wx.cell? (O pb n):=λn=>η (w:=wx) (a.block pb h.tag.lt s);refine⟨h.tag.aJ a s,(q 0).trans h.p0,(q 1).trans h.p1,⟨i,A,λk f=>(C k f).elim (m k) (λe=>υ (ς h.aJ.size e))⟩,⟨u,p.stable o a (λk B d=>ae0 l p j o k d B) (λb y d=>(l.tags j d y).2.1 rfl),v⟩, ?_, ?_,h.s4⟩
 .refine⟨a.os.trans h.aJ.os,a.tape.trans h.aJ.tape,a.output.trans h.aJ.output,ς h.aJ.size a.size,λk f r=>?_⟩;exact(a.block k (ο f h.aJ.size) (λd=>(m k d).elim (λe=>r (τ e)) (λe=>V))).trans (h.aJ.block k f r)
 .exact ae1 h.glob (wG a (λk f=>(m k f).elim (h.s4.1 k) (λe=>ς h.s4.2.2 e)) (ς h.s4.2.2 h.aJ.size))
def kJ.ref(n:bT F)(o:aQ G)(h:kJ F G S R w0 pb x c s1 s2 wx){e g:Nat->Prop}{s:Sl}(l:G wx c e s2)(i:∀k,e k->R k\/w0.heap.size<=k)(A:G wy c g s)(C:∀k,g k->e k\/wx.heap.size<=k)(a:aA e wx wy):kJ F G S R w0 pb x c s1 s wy:=by
 obtain⟨t,m,u⟩:=h.f;have r:¬e pb:=λf=>by obtain⟨D,v,y⟩:=o.tags l f;exact(NH v).2.1 (rC y h.tag)
 have p:∀j,wy.cell? (O pb j)=wx.cell? (O pb j):=λj=>η (w:=wx) (a.block pb h.tag.lt r);refine⟨h.tag.aJ a r,(p 0).trans h.p0,(p 1).trans h.p1,⟨t,n.stable m a (λk f B=>ae0 n o m l k f B),u⟩,⟨g,A,λk d=>(C k d).elim (i k) (λb=>υ (ς h.aJ.size b))⟩, ?_, ?_,h.s4⟩
 .refine⟨a.os.trans h.aJ.os,a.tape.trans h.aJ.tape,a.output.trans h.aJ.output,ς h.aJ.size a.size,λk d q=>?_⟩;exact(a.block k (ο d h.aJ.size) (λf=>(i k f).elim (λb=>q (υ b)) (λb=>V))).trans (h.aJ.block k d q)
 .exact ae1 h.glob (wG a (λk d=>(i k d).elim (h.s4.2.1 k) (λb=>ς h.s4.2.2 b)) (ς h.s4.2.2 h.aJ.size))
def Told(F G:vS)(S R:Nat->Prop)(w:World)(pb x c:Nat)(s:Sl)(w':World):Prop :=
 ∃S' R',iw F G w' pb x S' c R' s/\(∀k,S' k->S k\/w.heap.size<=k)/\(∀k,R' k->R k\/w.heap.size<=k)/\aA (λk=>S k\/R k) w w'
def kJ.start(g:bT F)(i:aQ G){w w':World}(f:Glob w){s:Sl}(h:iw F G w pb x S c R s)(e:(∀k,S k->4<=k)/\(∀k,R k->4<=k))(b:Below w.heap.size w w'):kJ F G S R w pb x c s s w':=by have a:=h.below g i b;exact⟨a.tag,a.c0,a.c1,⟨S,a.f,λk d=>τ d⟩,⟨R,a.r,λk d=>τ d⟩,aA.of_below b,f.mono b,e.1,e.2,f.size⟩
def kJ.fin{w:World}{s:Sl}(h:kJ F G S R w pb x c s s wx):Told F G S R w pb x c s wx:=by obtain⟨b,d,e⟩:=h.f;obtain⟨a,f,g⟩:=h.g;exact⟨b,a,⟨h.tag,h.p0,h.p1,d,f⟩,e,g,h.aJ⟩
def Mid.start(a:bT F)(b:aQ G){w:World}(g:Glob w){s:Sl}(h:iw F G w pb x S c R s)(f:(∀k,S k->4<=k)/\(∀k,R k->4<=k))(o:dM):Mid F G S R (w.alloc (qQ o)) w.heap.size o pb x c s s (w.alloc (qQ o)):=by have e:Below w.heap.size w (w.alloc (qQ o)):=(φ _ w).alloc (χ _) _;exact⟨kJ.start a b (g.mono e) (h.below a b e) f (φ _ _),aC.new w _ _,λd=>by have:=a.lt h.f d;omega,λd=>by have:=b.lt h.r d;omega⟩
def Mid.fin{w:World}{s:Sl}(h:Mid F G S R (w.alloc (qQ o)) w.heap.size o pb x c s s wx):Told F G S R w pb x c s wx:=by obtain⟨f,e,g,i,j,l⟩:=h.m.fin;have b:Below w.heap.size w (w.alloc (qQ o)):=(φ _ w).alloc (χ _) _;exact⟨f,e,g,λk d=>(i k d).imp id (λa=>ς b.size a),λk d=>(j k d).imp id (λa=>ς b.size a),(aA.of_below b).trans l⟩
end
end
section
open Go.Proofs.Tryz Go.RowKit
variable{F G:vS}
section
variable{S R:Nat->Prop}{w0:World}{bx:Nat}{o:dM}{pb x c:Nat}{s1 s2:Sl}{wx:World}
def kJ.ak6(hF:kF F)(g:bT F)(i:aQ G)(h:kJ F G S R w0 pb x c s1 s2 wx)(f:Int):Calls prog 45 #[.pointer (some (z x)),I f] wx λe w'=>e=.returned (.tuple #[.string (fH s1.1 f).1,I (fH s1.1 f).2])/\kJ F G S R w0 pb x c s1 s2 w':=by obtain⟨b,a,d⟩:=h.f;refine ψ (hF.frame wx x b s1 f h.glob a) ?_;rintro e w'⟨rfl,k,f2,g2,j⟩;exact⟨rfl,h.av9 g i a d f2 g2 j⟩
def kJ.ak7(d:kQ G)(h:kJ F G S R w0 pb x c s1 s2 wx)(f:Int):Calls prog 46 #[.pointer (some (z c)),I f] wx λe w'=>∃n:Nat,e=.returned (I n)/\n<=100000000/\(iF s2.1 f=none->n=0)/\(∀x,s2.ls[f.toNat-1]?=some x->iF s2.1 f≠none->n=x.most/\n≠0)/\w'=wx:=by obtain⟨a,b,g⟩:=h.g;exact d.bound wx c a s2 f b
def Mid.pc(m:bT F)(n:aQ G)(h:Mid F G S R w0 bx o pb x c s1 s2 wx){f:FuncId}{j:Array Value}{E:Ending->Sl->Prop}(b:∀a,F wx x a s1->(∀k,a k->4<=k)->Calls prog f j wx λe w'=>∃s',E e s'/\∃d,F w' x d s'/\(∀k,d k->a k\/wx.heap.size<=k)/\aA a wx w'):Calls prog f j wx λe w'=>∃s',E e s'/\Mid F G S R w0 bx o pb x c s' s2 w':=by obtain⟨a,g,i⟩:=h.m.f;refine ψ (b a g (λk q=>(i k q).elim (h.m.s4.1 k) (λl=>ς h.m.s4.2.2 l))) ?_;rintro e w'⟨s',p,r,f2,g2,b⟩;exact⟨s',p,h.m.av9 m n g i f2 g2 b,h.bk,h.bS,h.bR⟩
def Mid.rc(l:bT F)(m:aQ G)(h:Mid F G S R w0 bx o pb x c s1 s2 wx){f:FuncId}{i:Array Value}{E:Ending->Prop}{s':Sl}(b:∀a,G wx c a s2->Calls prog f i wx λe w'=>E e/\∃d,G w' c d s'/\(∀k,d k->a k\/wx.heap.size<=k)/\aA a wx w'):Calls prog f i wx λe w'=>E e/\Mid F G S R w0 bx o pb x c s1 s' w':=by obtain⟨a,g,j⟩:=h.m.g;refine ψ (b a g) ?_;rintro e w'⟨n,p,f2,g2,b⟩;exact⟨n,h.m.ref l m g j f2 g2 b,h.bk,h.bS,h.bR⟩
def Mid.ps(j:bT F)(l:aQ G)(h:Mid F G S R w0 bx o pb x c s1 s2 wx){f:FuncId}{g:Array Value}{s':Sl}{E:Ending->Prop}(m:∀a,F wx x a s1->Calls prog f g wx λe w'=>E e/\∃d,F w' x d s'/\(∀k,d k->a k\/wx.heap.size<=k)/\aA a wx w'):Calls prog f g wx λe w'=>E e/\Mid F G S R w0 bx o pb x c s' s2 w':=by
 refine ψ (h.pc j l (E:=λe s=>E e/\s=s') (λa i _=>ψ (m a i) ?_)) ?_
 .rintro e w'⟨b,p⟩;exact⟨s',⟨b,rfl⟩,p⟩
 .rintro e w'⟨s2,⟨b,rfl⟩,n⟩;exact⟨b,n⟩
def Mid.aD7(hF:kF F)(g:bT F)(j:aQ G)(h:Mid F G S R w0 bx o pb x c s1 s2 wx)(i:Int)(t:ByteArray)(l:t.size<=1048576):Calls prog 12 #[.pointer (some (z x)),I i,.string t] wx λe w'=>∃u,e=.returned (.tuple #[.string u,I (pR s1 i (ay t)).2])/\ay u=(pR s1 i (ay t)).1/\Mid F G S R w0 bx o pb x c s1 s2 w':=by
 refine ψ (h.ps g j (s':=s1) (E:=λe=>∃u,e=.returned (.tuple #[.string u,I (pR s1 i (ay t)).2])/\ay u=(pR s1 i (ay t)).1) (λd f=>ψ (hF.asks wx x d s1 i t h.m.glob f l) ?_)) ?_
 .rintro e w'⟨u,a,b,m⟩;exact⟨⟨u,a,b⟩,m⟩
 .rintro e w'⟨⟨u,a,b⟩,k⟩;exact⟨u,a,b,k⟩
def Mid.aD8(g:kQ G)(d:bT F)(f:aQ G)(h:Mid F G S R w0 bx o pb x c s1 s2 wx)(i:Int)(t:ByteArray)(k:t.size<=1048576):Calls prog 23 #[.pointer (some (z c)),I i,.string t] wx λe w'=>∃u,e=.returned (.tuple #[.string u,I (pR s2 i (ay t)).2])/\ay u=(pR s2 i (ay t)).1/\Mid F G S R w0 bx o pb x c s1 s2 w':=by obtain⟨a,b,m⟩:=h.m.g;refine ψ (g.asks wx c a s2 i t b k) ?_;rintro e w'⟨u,rfl,l,j⟩;exact⟨u,rfl,l,h.below d f j⟩
def Mid.YC(hF:kF F)(d:bT F)(f:aQ G)(h:Mid F G S R w0 bx o pb x c s1 s2 wx)(i:Int):Calls prog 13 #[.pointer (some (z x)),I i] wx λe w'=>e=.returned (.tuple #[I (iq s1 i).1,I (iq s1 i).2])/\Mid F G S R w0 bx o pb x c s1 s2 w':=h.ps d f λa b=>hF.knows wx x a s1 i h.m.glob b
def Mid.rUp(d:kQ G)(h:Mid F G S R w0 bx o pb x c s1 s2 wx)(i:Int):Calls prog 22 #[.pointer (some (z c)),I i] wx λe w'=>e=.returned (I (iQ s2 i))/\w'=wx:=by obtain⟨a,b,f⟩:=h.m.g;exact d.up wx c a s2 i b
end
def G8(hF:kF F)(q:kQ G)(d:bT F)(e:aQ G)(w:World)(A:Glob w)(pb x:Nat)(S:Nat->Prop)(c:Nat)(R:Nat->Prop)(s:Sl)(h:iw F G w pb x S c R s)(y:(∀k,S k->4<=k)/\(∀k,R k->4<=k))(o:dM)(B:o.ok)(Z:o.kind=3):Calls prog 8 #[.pointer (some (z pb)),o.val] w λm w'=>m=.returned (.bool true)/\Told F G S R w pb x c s w':=by
 have j:=ω d;have l:=ω e;have C:=B.2.2.2.2;unfold dM.val;obtain⟨a,p⟩:∃a,a=w.alloc (qQ o):=⟨_,rfl⟩;have f:J<|∀r,Mid F G S R a w.heap.size o pb x c s s (a.drewN r):=λr=>by rw[p];exact(Mid.start d e A h y o).drewN d e r
 have T:J<|∀wx,Mid F G S R a w.heap.size o pb x c s s wx->Calls prog 12 #[.pointer (some (z x)),I o.n,.string o.s] wx _:=λwx b=>b.aD7 hF d e o.n o.s C;have U:J<|∀wx,Mid F G S R a w.heap.size o pb x c s s wx->Calls prog 23 #[.pointer (some (z c)),I o.n,.string o.s] wx _:=λwx b=>b.aD8 q d e o.n o.s C;have a2:J<|∀wx,Mid F G S R a w.heap.size o pb x c s s wx->Calls prog 22 #[.pointer (some (z c)),I o.n] wx _:=λwx b=>b.rUp q o.n;have Y:J<|∀wx,Mid F G S R a w.heap.size o pb x c s s wx->Told F G S R w pb x c s wx:=λwx b=>by rw[p]at b;exact b.fin
 have Q:=ω p.symm;have y0:a.cell? (z w.heap.size)=some (I o.kind):=(f.o 0).b0;have y1:a.cell? (O pb 1)=some (.pointer (some (z c))):=(f.o 0).p1;have y2:a.cell? (O w.heap.size 2)=some (I o.n):=(f.o 0).b2;obtain⟨k,v,n,H,t⟩:=o;simp only at *;subst Z;clear hF q d e A h B p y;go_enter func8,ntmps8;go_wp2_with fail;rw[Q.o]
 go_quiet (first|(go_at_call 22;exact ψ (a2.o _ (f.o _)) (λ_ _ h=>⟨h.1,_,h.2⟩)))
 go_wp2_with fail;have a1:=f.o nq;clear f a2 y0 y1 y2;generalize a.drewN nq=w2 at *;have q0:=a1.p0;have K:=a1.b2;have L:=a1.b4;simp only at K L;go_region_held3 (λw'=>Mid F G S R a w.heap.size ⟨3,v,n,H,t⟩ pb x c s s w'/\w'.cell? (z pb)=some (.pointer (some (z x)))/\w'.cell? (O w.heap.size 2)=some (I n)/\w'.cell? (O w.heap.size 4)=some (.string t)) ((refine⟨?_, ?_, ?_, ?_⟩<;>(first|assumption|(exact Mid.drew j.o l.o Φ)|(exact Mid.p0 Φ)|(exact Mid.b2 Φ)|(exact Mid.b4 Φ)))) (first|(go_at_call 12;refine ψ (T.o _ ?_) ?_;(exact a1.drew j.o l.o);rintro m w3⟨u,rfl,D,i⟩));have W:=ω D;clear a1 q0 K L D;go_wp2_with fail;have r1:=i.p1;have M:=i.b2;have N:=i.b4;simp only at M N;go_region_held3 (λw'=>Mid F G S R a w.heap.size ⟨3,v,n,H,t⟩ pb x c s s w'/\w'.cell? (O pb 1)=some (.pointer (some (z c)))/\w'.cell? (O w.heap.size 2)=some (I n)/\w'.cell? (O w.heap.size 4)=some (.string t)) ((refine⟨?_, ?_, ?_, ?_⟩<;>(first|assumption|(exact Mid.drew j.o l.o Φ)|(exact Mid.p1 Φ)|(exact Mid.b2 Φ)|(exact Mid.b4 Φ)))) (first|(go_at_call 23;refine ψ (U.o _ ?_) ?_;(exact i.drew j.o l.o);rintro m w4⟨u',rfl,E,P⟩));have a0:=nY (E.trans W.o.symm);subst a0;have X:=ω P;clear i P r1 M N E;generalize (pR s n (ay t)).2=g at *;go_wp2_with (first|(go_at_call 24;refine(iL _ _).mono ?_;rintro m w5⟨rfl,rfl⟩));go_ret;exact⟨rfl,Y.o _ X.o⟩
end
section
open Go.Proofs.Tryz Go.RowKit
variable{F G:vS}
def ED{s:Sl}{i:Int}(h:iQ s i=0):∃k:Nat,i=(k:Int)/\k<s.kn.length:=by
 unfold iQ at h;by_cases a:0<=i/\i<s.kn.length
 .exact⟨i.toNat,V,V⟩
 .rw[ύ a]at h;cases h
def AX(hF:kF F)(A:kQ G)(j:bT F)(l:aQ G)(w:World)(K:Glob w)(pb x:Nat)(S:Nat->Prop)(c:Nat)(R:Nat->Prop)(s:Sl)(h:iw F G w pb x S c R s)(H:(∀k,S k->4<=k)/\(∀k,R k->4<=k))(o:dM)(ho:o.ok)(hk:o.kind=4):Calls prog 8 #[.pointer (some (z pb)),o.val] w λm w'=>m=.returned (.bool true)/\Told F G S R w pb x c s w':=by
 have t:=ω j;have a6:=ω l;have X:=ω A;unfold dM.val;obtain⟨a,r⟩:∃a,a=w.alloc (qQ o):=⟨_,rfl⟩;have f:J<|∀q,Mid F G S R a w.heap.size o pb x c s s (a.drewN q):=λq=>by rw[r];exact(Mid.start j l K h H o).drewN j l q
 have C:J<|∀wx,Mid F G S R a w.heap.size o pb x c s s wx->Calls prog 13 #[.pointer (some (z x)),I o.n] wx _:=λwx e=>e.YC hF j l o.n;have B:J<|∀wx,Mid F G S R a w.heap.size o pb x c s s wx->Calls prog 22 #[.pointer (some (z c)),I o.n] wx _:=λwx e=>e.rUp A o.n;have L:J<|∀wx,Mid F G S R a w.heap.size o pb x c s s wx->Told F G S R w pb x c s wx:=λwx e=>by rw[r]at e;exact e.fin
 have Y:=ω r.symm;have y0:a.cell? (z w.heap.size)=some (I o.kind):=(f.o 0).b0;have y1:a.cell? (O pb 1)=some (.pointer (some (z c))):=(f.o 0).p1;have y2:a.cell? (O w.heap.size 2)=some (I o.n):=(f.o 0).b2;obtain⟨k,D,n,Q,U⟩:=o;simp only at *;subst hk;clear hF A j l K h ho r H;go_enter func8,ntmps8;go_wp2_with fail;rw[Y.o]
 go_quiet (first|(go_at_call 22;exact ψ (B.o _ (f.o _)) (λ_ _ h=>⟨h.1,_,h.2⟩)))
 go_wp2_with fail;have p:=f.o nq;clear f B y0 y1 y2;generalize a.drewN nq=w2 at *;have q0:=p.p0;have T:=p.b2;simp only at T;go_region_held3 (λw'=>Mid F G S R a w.heap.size ⟨4,D,n,Q,U⟩ pb x c s s w'/\w'.cell? (z pb)=some (.pointer (some (z x)))/\w'.cell? (O w.heap.size 2)=some (I n)) ((refine⟨?_, ?_, ?_⟩<;>(first|assumption|(exact Mid.drew t.o a6.o Φ)|(exact Mid.p0 Φ)|(exact Mid.b2 Φ)))) (first|(go_at_call 13;refine ψ (C.o _ ?_) ?_;(exact p.drew t.o a6.o);rintro m W⟨rfl,b⟩));clear p q0 T C;by_cases d:iQ s n=0
 .obtain⟨i,rfl,M⟩:=ED d;have y:=d;have g:iq s (i:Int)=((cnt s.kn[i]:Int),0):=by unfold iq;rw[ώ d];simp[ξ,M]
  rw[y,g];obtain⟨R1,E,h2⟩:=b.m.g;obtain⟨h6,rb,a1,f1,a2,N⟩:=X.o.cells _ _ _ _ E;obtain⟨kv,k0,P,a0⟩:=(N i M).1;have r1:=b.p1;have r2:=b.b2;simp only at r2;have Wv:=ω<|λq=>oQ W.heap.size kv s.kn[i] _ a0 (aI.below P (below_drewN (φ _ _) q)).A8
  have v:=ω b;clear E h2 b P y g d N;generalize cnt s.kn[i]=a5 at *;have a3:(0:Int)<=(i:Int):=V
  have a4:(i:Int)<(s.kn.length:Int):=V
  go_wp2_with fail
  go_quiet (first|(go_at_call 25;exact ψ (Wv.o _) (λ_ _ h=>⟨h.1,_,h.2⟩)))
  have Z:J<|Mid F G S R a w.heap.size ⟨4,D,(i:Int),Q,U⟩ pb x c s s (W.drewN nq):=v.o.drewN t.o a6.o _;go_wp2_with (first|(go_at_call 24;refine(iL _ _).mono ?_;rintro m w5⟨rfl,rfl⟩));go_ret;exact⟨rfl,L.o _ Z.o⟩
 .have g:iq s n=(0,iQ s n):=ύ d;rw[g];have y:=ό.2 d;generalize iQ s n=u at *;have v:=ω b;clear b g d;go_wp2_with (first|(go_at_call 24;refine(iL _ _).mono ?_;rintro m w5⟨rfl,rfl⟩));all_goals(go_ret;exact⟨rfl,L.o _ v.o⟩)
end
section
open Go.Proofs.Tryz Go.RowKit
def Qv(s:Sl)(i:Int)(t:Thk.Bs):∃r s',Oj s i t r s':=by
 by_cases a:iQ s i=0
 .cases hr:Thk.read t with
  | inl k=>exact⟨_,_,υ (τ ⟨k,a,hr,rfl,rfl⟩)⟩
  | inr c =>
   by_cases d:500<=s.acc
   .exact⟨_,_,υ (υ (τ ⟨c,a,hr,d,rfl,rfl⟩))⟩
   .cases ha:(s.rs i.toNat).arm with
    | none=>exact⟨_,_,υ (υ (υ ⟨c,⟨⟨c.path.toArray⟩,c.act,⟨c.val.toArray⟩,c.n,s.kn.getD i.toNat []⟩,a,hr,V,⟨rfl,rfl,rfl,rfl,rfl⟩,by rw[ha];exact⟨rfl,rfl⟩⟩))⟩
    | some b=>exact⟨_,_,υ (υ (υ ⟨c,⟨⟨c.path.toArray⟩,c.act,⟨c.val.toArray⟩,c.n,s.kn.getD i.toNat []⟩,a,hr,V,⟨rfl,rfl,rfl,rfl,rfl⟩,by rw[ha];exact⟨rfl,rfl⟩⟩))⟩
 .exact⟨_,_,τ ⟨a,rfl,rfl⟩⟩
def ab2{s s1 s2:Sl}{i w x:Int}{t:Thk.Bs}(C:Oj s i t w s1)(D:Oj s i t x s2):w=x/\s1=s2:=by
 rcases C with⟨d,rfl,rfl⟩|⟨M,d,h,rfl,rfl⟩|⟨c,d,h,F,rfl,rfl⟩|⟨c,A,d,h,F,⟨j,k,l,m,o⟩,f⟩ <;>
  rcases D with⟨a,rfl,rfl⟩|⟨N,a,e,rfl,rfl⟩|⟨y,a,e,E,rfl,rfl⟩|⟨y,B,a,e,E,⟨p,q,r,u,v⟩,g⟩ <;>
  first|exact⟨rfl,rfl⟩|exact absurd a d|exact absurd d a|omega|(rw[h]at e;cases e;first|exact⟨rfl,rfl⟩|skip)
 obtain⟨Q,K,U,n,S⟩:=A;obtain⟨R,L,W,P,T⟩:=B;simp only at j k l m o p q r u v;have G:=nY (j.trans p.symm);have H:=nY (l.trans r.symm);subst G H k m o q u v;cases ha:(s.rs i.toNat).arm with
 | none=>rw[ha]at f g;obtain⟨rfl,rfl⟩:=f;obtain⟨rfl,rfl⟩:=g;exact⟨rfl,rfl⟩
 | some b=>rw[ha]at f g;obtain⟨rfl,rfl⟩:=f;obtain⟨rfl,rfl⟩:=g;exact⟨rfl,rfl⟩
def LR.xB(a:Nat)(L:LR):(L.write a).made=L.made+1/\(L.write a).lost<=L.lost+1/\(L.write a).ak=L.ak:=by unfold LR.write;split<;>simp
section
variable{n:Nat}{s s':Sl}
def Sz.upd(h:Sz n s){b:List Ev}(g:b.length<=n+1){a:Nat}(f:a<=n+1){k:Nat}{L:LR}(d:L.made<=n+1/\L.lost<=n+1)(j:List (List Bool))(c:List lH)(l:List LF)(m:Nat):Sz (n+1) ⟨⟨b,j,c⟩,m,aX s.rs k L,l,a⟩:=⟨g,f,λi=>by
 show(aX s.rs k L i).made<=_/\(aX s.rs k L i).lost<=_;by_cases e:i=k
 .rw[e,aN];exact d
 .rw[aS _ _ e];have:=h.2.2 i;omega⟩
def Sz.one(h:Sz n s):Sz (n+1) s:=h.mono (Nat.le_succ n)
def Sz.wr(h:Sz n s)(i:Nat):((s.rs i).write s.room).made<=n+1/\((s.rs i).write s.room).lost<=n+1:=by have a:=LR.xB s.room (s.rs i);have b:=h.2.2 i;omega
def Sz.dos(h:Sz n s){i r:Int}{t:Thk.Bs}(j:Oj s i t r s'):Sz (n+1) s':=by
 obtain⟨d,e,a⟩:=h;rcases j with⟨_,_,rfl⟩|⟨_,_,_,_,rfl⟩|⟨_,_,_,_,_,rfl⟩|⟨c,k,_,_,_,_,f⟩
 .exact Sz.one ⟨d,e,a⟩
 .exact Sz.one ⟨d,e,a⟩
 .exact Sz.one ⟨d,e,a⟩
 .have g:Sz n s:=⟨d,e,a⟩;cases ha:(s.rs i.toNat).arm with
  | none =>rw[ha]at f;obtain⟨_,rfl⟩:=f;exact g.upd Θ V (g.wr _) _ _ _ _
  | some b =>rw[ha]at f;obtain⟨_,rfl⟩:=f;have:=a i.toNat;exact g.upd Θ V ⟨by show(s.rs i.toNat).made<=_;omega,by show(s.rs i.toNat).lost+1<=_;omega⟩ _ _ _ _
def Sz.snd(h:Sz n s){i j:Int}(a:rH s i j s'):Sz (n+1) s':=by
 unfold rH at a;split at a
 .obtain⟨b,rfl⟩:=a;exact Sz.one h
 .rw[a];exact h.one
def Sz.del(h:Sz n s){f:Int}(a:J9 s f s'):Sz (n+1) s':=by
 have c:=h;obtain⟨d,i,e⟩:=h;unfold J9 at a;split at a
 .rw[a];exact c.one
 .rename_i g _;have j:=e g.dst;split at a
  .rw[a];exact c.one
  .split at a
   .rw[a];exact c.upd (Nat.le_succ_of_le d) V ⟨by show(s.rs g.dst).made<=_;omega,by show(s.rs g.dst).lost<=_;omega⟩ _ _ _ _
   .split at a
    .rw[a];exact c.one
    .split at a
     .rw[a];exact c.upd (Nat.le_succ_of_le d) V ⟨by show(s.rs g.dst).made<=_;omega,by show(s.rs g.dst).lost+1<=_;omega⟩ _ _ _ _
     .obtain⟨b,rfl⟩:=a;exact c.upd (Nat.le_succ_of_le d) V (c.wr _) _ _ _ _
     .obtain⟨b,rfl⟩:=a;exact Sz.one c
def Sz.tick(h:Sz n s)(i:Int):Sz (n+1) (wH s i):=by
 unfold wH;split
 .have c:=h.2.2 i.toNat;have a:=h.1;have b:=h.2.1;exact h.upd (Nat.le_succ_of_le a) V ⟨by show(s.rs i.toNat).made<=_;omega,by show(s.rs i.toNat).lost<=_;omega⟩ _ _ _ _
 .exact h.one
def Sz.crash(h:Sz n s)(i:Int):Sz (n+1) (pU s i):=by
 unfold pU;split
 .have c:=h.2.2 i.toNat;have a:=h.1;have b:=h.2.1;exact h.upd (Nat.le_succ_of_le a) V ⟨by show(s.rs i.toNat).made<=_;omega,by show(s.rs i.toNat).lost+1<=_;omega⟩ _ _ _ _
 .exact h.one
def Sz.Ba(h:Sz n s)(i b:Int):Sz (n+1) (rJ s i b):=by
 unfold rJ;split
 .have d:=h.2.2 i.toNat;have a:=h.1;have c:=h.2.1;exact h.upd (Nat.le_succ_of_le a) V ⟨by show(s.rs i.toNat).made<=_;omega,by show(s.rs i.toNat).lost<=_;omega⟩ _ _ _ _
 .exact h.one
def Sz.wake(h:Sz n s){i:Int}(a:vP s i s'):Sz (n+1) s':=by
 have g:=h.2.2 i.toNat;have e:=h.1;have f:=h.2.1;unfold vP at a;split at a
 .rename_i hu;obtain⟨d,c⟩:∃d,(s.rs i.toNat).dn=some d:=by
   unfold iQ at hu;split at hu
   .cases c:(s.rs i.toNat).dn with
    | none=>rw[c]at hu;cases hu
    | some d=>exact⟨d,rfl⟩
   .cases hu
  obtain⟨b,_,_,rfl⟩:=a d c;exact h.upd (Nat.le_succ_of_le e) (by split<;>omega) ⟨by show(if b then _ else _)<=_;split<;>omega,by show(s.rs i.toNat).lost+1<=_;omega⟩ _ _ _ _
 .rw[a];exact h.one
end
structure EF(G:vS):Prop where
 good:∀(r room:Nat)(w:World),1<=r->r<=6->room<=50->Calls prog 44 #[I r,I room] w λe w'=>∃c R,e=.returned (.pointer (some (z c)))/\G w' c R (st0 r room)/\(∀k,R k->w.heap.size<=k)/\Below w.heap.size w w'
def Qw(w:World)(pb:Nat)(o:dM)(d:¬(o.kind=2\/o.kind=10\/o.kind=11\/o.kind=12)/\¬o.kind=13):Calls prog 21 #[.pointer (some (z pb)),o.val] w λe w'=>e=.returned (.bool true)/\Below w.heap.size w w':=by obtain⟨k,c,n,m,s⟩:=o;unfold dM.val;simp only at *;have j:(k==2)=false:=ό.2 V;have f:(k==10)=false:=ό.2 V;have g:(k==11)=false:=ό.2 V;have h:(k==12)=false:=ό.2 V;have i:(k==13)=false:=ό.2 V;have a:=ω<|λb=>(φ _ w).alloc (χ _) b;go_enter func21,ntmps21;go_wp2_with (first|(go_at_call 24;refine(iL _ _).mono ?_;rintro e l⟨rfl,rfl⟩));go_ret;exact⟨rfl,a.o _⟩
variable{F G:vS}
def G9(hF:kF F)(C:kQ G)(A:bT F)(B:aQ G){S R:Nat->Prop}{w0:World}{pb x c:Nat}{s:Sl}{w:World}(h:kJ F G S R w0 pb x c s s w)(b:Nat)(D:w0.cell? (O b 1)=some (.bool true))(m:¬S b/\¬R b)(E:b<w0.heap.size)(f:Int):Calls prog 18 #[.pointer (some (z b)),.pointer (some (z pb)),I f] w λe w'=>e=.returned (.bool true)/\kJ F G S R w0 pb x c s s w':=by
 have k:J<|∀wx,kJ F G S R w0 pb x c s s wx->Calls prog 45 #[.pointer (some (z x)),I f] wx λe w'=>e=.returned (.tuple #[.string (fH s.1 f).1,I (fH s.1 f).2])/\kJ F G S R w0 pb x c s s w':=λwx d=>d.ak6 hF A B f;have u:J<|∀wx,kJ F G S R w0 pb x c s s wx->Calls prog 46 #[.pointer (some (z c)),I f] wx λe w'=>∃n:Nat,e=.returned (I n)/\n<=100000000/\(iF s.1 f=none->n=0)/\(∀x,s.ls[f.toNat-1]?=some x->iF s.1 f≠none->n=x.most/\n≠0)/\w'=wx:=λwx d=>d.ak7 C f;have v:J<|∀wx,kJ F G S R w0 pb x c s s wx->wx.cell? (O b 1)=some (.bool true):=λwx d=>(d.cell E m.1 m.2 1).trans D;have o:∀g,iF s.1 f=some g->g.bytes.size<=1000000000/\∃x,s.ls[f.toNat-1]?=some x/\g.bytes.size<=x.most:=λg N=>by obtain⟨X,M,_⟩:=h.f;exact hF.fsz _ _ _ _ _ _ M N
 have r:=h.p0;have H:J<|_:=h;clear hF C A B D m E h;go_enter func18,ntmps18;go_wp2_with fail;refine ψ (k.o _ H.o) ?_;rintro e w2⟨rfl,l⟩;clear r H;have r:=l.p0;have t:J<|_:=l;clear l;go_wp2_with fail;refine ψ (k.o _ t.o) ?_;rintro e w3⟨rfl,i⟩;clear r t k;have T:=i.p1;have j:=ω i;have Z:=v.o _ i;clear i v;go_wp2_with fail;refine ψ (u.o _ j.o) ?_;rintro e w4⟨n,rfl,P,p,q,rfl⟩;clear u T;cases hf:iF s.1 f with
 | none =>
  have a:fH s.1 f=(⟨#[]⟩,9):=by unfold fH;rw[hf]
  have y:=p hf;subst y;rw[a];clear p q hf a o P;go_wp2_with (first|(go_at_call 24;refine(iL _ _).mono ?_;rintro e U⟨rfl,rfl⟩));go_ret;exact⟨rfl,j.o⟩
 | some g =>
  have a:fH s.1 f=(g.bytes,0):=by unfold fH;rw[hf]
  obtain⟨a1,W,K,Q⟩:=o g hf;obtain⟨L,y⟩:=q W K (by rw[hf];simp);have a0:(g.bytes.size:Int)<=(n:Int):=V
  rw[a];clear p q hf a o K Q L;have e3:((n:Int)==0)=false:=ό.2 V;generalize g.bytes=Y at *;go_wp2_with (first|(go_at_call 24;refine(iL _ _).mono ?_;rintro e U⟨rfl,rfl⟩));go_ret;exact⟨rfl,j.o⟩
def U9(hF:kF F)(l:kQ G)(a:bT F)(d:aQ G)(w:World)(j:Glob w)(pb x:Nat)(S:Nat->Prop)(c:Nat)(R:Nat->Prop)(s:Sl)(h:iw F G w pb x S c R s)(g:(∀k,S k->4<=k)/\(∀k,R k->4<=k))(b:Nat)(m:w.cell? (O b 1)=some (.bool true))(o:¬S b/\¬R b)(n:b<w.heap.size)(f:Int):Calls prog 18 #[.pointer (some (z b)),.pointer (some (z pb)),I f] w λe w'=>e=.returned (.bool true)/\Told F G S R w pb x c s w':=by refine ψ (G9 hF l a d (kJ.start a d j h g (φ _ _)) b m o n f) ?_;rintro e w'⟨rfl,i⟩;exact⟨rfl,i.fin⟩
def RP(s:Sl)(i:Int):0<=iQ s i/\iQ s i<=3:=by
 unfold iQ;split
 .split<;>decide
 .decide
def Va(s:Sl)(i j:Int)(h:s.fs.length<=1000000):0<=(iC s i j).1/\(iC s i j).1<=1000001/\0<=(iC s i j).2/\(iC s i j).2<=9:=by
 have a:=RP s i;have b:=RP s j;unfold iC;split
 .split
  .split
   .simp
   .split<;>simp<;>omega
  .simp;omega
 .simp;omega
def YD(s:Sl)(f:Int)(h:s.fs.length<=1000000):0<=(delS s f).1/\(delS s f).1<=1000001/\0<=(delS s f).2/\(delS s f).2<=9:=by
 unfold delS;split
 .simp
 .split
  .simp
  .split
   .simp
   .split
    .simp
    .split<;>simp<;>omega
def Qx(hF:kF F)(C:kQ G)(d:bT F)(f:aQ G)(w:World)(hG:Glob w)(pb x:Nat)(S:Nat->Prop)(c:Nat)(R:Nat->Prop)(s:Sl)(P:iw F G w pb x S c R s)(h4:(∀l,S l->4<=l)/\(∀l,R l->4<=l)){q:Nat}(k:Sz q s)(a5:q<=1048575)(b:Nat)(hb:w.cell? (O b 1)=some (.bool true))(a3:¬S b/\¬R b)(T:b<w.heap.size)(o:dM)(D:o.kind=5\/o.kind=7):Calls prog 19 #[.pointer (some (z b)),.pointer (some (z pb)),o.val] w λe w'=>e=.returned (.bool true)/\∃s',Sz (q+1) s'/\Told F G S R w pb x c s' w':=by
 have r:=ω d;have a9:=ω f;have P5:=k.mono a5;unfold dM.val;obtain⟨W1,a8⟩:∃W1,W1=w.alloc (qQ o):=⟨_,rfl⟩;have pF:J<|Mid F G S R W1 w.heap.size o pb x c s s W1:=by rw[a8];exact Mid.start d f hG P h4 o
 have Q:Below w.heap.size w W1:=by rw[a8];exact(φ _ w).alloc (χ _) _
 have W:J<|∀s1 wx,Mid F G S R W1 w.heap.size o pb x c s1 s1 wx->Told F G S R w pb x c s1 wx:=λs1 wx a7=>by rw[a8]at a7;exact a7.fin
 have a0:J<|∀s' wx N,Mid F G S R W1 w.heap.size o pb x c s' s' wx->Calls prog 18 #[.pointer (some (z b)),.pointer (some (z pb)),I N] wx λe w'=>e=.returned (.bool true)/\Told F G S R w pb x c s' w':=λs' wx N a7=>by refine ψ (G9 hF C d f a7.m b ((Q.cell (p:=(O b 1)) T).trans hb) a3 (ο T Q.size) N) ?_;rintro e w'⟨rfl,h5⟩;exact⟨rfl,W.o _ _ ⟨h5,a7.bk,a7.bS,a7.bR⟩⟩
 have X:=hF.al6 _ _ _ _ P.f;have HW:=ω a8.symm;rcases D with D|D
 case' inl =>
  obtain⟨u,v,Z,hr,H,y,A⟩:∃(u v:Int)(Z:Sl->Prop),(0<=u/\u<=1000001/\0<=v/\v<=9)/\J (∀s',Z s'->Sz (q+1) s')/\J (∀wx,Mid F G S R W1 w.heap.size o pb x c s s wx->Calls prog 14 #[.pointer (some (z x)),I o.n,I o.m] wx λe w'=>∃s',(e=.returned (.tuple #[I u,I v])/\Z s')/\Mid F G S R W1 w.heap.size o pb x c s' s w')/\J (∀wx s',Z s'->Mid F G S R W1 w.heap.size o pb x c s' s wx->Calls prog 47 #[.pointer (some (z c)),I o.n,I o.m] wx λe w'=>e=.returned (.tuple #[I u,I v])/\Mid F G S R W1 w.heap.size o pb x c s' s' w') :=
   ⟨_,_,rH s o.n o.m,Va s o.n o.m X,λs' j=>k.snd j,λwx a7=>a7.pc d f λM g _=>ψ (hF.sends wx x M s o.n o.m a7.m.glob g) (by rintro e w'⟨U,L,s',hw,a7⟩;exact⟨s',⟨U,hw⟩,L,a7⟩),λwx s' j a7=>a7.rc d f λK g=>C.sends wx c K s o.n o.m s' g j⟩
 case' inr =>
  obtain⟨u,v,Z,hr,H,y,A⟩:∃(u v:Int)(Z:Sl->Prop),(0<=u/\u<=1000001/\0<=v/\v<=9)/\J (∀s',Z s'->Sz (q+1) s')/\J (∀wx,Mid F G S R W1 w.heap.size o pb x c s s wx->Calls prog 15 #[.pointer (some (z x)),I o.n] wx λe w'=>∃s',(e=.returned (.tuple #[I u,I v])/\Z s')/\Mid F G S R W1 w.heap.size o pb x c s' s w')/\J (∀wx s',Z s'->Mid F G S R W1 w.heap.size o pb x c s' s wx->Calls prog 48 #[.pointer (some (z c)),I o.n] wx λe w'=>e=.returned (.tuple #[I u,I v])/\Mid F G S R W1 w.heap.size o pb x c s' s' w') :=
   ⟨_,_,J9 s o.n,YD s o.n X,λs' j=>k.del j,λwx a7=>a7.pc d f λM g _=>ψ (hF.Ko wx x M s o.n a7.m.glob g) (by rintro e w'⟨U,L,s',hw,a7⟩;exact⟨s',⟨U,hw⟩,L,a7⟩),λwx s' j a7=>a7.rc d f λK g=>C.Ko wx c K s o.n s' g P5 j⟩
 all_goals
  obtain⟨v1,v2,v3,v4⟩:=hr;obtain⟨l,a,n,m,t⟩:=o;simp only at *;subst D;clear hF C d f hG P a8 h4 hb a3 T Q X k P5;go_enter func19,ntmps19;have h:=pF.o;clear pF;have a4:=h.b0;simp only at a4;go_wp2_with fail;rw[HW.o];have q0:=h.p0;have q2:=h.b2;have q3:=h.b3;simp only at q2 q3;go_wp2_with fail;go_region_held3 (λw'=>w'.cell? (z pb)=some (.pointer (some (z x)))/\w'.cell? (O w.heap.size 2)=some (I n)/\w'.cell? (O w.heap.size 3)=some (I m)) ((refine⟨?_, ?_, ?_⟩<;>(first|assumption|(exact Mid.p0 Φ)|(exact Mid.b2 Φ)|(exact Mid.b3 Φ)))) (first|(go_at_call 14;refine ψ (y.o _ ?_) ?_;(exact h.drew r.o a9.o);rintro e w3⟨s',⟨rfl,Y⟩,i⟩)|(go_at_call 15;refine ψ (y.o _ ?_) ?_;(exact h.drew r.o a9.o);rintro e w3⟨s',⟨rfl,Y⟩,i⟩));have B:J<|_:=Y;clear h q0 q2 q3 a4 y Y;go_wp2_with fail;have r1:=i.p1;have r2:=i.b2;have r3:=i.b3;simp only at r2 r3;go_region_held3 (λw'=>w'.cell? (O pb 1)=some (.pointer (some (z c)))/\w'.cell? (O w.heap.size 2)=some (I n)/\w'.cell? (O w.heap.size 3)=some (I m)) ((refine⟨?_, ?_, ?_⟩<;>(first|assumption|(exact Mid.p1 Φ)|(exact Mid.b2 Φ)|(exact Mid.b3 Φ)))) (first|(go_at_call 47;refine ψ (A.o _ s' B.o ?_) ?_;(exact i.drew r.o a9.o);rintro e w4⟨rfl,E⟩)|(go_at_call 48;refine ψ (A.o _ s' B.o ?_) ?_;(exact i.drew r.o a9.o);rintro e w4⟨rfl,E⟩));have a1:J<|_:=a0.o s' w4 u E;have SI:=ω<|W.o _ _ E;have a2:=ω<|H.o s' B.o;clear i E r1 r2 r3 A B a0 W H;by_cases k:u=0
  .subst k;go_wp2_with (first|(go_at_call 24;refine(iL _ _).mono ?_;rintro e w5⟨rfl,rfl⟩));go_ret;exact⟨rfl,_,a2.o,SI.o⟩
  .have a6:=ό.2 k;go_wp2_with (first|(go_at_call 24;refine(iL _ _).mono ?_;rintro e w5⟨rfl,rfl⟩));refine ψ a1.o ?_;rintro e w6⟨rfl,h6⟩;have H6:J<|_:=h6;clear h6 a1 SI;go_wp2_with fail;go_ret;exact⟨rfl,_,a2.o,H6.o⟩
end
section
open Go.Proofs.Tryz Go.RowKit
variable{F G:vS}
structure je where
 pb:Nat
 x:Nat
 S:Nat->Prop
 c:Nat
 R:Nat->Prop
 s:Sl
def je.At(F G:vS)(w:World)(d:je):Prop:=iw F G w d.pb d.x d.S d.c d.R d.s
def je.foot(d:je)(k:Nat):Prop:=d.S k\/d.R k
def lQ(f:bT F)(g:aQ G){w:World}{d:je}(h:d.At F G w){k:Nat}(a:d.foot k){t:TypeId}(b:Tagged w k t):t≠4/\t≠42/\t≠29/\t≠33:=by
 rcases a with a|a
 .exact(f.tags h.f a b).2
 .obtain⟨i,c,e⟩:=g.tags h.r a;rw[rC b e];exact NH c
def BH(a:bT F)(b:aQ G){w:World}{d:je}(h:d.At F G w){k:Nat}(c:d.foot k):k<w.heap.size:=c.elim (a.lt h.f) (b.lt h.r)
def je.At.other(e:bT F)(g:aQ G){w w':World}{d f:je}(h:d.At F G w)(m:f.At F G w)(c:aA f.foot w w')(j:∀k,d.foot k->¬f.foot k):d.At F G w':=by have n:¬f.foot d.pb:=λa=>(lQ e g m a h.tag).2.1 rfl;have l:∀i,w'.cell? (O d.pb i)=w.cell? (O d.pb i):=λi=>η (w:=w) (c.block d.pb h.tag.lt n);exact⟨h.tag.aJ c n,(l 0).trans h.c0,(l 1).trans h.c1,e.stable h.f c (λk a=>j k (τ a)),g.stable h.r c (λk a=>j k (υ a)) (λb o a=>(lQ e g m a o).1 rfl)⟩
def je.At.law(f:bT F)(g:aQ G){M:Nat->Prop}{w w':World}{d:je}(h:d.At F G w)(i:aA M w w')(m:∀k,M k->k<w.heap.size->Tagged w k 29\/Tagged w k 33):d.At F G w':=by
 have u:∀{k:Nat}{t:TypeId},M k->Tagged w k t->t=29\/t=33:=λa e=>(m _ a e.lt).imp (rC e) (rC e);have p:∀{k:Nat}{t:TypeId},Tagged w k t->t≠29->t≠33->¬M k:=λe c q a=>(u a e).elim c q;have o:¬M d.pb:=p h.tag Ψ Ψ;have n:∀j,w'.cell? (O d.pb j)=w.cell? (O d.pb j):=λj=>η (w:=w) (i.block d.pb h.tag.lt o);have l:∀k,d.foot k->¬M k:=λk a s=>by
  rcases m k s (BH f g h a)with c|c
  .exact(lQ f g h a c).2.2.1 rfl
  .exact(lQ f g h a c).2.2.2 rfl
 exact⟨h.tag.aJ i o,(n 0).trans h.c0,(n 1).trans h.c1,f.stable h.f i (λk a=>l k (τ a)),g.stable h.r i (λk a=>l k (υ a)) (λb r=>p r Ψ Ψ)⟩
def Vb(l:List je):List Value:=l.map λd=>.pointer (some (z d.pb))
structure pz(F G:vS)(B:Nat)(w:World)(b:Nat)(rv:Value)(l:List je):Prop where
 glob:Glob w
 b4:4<=B
 bB:B<=b
 blk:aC w b #[rv,.bool true] 29
 row:w.ownsRow B 33 1 rv l.length (Vb l)
 pair:∀j(h:j<l.length),l[j].At F G w
 foot:∀j(h:j<l.length)k,l[j].foot k->B<=k
 apart:∀i j(hi:i<l.length)(hj:j<l.length),i≠j->∀k,l[i].foot k->¬l[j].foot k
def nN(F G:vS)(c B:Nat)(w:World)(b:Nat):Prop:=∃rv l,(l.length<=c/\∀d∈l,Sz c d.s)/\pz F G B w b rv l
def zV(F G:vS)(c n B:Nat)(w:World)(b:Nat):Prop:=∃rv l,l.length=n/\(l.length<=c/\∀d∈l,Sz c d.s)/\pz F G B w b rv l
def zV.j{c n B:Nat}{w:World}{b:Nat}(h:zV F G c n B w b):nN F G c B w b:=by obtain⟨rv,l,_,a,d⟩:=h;exact⟨rv,l,a,d⟩
def szs{c:Nat}{l:List je}(h:l.length<=c/\∀d∈l,Sz c d.s):l.length<=c+1/\∀d∈l,Sz (c+1) d.s:=⟨V,λd a=>(h.2 d a).one⟩
section
variable{B:Nat}{w w':World}{b:Nat}{rv:Value}{l:List je}
def pz.below(c:bT F)(d:aQ G)(h:pz F G B w b rv l)(a:Below w.heap.size w w'):pz F G B w' b rv l :=
 ⟨h.glob.mono a,h.b4,h.bB,h.blk.below a,bG h.row (aA.of_below (M:=λ_=>False) a) (λ_ _ h=>h),λj e=>iw.below c d (h.pair j e) a,h.foot,h.apart⟩
def pz.JC(h:pz F G B w b rv l):∀g,rv.ownBlock=some g->Tagged w g 33:=by
 intro g a;obtain⟨_,d|⟨i,f,c,rfl,_,e,_⟩⟩:=h.row
 .rw[d.1]at a;cases a
 .cases a;exact⟨c,e⟩
def pz.aw0(c:bT F)(d:aQ G)(h:pz F G B w b rv l)(j:Nat)(e:j<l.length):¬l[j].S b/\¬l[j].R b :=
 ⟨λa=>(lQ c d (h.pair j e) (τ a) ⟨_,h.blk⟩).2.2.1 rfl,λa=>(lQ c d (h.pair j e) (υ a) ⟨_,h.blk⟩).2.2.1 rfl⟩
def pz.turn(s:bT F)(t:aQ G)(h:pz F G B w b rv l)(k:Nat)(o:k<l.length)(d:je)(N:d.pb=l[k].pb)(K:d.At F G w')(f:aA l[k].foot w w')(x:∀i,d.foot i->l[k].foot i\/w.heap.size<=i):pz F G B w' b rv (l.set k d)/\Below B w w':=by
 have y:=h.pair k o;have C:=ς h.bB (ϑx h.blk.lt);have H:Below B w w':=⟨f.os,f.tape,f.output,f.size,λi a=>f.block i (ο a C) (λe=>by have:=h.foot k o i e;omega)⟩;have E:¬l[k].foot b:=λD=>(lQ s t y D ⟨_,h.blk⟩).2.2.1 rfl;have u:∀j(m:j<l.length),(l.set k d)[j]'(by simpa using m)=if k=j then d else l[j]:=λj m=>by rw[ϑi]
 refine⟨⟨h.glob.Ed f (λi a=>ς h.b4 (h.foot k o i a)),h.b4,h.bB,h.blk.aJ f E, ?_,λj m=>?_,λj m i a=>?_,λi j a m M n p=>?_⟩,H⟩
 .have e:Vb (l.set k d)=Vb l:=by
   unfold Vb;rw[List.map_set,N];refine List.ext_getElem? λj=>?_;rw[List.getElem?_set];by_cases e:k=j
   .subst e;simp[o]
   .simp[e]
  rw[List.length_set,e];exact bG h.row f (λA L q=>(lQ s t y q (h.JC A L)).2.2.2 rfl)
 .have c:j<l.length:=by simpa using m
  rw[u j c];by_cases e:k=j
  .rw[ώ e];exact K
  .rw[ύ e];exact(h.pair j c).other s t y f (λi a=>h.apart j k c o (Ne.symm e) i a)
 .have c:j<l.length:=by simpa using m
  rw[u j c]at a;by_cases e:k=j
  .rw[ώ e]at a;rcases x i a with g|g
   .exact h.foot k o i g
   .omega
  .rw[ύ e]at a;exact h.foot j c i a
 .have v:i<l.length:=by simpa using a
  have c:j<l.length:=by simpa using m
  rw[u i v]at p;rw[u j c];by_cases e:k=i
  .rw[ώ e]at p;have r:¬k=j:=V
   rw[ύ r];intro q;rcases x n p with g|g
   .exact h.apart k j o c r n g q
   .have:=BH s t (h.pair j c) q;omega
  .rw[ύ e]at p;by_cases r:k=j
   .rw[ώ r];intro q;rcases x n q with g|g
    .exact h.apart i k v o (Ne.symm e) n p g
    .have:=BH s t (h.pair i v) p;omega
   .rw[ύ r];exact h.apart i j v c M n p
def pz.told(t:bT F)(u:aQ G){c:Nat}(h:pz F G B w b rv l)(g:l.length<=c/\∀d∈l,Sz c d.s)(k:Nat)(v:k<l.length){s':Sl}(x:Sz c s')(f:Told F G l[k].S l[k].R w l[k].pb l[k].x l[k].c s' w'):zV F G c l.length B w' b/\Below B w w':=by
 obtain⟨m,j,n,o,p,q⟩:=f;obtain⟨r,s⟩:=h.turn t u k v ⟨l[k].pb,l[k].x,m,l[k].c,j,s'⟩ rfl n q (λi a=>by
  rcases a with a|a
  .exact(o i a).imp (λh=>τ h) (λh=>h)
  .exact(p i a).imp (λh=>υ h) (λh=>h))
 refine⟨⟨_,_,Ω,⟨by simpa using g.1,λd f=>?_⟩,r⟩,s⟩;rcases ϑJ f with e|e
 .exact g.2 d e
 .rw[e];exact x
end
end
section
open Go.Proofs.Tryz Go.RowKit
variable{F G:vS}
def pz.more(A:bT F)(C:aQ G){B N:Nat}{w r:World}{b:Nat}{rv:Value}{l:List je}(h:pz F G B w b rv l)(W:∀j(e:j<l.length)k,l[j].foot k->k<N)(a0:B<=N){x:Nat}{S:Nat->Prop}{c:Nat}{R:Nat->Prop}{s:Sl}(hf:F w x S s)(hr:G w c R s)(hS:∀k,S k->N<=k)(a2:∀k,R k->N<=k){g t:Nat}(Y:r.ownsRow B 33 1 (.slice (some (z g)) (l.length+1) t) (l.length+1) (Vb l++[.pointer (some (z w.heap.size))]))(P:((w.alloc (.cells #[.pointer (some (z x)),.pointer (some (z c))] 42)).alloc (.cells #[.pointer (some (z w.heap.size))] 33)).grownBy r rv.ownBlock):pz F G B (r.setCell (z b) (.slice (some (z g)) (l.length+1) t)) b (.slice (some (z g)) (l.length+1) t) (l++[⟨w.heap.size,x,S,c,R,s⟩])/\Below B w (r.setCell (z b) (.slice (some (z g)) (l.length+1) t)):=by
 obtain⟨wa,K⟩:∃wa,wa=(w.alloc (.cells #[.pointer (some (z x)),.pointer (some (z c))] 42)).alloc (.cells #[.pointer (some (z w.heap.size))] 33):=⟨_,rfl⟩;have o:Below w.heap.size w wa:=by rw[K];exact((φ _ w).alloc (χ _) _).alloc Ω _
 have Q:aC wa w.heap.size #[.pointer (some (z x)),.pointer (some (z c))] 42:=by rw[K];exact(aC.new w _ _).alloc _
 rw[<- K]at P;clear K;have f:=h.below A C o;have a4:je.At F G wa ⟨w.heap.size,x,S,c,R,s⟩ :=
  ⟨⟨_,Q⟩,(Q.cell 0).trans rfl,(Q.cell 1).trans rfl,A.below hf o,C.below hr o⟩
 have i:aA (λk=>rv.ownBlock=some k\/k=b) wa (r.setCell (z b) (.slice (some (z g)) (l.length+1) t)) :=
  aA.setCell (p:=(z b)) ((aA.refl (λk=>rv.ownBlock=some k\/k=b) wa).grown P (λk d=>τ (τ d))) (υ rfl) _
 have T:∀k,(rv.ownBlock=some k\/k=b)->k<wa.heap.size->Tagged wa k 29\/Tagged wa k 33:=by
  rintro k (d|rfl) _
  .exact υ (f.JC k d)
  .exact τ ⟨_,f.blk⟩
 have U:∀k,(rv.ownBlock=some k\/k=b)->B<=k:=by
  rintro k (d|rfl)
  .exact(f.row.lt k d).1
  .exact h.bB
 have a3:rv.ownBlock≠some b:=λm=>Tagged.ne (f.JC b m) ⟨_,f.blk⟩ Ψ rfl;have M:aC r b #[rv,.bool true] 29:=(P.block b f.blk.lt (Ne.symm a3)).trans f.blk;have a5:g≠b:=λm=>by
  subst m;obtain⟨_,⟨h1,_⟩|⟨g',cp,a7,Z,_,hh,_⟩⟩:=Y
  .cases h1
  .simp only[ϑa,ϑb,ϑz,ϑM,ϑN]at Z;obtain⟨rfl,rfl⟩:=Z;exact absurd (zO M hh).2 Ψ
 have E:(l++[(⟨w.heap.size,x,S,c,R,s⟩:je)]).length=l.length+1:=Ω
 have u:∀j(e:j<l.length),(l++[(⟨w.heap.size,x,S,c,R,s⟩:je)])[j]'(by rw[E];omega)=l[j]:=λj e=>ϑk e;have D:∀j(e:j<(l++[(⟨w.heap.size,x,S,c,R,s⟩:je)]).length),¬j<l.length->(l++[(⟨w.heap.size,x,S,c,R,s⟩:je)])[j]=⟨w.heap.size,x,S,c,R,s⟩:=λj e hn=>by
  rw[ϑu V];have:j-l.length=0:=by rw[E]at e;omega
  simp[this]
 have L:∀k,je.foot ⟨w.heap.size,x,S,c,R,s⟩ k->N<=k:=by
  rintro k (d|d)
  .exact hS k d
  .exact a2 k d
 refine⟨⟨(h.glob.mono o).Ed i (λk d=>ς h.b4 (U k d)),h.b4,h.bB, ?_, ?_,λj e=>?_,λj e k d=>?_,λy j X e a6 k d=>?_⟩, ?_⟩
 .unfold aC at M⊢;simp[World.setCell,μ,M]
 .rw[E];have m:Vb (l++[(⟨w.heap.size,x,S,c,R,s⟩:je)])=Vb l++[.pointer (some (z w.heap.size))]:=by simp[Vb]
  rw[m];exact ownsRow_setCell_other Y (a:=(z b)) (λm=>a5 (by simpa[Value.ownBlock]using m)) _
 .by_cases n:j<l.length
  .rw[u j n];exact(f.pair j n).law A C i T
  .rw[D j e n];exact a4.law A C i T
 .by_cases n:j<l.length
  .rw[u j n]at d;exact h.foot j n k d
  .rw[D j e n]at d;exact ς a0 (L k d)
 .by_cases H:y<l.length
  .rw[u y H]at d;by_cases q:j<l.length
   .rw[u j q];exact h.apart y j H q a6 k d
   .rw[D j e q];intro v;have:=L k v;have:=W y H k d;omega
  .rw[D y X H]at d;by_cases q:j<l.length
   .rw[u j q];intro v;have:=L k d;have:=W j q k v;omega
   .rw[E]at X e;omega
 .have a1:=ς h.bB (ϑx h.blk.lt);exact(o.mono a1).trans ⟨i.os,i.tape,i.output,i.size,λk d=>i.block k (by have:=o.size;omega) (λv=>by have:=U k v;omega)⟩
end
section
open Go.Proofs.Tryz Go.RowKit
variable{F G:vS}
def Tryz.infoPP:(prog.info? 33).map (λi=>(i.zero,i.size,i.bytes))=some (some (.pointer none),1,8):=by kernel_rfl
def YE(hF:kF F)(Q:EF G)(A:bT F)(C:aQ G)(c B:Nat)(w:World)(b:Nat)(o:dM)(ho:o.ok)(ab:c<1048576)(hJ:nN F G c B w b):Calls prog 16 #[.pointer (some (z b)),o.val] w λe w'=>e=.returned (.bool true)/\nN F G (c+1) B w' b/\Below B w w':=by
 obtain⟨rv,l,D,a⟩:=hJ;have ac:=D.1;have Hl:J<|_:=szs D;have M:=ω A;have HQ:=ω C;have a0:J<|∀(r v:Nat)(w:World),1<=r->r<=6->v<=50->_:=Q.good;obtain⟨iR,VU,CB,CJ,CO⟩:=info_parts Tryz.infoPP;obtain⟨k,N,n,m,s⟩:=o;unfold dM.val;simp only at *;have p:Below w.heap.size w (w.alloc (.cells #[I k,I N,I n,I m,.string s] 32)):=(φ _ w).alloc (χ _) _;have H:aC (w.alloc (.cells #[I k,I N,I n,I m,.string s] 32)) w.heap.size #[I k,I N,I n,I m,.string s] 32:=aC.new w _ _;have HN:J<|∀af(q:af<l.length)X,l[af].foot X->X<w.heap.size:=λaf q X hi=>BH A C (a.pair af q) hi;have E:=ς a.bB (ϑx a.blk.lt);by_cases U:n<1\/6<n\/m<0\/50<m
 .have y:J<|_:=hF.bad _ n m (a.glob.mono p) U;have HJ:J<|∀w',Below w.heap.size w w'->nN F G (c+1) B w' b/\Below B w w':=λw' hb=>⟨⟨rv,l,szs D,a.below A C hb⟩,hb.mono E⟩;have f:J<|_:=p;have ae:=ω H;clear a ho p H HN hF Q A C a0 D Hl;go_enter func16,ntmps16;go_wp2_with fail;refine ψ y.o ?_;rintro e i⟨rfl,ad⟩;have q2:i.cell? (O w.heap.size 2)=some (I n):=((ae.o.below ad).cell 2).trans rfl;have q3:i.cell? (O w.heap.size 3)=some (I m):=((ae.o.below ad).cell 3).trans rfl;have j:=ω<|f.o.trans (ad.mono f.o.size)
  clear ad y f ae;go_wp2_with fail;refine ψ (Sj n m i U) ?_;rintro e w3⟨rfl,rfl⟩;go_wp2_with (first|(go_at_call 24;refine(iL _ _).mono ?_;rintro e Y⟨rfl,rfl⟩));go_ret;exact⟨rfl,HJ.o _ j.o⟩
 .obtain⟨r,rfl⟩:=Int.eq_ofNat_of_zero_le (V:0<=n);obtain⟨v,rfl⟩:=Int.eq_ofNat_of_zero_le (V:0<=m);have h1:1<=r:=V
  have h6:r<=6:=V
  have a1:v<=50:=V
  have y:J<|_:=hF.good _ r v (a.glob.mono p) h1 h6 a1;have f:J<|_:=p;have ae:=ω H;have HI:=ω a;have m1:J<|l.length+1<=maxLen:=by unfold J maxLen;omega
  have m2:J<|(l.length+1)*8<=140737488355328:=ω V
  clear a ho p H U hF Q A C D;go_enter func16,ntmps16;go_wp2_with fail;refine ψ y.o ?_;rintro e i⟨x,S,rfl,hf,hS,ad⟩;have q2:i.cell? (O w.heap.size 2)=some (I r):=((ae.o.below ad).cell 2).trans rfl;have q3:i.cell? (O w.heap.size 3)=some (I v):=((ae.o.below ad).cell 3).trans rfl;have j:=ω<|f.o.trans (ad.mono f.o.size)
  have Z:=ω hf;have a6:=ω<|λk W=>ς f.o.size (hS k W)
  clear ad y f ae hf hS;go_wp2_with fail;refine ψ (a0.o r v i h1 h6 a1) ?_;rintro e w3⟨cb,R,rfl,hr,a2,T⟩;have K:=ω<|j.o.trans (T.mono j.o.size)
  have a4:=ω<|M.o.below Z.o T
  have a5:J<|_:=hr;have a7:=ω<|λk W=>ς j.o.size (a2 k W)
  have g:=ω<|HI.o.below M.o HQ.o K.o
  have aa:=g.o.blk.lt;have p0:w3.cell? (z b)=some rv:=(g.o.blk.cell 0).trans rfl;have a9:=ς E K.o.size;have L:=ω<|λo o'=>(g.o.blk.alloc o).alloc o'
  have a3:J<|rv.ownBlock≠some b:=λe=>Tagged.ne (g.o.JC b e) ⟨_,g.o.blk⟩ Ψ rfl;clear j Z hr T a2 q2 q3 HI;go_wp2_with (first|(go_at_call 24;refine(iL _ _).mono ?_;rintro e Y⟨rfl,rfl⟩)|(at_builtin;refine wpList_append_own _ rfl (.tmp 41) (.tmp 46) 27 rfl B 33 iR (.pointer none) 1 8 underlying27 VU CB CJ CO rfl Ψ rv l.length (Vb l) rfl ((g.o.row.alloc _).alloc _) (z (Y.heap.size+1)) 1 1 [.pointer (some (z Y.heap.size))] rfl rfl ?_ ?_ m1.o m2.o ?_ ?_;(intro af u q;match af,q with|0,q=>(cases q;simp[Addr.add]));(intro u hu;simp at hu;subst hu;rfl);(simp;omega);intro v6 w6 kL P _;obtain⟨g6,c6,rfl⟩:=dK kL (Nat.succ_pos _);have k1:w6.cell? (z b)=some rv:=P.cell (((L.o _ _).cell 0).trans rfl) (Ne.symm a3.o);have kf:=aC.frozen (cs:=#[rv,.bool true]) (t:=29) ((P.block _ (L.o _ _).lt (Ne.symm a3.o)).trans (L.o _ _)) 0));go_ret;obtain⟨hL,a8⟩:=g.o.more M.o HQ.o HN.o E a4.o a5.o a6.o a7.o kL P;exact⟨rfl,⟨_,_,⟨Θ,λd hd=>(θ.1 hd).elim (Hl.o.2 d) (λh=>by rw[ϑe.1 h];exact⟨Nat.zero_le _,Nat.zero_le _,λ_=>⟨Nat.zero_le _,Nat.zero_le _⟩⟩)⟩,hL⟩,(K.o.mono E).trans a8⟩
end
section
open Go.Proofs.Tryz Go.RowKit
variable{F G:vS}
def EG(hF:kF F)(A:kQ G)(l:bT F)(m:aQ G)(w:World)(K:Glob w)(pb x:Nat)(S:Nat->Prop)(c:Nat)(R:Nat->Prop)(s:Sl)(j:iw F G w pb x S c R s)(H:(∀k,S k->4<=k)/\(∀k,R k->4<=k))(o:dM)(ho:o.ok)(hk:o.kind=9):Calls prog 8 #[.pointer (some (z pb)),o.val] w λf w'=>f=.returned (.bool true)/\Told F G S R w pb x c s w':=by
 have t:=ω l;have a6:=ω m;have T:=ω A;unfold dM.val;obtain⟨a,r⟩:∃a,a=w.alloc (qQ o):=⟨_,rfl⟩;have g:J<|∀B,Mid F G S R a w.heap.size o pb x c s s (a.drewN B):=λB=>by rw[r];exact(Mid.start l m K j H o).drewN l m B
 have D:J<|∀wx,Mid F G S R a w.heap.size o pb x c s s wx->Calls prog 26 #[.pointer (some (z x)),I o.n] wx λf w'=>f=.returned (.tuple #[I (rG s o.n).1,I (rG s o.n).2])/\Mid F G S R a w.heap.size o pb x c s s w':=λwx e=>e.ps l m λW p=>hF.waits wx x W s o.n e.m.glob p;have C:J<|∀wx,Mid F G S R a w.heap.size o pb x c s s wx->Calls prog 22 #[.pointer (some (z c)),I o.n] wx _:=λwx e=>e.rUp A o.n;have L:J<|∀wx,Mid F G S R a w.heap.size o pb x c s s wx->Told F G S R w pb x c s wx:=λwx e=>by rw[r]at e;exact e.fin
 have U:=ω r.symm;have y0:a.cell? (z w.heap.size)=some (I o.kind):=(g.o 0).b0;have y1:a.cell? (O pb 1)=some (.pointer (some (z c))):=(g.o 0).p1;have y2:a.cell? (O w.heap.size 2)=some (I o.n):=(g.o 0).b2;obtain⟨k,E,n,N,Q⟩:=o;simp only at *;subst hk;clear hF A l m K j ho r H;go_enter func8,ntmps8;go_wp2_with fail;rw[U.o]
 go_quiet (first|(go_at_call 22;exact ψ (C.o _ (g.o _)) (λ_ _ j=>⟨j.1,_,j.2⟩)))
 go_wp2_with fail;have q:=g.o nq;clear g C y0 y1 y2;generalize a.drewN nq=w2 at *;have q0:=q.p0;have P:=q.b2;simp only at P;go_region_held3 (λw'=>Mid F G S R a w.heap.size ⟨9,E,n,N,Q⟩ pb x c s s w'/\w'.cell? (z pb)=some (.pointer (some (z x)))/\w'.cell? (O w.heap.size 2)=some (I n)) ((refine⟨?_, ?_, ?_⟩<;>(first|assumption|(exact Mid.drew t.o a6.o Φ)|(exact Mid.p0 Φ)|(exact Mid.b2 Φ)))) (first|(go_at_call 26;refine ψ (D.o _ ?_) ?_;(exact q.drew t.o a6.o);rintro f w3⟨rfl,b⟩));clear q q0 P D;by_cases d:iQ s n=0
 .obtain⟨i,rfl,Z⟩:=ED d;have y:=d;have h:rG s (i:Int)=(((s.rs i).kept.length:Int),0):=by unfold rG;rw[ώ d];(first|done|rfl)
  rw[y,h];obtain⟨R1,p,Y⟩:=b.m.g;obtain⟨h6,rb,a0,f1,a1,M⟩:=T.o.cells _ _ _ _ p;obtain⟨ao,kc,k0,a4⟩:=(M i Z).2;have r1:=b.p1;have r2:=b.b2;simp only at r2;have v:=ω b;clear p Y b y h d M;generalize (s.rs i).kept.length=a5 at *;have a2:(0:Int)<=(i:Int):=V
  have a3:(i:Int)<(s.kn.length:Int):=V
  go_wp2_with fail
  go_quiet (fail)
  have X:J<|Mid F G S R a w.heap.size ⟨9,E,(i:Int),N,Q⟩ pb x c s s (w3.drewN nq):=v.o.drewN t.o a6.o _;go_wp2_with (first|(go_at_call 24;refine(iL _ _).mono ?_;rintro f w5⟨rfl,rfl⟩));go_ret;exact⟨rfl,L.o _ X.o⟩
 .have h:rG s n=(0,iQ s n):=ύ d;rw[h];have y:=ό.2 d;generalize iQ s n=u at *;have v:=ω b;clear b h d;go_wp2_with (first|(go_at_call 24;refine(iL _ _).mono ?_;rintro f w5⟨rfl,rfl⟩));all_goals(go_ret;exact⟨rfl,L.o _ v.o⟩)
