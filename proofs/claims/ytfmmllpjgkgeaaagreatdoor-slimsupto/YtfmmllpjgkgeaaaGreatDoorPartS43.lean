import Derived.Test.YtfmmllpjgkgeaaaGreatDoorPartS04
import Derived.Test.YtfmmllpjgkgeaaaGreatDoorPartS36
set_option linter.unusedVariables false
set_option linter.unusedSimpArgs false
set_option maxHeartbeats 16000000
set_option maxRecDepth 100000
namespace Go.Proofs.YtfmmllpjgkgeaaaGreatDoor
section
open Go.Proofs.Tryz Go.RowKit
structure StepD where
 kind:Int
 a:Int
 n:Int
 m:Int
 s:ByteArray
def StepD.ok(o:StepD):Prop:=(-9223372036854775808<=o.kind/\o.kind<=9223372036854775807)/\(-9223372036854775808<=o.a/\o.a<=9223372036854775807)/\(-9223372036854775808<=o.n/\o.n<=9223372036854775807)/\(-9223372036854775808<=o.m/\o.m<=9223372036854775807)/\o.s.size<=1048576
def StepD.val(o:StepD):Value:=.agg #[.int .i64 o.kind,.int .i64 o.a,.int .i64 o.n,.int .i64 o.m,.string o.s]
structure jO(w:World)(b off:Nat)(l:List StepD):Prop where
 lt:b<w.heap.size
 k:∀j(h:j<l.length),w.cell? (O b (off+j*5))=some (.int .i64 l[j].kind)
 a:∀j(h:j<l.length),w.cell? (O b (off+j*5+1))=some (.int .i64 l[j].a)
 n:∀j(h:j<l.length),w.cell? (O b (off+j*5+2))=some (.int .i64 l[j].n)
 m:∀j(h:j<l.length),w.cell? (O b (off+j*5+3))=some (.int .i64 l[j].m)
 s:∀j(h:j<l.length),w.cell? (O b (off+j*5+4))=some (.string l[j].s)
theorem jO.below{w w':World}{b d:Nat}{l:List StepD}(h:jO w b d l)(c:Below w.heap.size w w'):jO w' b d l :=
 ⟨ο h.lt c.size,λj a=>(c.cell (p:=(O b _)) h.lt).trans (h.k j a),λj a=>(c.cell (p:=(O b _)) h.lt).trans (h.a j a),λj a=>(c.cell (p:=(O b _)) h.lt).trans (h.n j a),λj a=>(c.cell (p:=(O b _)) h.lt).trans (h.m j a),λj a=>(c.cell (p:=(O b _)) h.lt).trans (h.s j a)⟩
structure yF(last:Int)(I:Nat->Nat->World->Nat->Prop):Prop where
 heads:∀w,Glob w->Calls prog 38 #[.bool (decide (5<=last))] w λe w'=>e=.returned (.bool true)/\Below w.heap.size w w'
 start:∀w,Glob w->I 0 w.heap.size (w.alloc (.cells #[.slice none 0 0,.bool (decide (7<last))] 63)) w.heap.size
 step:∀c B w b(o:StepD),o.ok->o.kind<=last->c<1099511627776->I c B w b->Calls prog 39 #[.pointer (some (z b)),o.val] w λe w'=>e=.returned (.bool true)/\I (c+1) B w' b/\Below B w w'
theorem Oi(last:Int)(f:Nat->Nat->World->Nat->Prop)(x:yF last f)(w:World)(t:Glob w)(b n s:Nat)(l:List StepD)(y:jO w b n l)(U:l.length<=s)(a0:l.length<=1099511627776)(C:∀o∈l,o.ok):Calls prog 15 #[.slice (some (O b n)) l.length s,.int .i64 last] w λm w'=>m=.returned (.int .i64 (-1))/\Below w.heap.size w w':=by
 have k:J<|yF last f:=x;have p:J<|Glob w:=t;have G:J<|jO w b n l:=y;have K:J<|∀o∈l,o.ok:=C;clear x t y C;go_enter func15,ntmps15;go_wp2_with fail;refine ψ (k.o.heads w p.o) ?_;rintro m a⟨rfl,h⟩;have L:J<|Below w.heap.size w a:=h;have g1:J<|Glob a:=p.o.mono h;have Q:J<|_:=k.o.start a g1.o;have M:J<|∀o,Below w.heap.size w (a.alloc o):=λo=>h.alloc h.size o;clear h;go_wp2_with fail;go_loopg [5,7] l.length (λN R S wx=>∃i:Nat,i+N=l.length/\R=.bool true/\S=.int .i64 i/\(∃c,c<=i/\f c a.heap.size wx a.heap.size)/\Below w.heap.size w wx);case atStart=>exact⟨0,V,rfl,rfl,⟨0,χ _,Q.o⟩,M.o _⟩
 case round =>
  obtain⟨i,X,rfl,rfl,⟨g,W,u⟩,A⟩:=hrel;have q:J<|f g a.heap.size wr a.heap.size:=u;have j:J<|Below w.heap.size w wr:=A;clear u A;by_cases e:i<l.length
  .have d:=G.o.below j.o;have Y:=d.k i e;have T:=d.a i e;have hn:=d.n i e;have hm:=d.m i e;have hs:=d.s i e;clear d;have H:J<|l[i].ok:=K.o _ (κ e);generalize l[i]=o at *;by_cases Z:last<o.kind
   .go_wp2;go_roundg (l.length-(i+1));case measure=>omega
    case rel=>exact⟨i+1,V,rfl,rfl,⟨g,V,q.o⟩,j.o⟩
   .have P:o.kind<=last:=V
    have r:J<|_:=k.o.step g a.heap.size wr a.heap.size o H.o P V q.o;go_wp2_with fail;refine ψ r.o ?_;rintro m D⟨rfl,v,B⟩;have F:J<|f (g+1) a.heap.size D a.heap.size:=v;have E:J<|Below w.heap.size w D:=j.o.trans (B.mono L.o.size);clear v B r;go_wp2;go_roundg (l.length-(i+1));case measure=>omega
    case rel=>exact⟨i+1,V,rfl,rfl,⟨g+1,V,F.o⟩,E.o⟩
  .go_wp2;go_ret;exact⟨rfl,j.o⟩
theorem Oj(b:Int)(c:Nat->Nat->World->Nat->Prop)(f:yF b c)(w:World)(d:Glob w)(k:Option Addr)(m:Nat):Calls prog 15 #[.slice k 0 m,.int .i64 b] w λe w'=>e=.returned (.int .i64 (-1))/\Below w.heap.size w w':=by
 have j:J<|yF b c:=f;have i:J<|Glob w:=d;clear f d;go_enter func15,ntmps15;go_wp2_with fail;refine ψ (j.o.heads w i.o) ?_;rintro e p⟨rfl,a⟩;have l:J<|∀o,Below w.heap.size w (p.alloc o):=λo=>a.alloc a.size o;clear a;go_wp2_with fail;go_loopg [5,7] 0 (λq r n wx=>n=.int .i64 0/\Below w.heap.size w wx);case atStart=>exact⟨rfl,l.o _⟩
 case round =>obtain⟨rfl,g⟩:=hrel;have h:J<|Below w.heap.size w wr:=g;clear g;go_wp2;go_ret;exact⟨rfl,h.o⟩
def Ac(w:World)(v:Value)(l:List StepD):Prop :=
 (∃ad cap,v=.slice ad 0 cap/\l=[])\/∃b off cap,v=.slice (some (O b off)) l.length cap/\l.length<=cap/\jO w b off l
theorem Ol(d:Nat->Nat->World->Nat->Prop)(g:yF 10 d)(w:World)(i:Glob w)(v:Value)(l:List StepD)(a:Ac w v l)(n:l.length<=1099511627776)(j:∀o∈l,o.ok):Calls prog 5 #[v] w λf w'=>f=.returned (.bool true)/\Below w.heap.size w w':=by
 rcases a with⟨k,e,rfl,rfl⟩|⟨b,p,e,rfl,m,a⟩
 .have c:J<|_:=Oj 10 d g w i k e;go_enter func5,ntmps5;go_wp2_with fail;refine ψ c.o ?_;rintro f q⟨rfl,h⟩;go_wp2;go_ret;exact⟨rfl,h⟩
 .have c:J<|_:=Oi 10 d g w i b p e l a m n j;clear g a j;go_enter func5,ntmps5;go_wp2_with fail;refine ψ c.o ?_;rintro f q⟨rfl,h⟩;go_wp2;go_ret;exact⟨rfl,h⟩
structure RefOK(G:Stl):Prop where
 up:∀w c R s i,G w c R s->Calls prog 109 #[.pointer (some (z c)),.int .i64 i] w λe w'=>e=.returned (.int .i64 (upR s.kn i))/\w'=w
 does:∀w c R s i t r s',G w c R s->t.size<=1048576->DoL s i (toL t) r s' ->
  Calls prog 116 #[.pointer (some (z c)),.int .i64 i,.string t] w λe w'=>e=.returned (.int .i64 r)/\∃R',G w' c R' s'/\(∀k,R' k->R k\/w.heap.size<=k)/\Chg R w w'
 asks:∀w c R s i t,G w c R s->t.size<=1048576 ->
  Calls prog 110 #[.pointer (some (z c)),.int .i64 i,.string t] w λe w'=>∃u,e=.returned (.tuple #[.string u,.int .i64 (askR s.es s.kn i (toL t)).2])/\toL u=(askR s.es s.kn i (toL t)).1/\Below w.heap.size w w'
 cells:∀w c R s,G w c R s->s.kn.length<=6/\∃rb cap,w.cell? (O c 1)=some (.slice (some (z rb)) s.kn.length cap)/\s.kn.length<=cap/\∀i(h:i<s.kn.length),(∃kv,w.cell? (O rb (i*13))=some kv/\SliceT 4 w kv (bools s.kn[i])/\s.kn[i].length<=1048576)/\(∃ao kc,w.cell? (O rb (i*13+10))=some (.slice ao (s.rs i).kept.length kc)/\(s.rs i).kept.length<=50)
 sends:∀w c R s i j s',G w c R s->SendL s i j s' ->
  Calls prog 113 #[.pointer (some (z c)),.int .i64 i,.int .i64 j] w λe w'=>e=.returned (.tuple #[.int .i64 (sendR s.1 i j).1,.int .i64 (sendR s.1 i j).2])/\∃R',G w' c R' s'/\(∀k,R' k->R k\/w.heap.size<=k)/\Chg R w w'
 dels:∀w c R s f s',G w c R s->DelL s f s' ->
  Calls prog 114 #[.pointer (some (z c)),.int .i64 f] w λe w'=>e=.returned (.tuple #[.int .i64 (delR s.1 f).1,.int .i64 (delR s.1 f).2])/\∃R',G w' c R' s'/\(∀k,R' k->R k\/w.heap.size<=k)/\Chg R w w'
 bound:∀w c R s f,G w c R s->Calls prog 112 #[.pointer (some (z c)),.int .i64 f] w λe w'=>∃n:Nat,e=.returned (.int .i64 n)/\n<=1000000/\(frNo s.1 f=none->n=0)/\(∀x,s.ls[f.toNat-1]?=some x->frNo s.1 f≠none->n=x.most/\n≠0)/\w'=w
 ticks:∀w c R s i,G w c R s ->
  Calls prog 117 #[.pointer (some (z c)),.int .i64 i] w λe w'=>e=.returned (.int .i64 (upR s.kn i))/\∃R',G w' c R' (tickTo s i)/\(∀k,R' k->R k\/w.heap.size<=k)/\Chg R w w'
 spoils:∀w c R s f b,G w c R s->(frameR s.1 f).1.size<=1000000000 ->
  Calls prog 115 #[.pointer (some (z c)),.int .i64 f,.int .i64 b,.int .i64 ((frameR s.1 f).1.size)] w λe w'=>e=.returned (.int .i64 (spoilR s.1 f b))/\Below w.heap.size w w'
def hE1:Ev:=⟨⟨#[115,120]⟩,43,⟨#[97]⟩,0,[]⟩
def hE2:Ev:=⟨⟨#[115,120]⟩,43,⟨#[98]⟩,0,[true]⟩
def Om:Ev:=⟨⟨#[115,120]⟩,45,⟨#[97]⟩,0,[true,true]⟩
theorem hd1:DoOut [] (List.replicate 2 []) 0 (toL ⟨#[115,120,43,97]⟩) 0 [hE1] [[true],[]] :=
 DoOut.done (es:=[]) (knowns:=List.replicate 2 []) (i:=0) ⟨[115,120],43,[97],0⟩ hE1 Ψ (by kernel_rfl) Ψ rfl rfl rfl rfl rfl
theorem hd2:DoOut [hE1] [[true],[]] 0 (toL ⟨#[115,120,43,98]⟩) 0 [hE1,hE2] [[true,true],[]] :=
 DoOut.done (es:=[hE1]) (knowns:=[[true],[]]) (i:=0) ⟨[115,120],43,[98],0⟩ hE2 Ψ (by kernel_rfl) Ψ rfl rfl rfl rfl rfl
theorem hd3:DoOut [hE1,hE2] [[true,true],[]] 0 (toL ⟨#[115,120,45,97]⟩) 0 [hE1,hE2,Om] [[true,true,true],[]] :=
 DoOut.done (es:=[hE1,hE2]) (knowns:=[[true,true],[]]) (i:=0) ⟨[115,120],45,[97],0⟩ Om Ψ (by kernel_rfl) Ψ rfl rfl rfl rfl rfl
theorem hask:askR [hE1,hE2,Om] [[true,true,true],[]] 0 (toL ⟨#[115,120]⟩)=([98],0):=by decide +kernel
theorem XR:askR [hE1,hE2,Om] [[true,true,true],[true,true,true]] 1 (toL ⟨#[115,120]⟩)=([98],0):=by decide +kernel
theorem hkn:knowsR [[true,true,true],[]] 0=(3,0):=by decide +kernel
theorem hsend:sendR ⟨[hE1,hE2,Om],[[true,true,true],[]],[]⟩ 0 1=(1,0):=by decide +kernel
structure pY(F:Stl)(w:World)(x:Nat)(s:St)(wx:World):Prop where
 f:∃S s',F wx x S s'/\s'.1=s/\∀k,S k->w.heap.size<=k
 bel:Below w.heap.size w wx
 glob:Glob wx
theorem pY.next{F:Stl}{w wx wy:World}{x:Nat}{s:St}{a:Sl}{S S':Nat->Prop}(h:pY F w x s wx)(b:∀k,S k->w.heap.size<=k)(e:Glob w)(g:F wy x S' a)(j:∀k,S' k->S k\/wx.heap.size<=k)(f:Chg S wx wy):pY F w x a.1 wy :=
 have c:Below w.heap.size w wy:=h.bel.trans (oq f b h.bel.size)
 ⟨⟨S',a,g,rfl,λk i=>(j k i).elim (b k) (λd=>ς h.bel.size d)⟩,c,e.mono c⟩
theorem JX{F:Stl}(hF:ProgL F)(w:World)(d:Glob w):Calls prog 38 #[.bool true] w λe w'=>e=.returned (.bool true)/\Below w.heap.size w w':=by
 have A:J<|Calls prog 40 #[.int .i64 2,.int .i64 10] w λe w'=>∃x,e=.returned (.tuple #[.pointer (some (z x)),.int .i64 0])/\pY F w x ⟨[],List.replicate 2 [],[]⟩ w':=by refine ψ (hF.good w 2 10 d Ψ Ψ Ψ) ?_;rintro e U⟨x,X,rfl,f1,s1,T⟩;exact⟨x,rfl,⟨X,_,f1,rfl,s1⟩,T,d.mono T⟩
 have i:J<|∀x s wx t r k m,pY F w x s wx->t.size<=1048576->DoOut s.es s.kn 0 (toL t) r k m->Calls prog 23 #[.pointer (some (z x)),.int .i64 0,.string t] wx λe w'=>e=.returned (.int .i64 r)/\pY F w x ⟨k,m,s.fs⟩ w':=λx s wx t r k m h p hd=>by obtain⟨S,a,f1,rfl,s1⟩:=h.f;refine ψ (hF.does wx x S a 0 t r ⟨⟨k,m,a.fs⟩,a.room,if r=0 then updN a.rs (0:Int).toNat ((a.rs (0:Int).toNat).write a.room)else a.rs,a.ls⟩ h.glob f1 p ⟨hd,rfl,rfl,rfl,rfl⟩) ?_;rintro e f⟨rfl,j,f2,s2,c⟩;exact⟨rfl,h.next s1 d f2 s2 c⟩
 have n:J<|∀x s wx l t u,pY F w x s wx->t.size<=1048576->askR s.es s.kn l (toL t)=(toL u,0)->Calls prog 24 #[.pointer (some (z x)),.int .i64 l,.string t] wx λe w'=>e=.returned (.tuple #[.string u,.int .i64 0])/\pY F w x s w':=λx s wx l t u h p ha=>by obtain⟨S,a,f1,rfl,s1⟩:=h.f;refine ψ (hF.asks wx x S a l t h.glob f1 p) ?_;rw[ha];rintro e f⟨u',rfl,hu,j,f2,s2,c⟩;have:u'=u:=ji hu;subst this;exact⟨rfl,h.next s1 d f2 s2 c⟩
 have v:J<|∀x s wx,pY F w x s wx->knowsR s.kn 0=(3,0)->Calls prog 22 #[.pointer (some (z x)),.int .i64 0] wx λe w'=>e=.returned (.tuple #[.int .i64 3,.int .i64 0])/\pY F w x s w':=λx s wx h hk=>by obtain⟨S,a,f1,rfl,s1⟩:=h.f;refine ψ (hF.knows wx x S a 0 h.glob f1) ?_;rw[hk];rintro e f⟨rfl,j,f2,s2,c⟩;exact⟨rfl,h.next s1 d f2 s2 c⟩
 have B:J<|∀x wx,pY F w x ⟨[hE1,hE2,Om],[[true,true,true],[]],[]⟩ wx->Calls prog 27 #[.pointer (some (z x)),.int .i64 0,.int .i64 1] wx λe w'=>e=.returned (.tuple #[.int .i64 1,.int .i64 0])/\∃b,pY F w x ⟨[hE1,hE2,Om],[[true,true,true],[]],[⟨0,1,0,[true,true,true],b⟩]⟩ w':=λx wx h=>by
  obtain⟨S,a,f1,g,s1⟩:=h.f;refine ψ (hF.sends wx x S a 0 1 h.glob f1) ?_;rw[g,hsend];rintro e f⟨rfl,j,q,⟨⟨t1,t2,t3⟩,_⟩,f2,s2,c⟩;rw[g]at t1 t2 t3;rw[hsend,ώ rfl]at t3;obtain⟨b,R⟩:=t3;have o:=h.next s1 d f2 s2 c
  generalize q.toSt=u at *;obtain⟨Y,Z,C⟩:=u;simp only at t1 t2 R;subst t1 t2 R;exact⟨rfl,b,o⟩
 have y:J<|∀x wx b,pY F w x ⟨[hE1,hE2,Om],[[true,true,true],[]],[⟨0,1,0,[true,true,true],b⟩]⟩ wx->Calls prog 31 #[.pointer (some (z x)),.int .i64 1] wx λe w'=>e=.returned (.tuple #[.int .i64 2,.int .i64 0])/\∃D,pY F w x ⟨[hE1,hE2,Om],[[true,true,true],[true,true,true]],D⟩ w':=λx wx b h=>by
  obtain⟨S,a,f1,g,s1⟩:=h.f;refine ψ (hF.dels wx x S a 1 h.glob f1) ?_;have e1:delR ⟨[hE1,hE2,Om],[[true,true,true],[]],[⟨0,1,0,[true,true,true],b⟩]⟩ 1=(2,0):=rfl;have e2:frNo ⟨[hE1,hE2,Om],[[true,true,true],[]],[⟨0,1,0,[true,true,true],b⟩]⟩ 1=some ⟨0,1,0,[true,true,true],b⟩:=rfl;rw[g,e1];rintro e f⟨rfl,j,q,⟨⟨t1,t2⟩,_⟩,f2,s2,c⟩;rw[g]at t1 t2;rw[e2]at t2;have o:=h.next s1 d f2 s2 c
  generalize q.toSt=u at *;obtain⟨Y,Z,C⟩:=u;simp only at t1 t2;rw[ύ Ω]at t2;obtain⟨t2,b',t3⟩:=t2;have e3:([[true,true,true],[]]:List (List Bool)).set 1 (delK (([[true,true,true],[]]:List (List Bool)).getD 1 []) [true,true,true])=[[true,true,true],[true,true,true]]:=by decide +kernel
  rw[e3]at t2;subst t1 t2;exact⟨rfl,C,o⟩
 clear hF d;go_enter func38,ntmps38;go_wp2_with fail;refine ψ A.o ?_;rintro e U⟨x,rfl,E⟩;go_wp2_with fail;refine ψ (i.o x _ U _ _ _ _ E Ψ hd1) ?_;rintro e f⟨rfl,G⟩;clear E;go_wp2_with fail;refine ψ (i.o x _ f _ _ _ _ G Ψ hd2) ?_;rintro e w3⟨rfl,H⟩;clear G;go_wp2_with fail;refine ψ (i.o x _ w3 _ _ _ _ H Ψ hd3) ?_;rintro e w4⟨rfl,K⟩;clear H;go_wp2_with fail;refine ψ (n.o x _ w4 0 _ ⟨#[98]⟩ K Ψ hask) ?_;rintro e w5⟨rfl,L⟩;clear K;go_wp2_with fail;refine ψ (v.o x _ w5 L hkn) ?_;rintro e w6⟨rfl,M⟩;clear L;go_wp2_with fail;refine ψ (B.o x w6 M) ?_;rintro e w7⟨rfl,b,N⟩;clear M;go_wp2_with fail;refine ψ (y.o x w7 b N) ?_;rintro e w8⟨rfl,D,P⟩;clear N;go_wp2_with fail;refine ψ (n.o x _ w8 1 _ ⟨#[98]⟩ P Ψ XR) ?_;rintro e w9⟨rfl,Q⟩;have W:J<|Below w.heap.size w w9:=Q.bel;clear P Q A i n v B y;go_wp2;go_ret;exact⟨rfl,W.o⟩
structure RefFrame(G:Stl):Prop where
 stable:∀{M:Nat->Prop}{w w':World}{c:Nat}{R:Nat->Prop}{s:Sl},G w c R s->Chg M w w'->(∀k,R k->¬M k)->(∀b,Tagged w b 4->¬M b)->G w' c R s
 tags:∀{w:World}{c:Nat}{R:Nat->Prop}{s:Sl}{k:Nat},G w c R s->R k->∃t,isRef t/\Tagged w k t
theorem DT{t:TypeId}(h:isRef t):t≠4/\t≠159/\t≠63/\t≠116:=by rcases h with rfl|rfl|rfl|rfl|rfl<;>decide
structure PairAt(F G:Stl)(w:World)(pb x:Nat)(S:Nat->Prop)(c:Nat)(R:Nat->Prop)(s:Sl):Prop where
 tag:Tagged w pb 159
 c0:w.cell? (z pb)=some (.pointer (some (z x)))
 c1:w.cell? (O pb 1)=some (.pointer (some (z c)))
 f:F w x S s
 r:G w c R s
variable{F G:Stl}
theorem Rw(d:ProgFL F)(e:RefFrame G){w:World}{x:Nat}{S:Nat->Prop}{s s2:Sl}{c:Nat}{R:Nat->Prop}(f:F w x S s)(g:G w c R s2)(k:Nat)(i:S k)(h:R k):False:=by obtain⟨t,a,b⟩:=e.tags g h;exact(d.tags f i b).1 a
theorem RefFrame.lt(b:RefFrame G){w:World}{c:Nat}{R:Nat->Prop}{s:Sl}{k:Nat}(d:G w c R s)(e:R k):k<w.heap.size:=by obtain⟨t,_,a⟩:=b.tags d e;exact a.lt
theorem RefFrame.below(a:RefFrame G){w w':World}{c:Nat}{R:Nat->Prop}{s:Sl}(d:G w c R s)(b:Below w.heap.size w w'):G w' c R s:=a.stable d (Chg.of_below (M:=λ_=>False) b) (λ_ _ h=>h) (λ_ _ h=>h)
theorem PairAt.below(b:ProgFL F)(d:RefFrame G){w w':World}{pb x:Nat}{S:Nat->Prop}{c:Nat}{R:Nat->Prop}{s:Sl}(h:PairAt F G w pb x S c R s)(a:Below w.heap.size w w'):PairAt F G w' pb x S c R s :=
 ⟨h.tag.below a,(a.cell (p:=(z pb)) h.tag.lt).trans h.c0,(a.cell (p:=(O pb 1)) h.tag.lt).trans h.c1,b.below h.f a,d.below h.r a⟩
structure aS(F G:Stl)(S R:Nat->Prop)(w0:World)(pb x c:Nat)(s1 s2:Sl)(wx:World):Prop where
 tag:Tagged wx pb 159
 p0:wx.cell? (z pb)=some (.pointer (some (z x)))
 p1:wx.cell? (O pb 1)=some (.pointer (some (z c)))
 f:∃S',F wx x S' s1/\∀k,S' k->S k\/w0.heap.size<=k
 g:∃R',G wx c R' s2/\∀k,R' k->R k\/w0.heap.size<=k
 chg:Chg (λk=>S k\/R k) w0 wx
 glob:Glob wx
 s4:(∀k,S k->4<=k)/\(∀k,R k->4<=k)/\4<=w0.heap.size
abbrev stepO(o:StepD):Obj:=.cells #[.int .i64 o.kind,.int .i64 o.a,.int .i64 o.n,.int .i64 o.m,.string o.s] 65
structure Mid(F G:Stl)(S R:Nat->Prop)(w0:World)(bx:Nat)(o:StepD)(pb x c:Nat)(s1 s2:Sl)(wx:World):Prop where
 m:aS F G S R w0 pb x c s1 s2 wx
 bk:ah w0 bx #[.int .i64 o.kind,.int .i64 o.a,.int .i64 o.n,.int .i64 o.m,.string o.s] 65
 bS:¬S bx
 bR:¬R bx
section
variable{S R:Nat->Prop}{w0:World}{bx:Nat}{o:StepD}{pb x c:Nat}{s1 s2:Sl}{wx wy:World}
theorem aS.cell(h:aS F G S R w0 pb x c s1 s2 wx){b:Nat}(f:b<w0.heap.size)(e:¬S b)(d:¬R b)(i:Nat):wx.cell? (O b i)=w0.cell? (O b i):=η (w:=w0) (h.chg.block b f (λa=>a.elim e d))
theorem Mid.p0(h:Mid F G S R w0 bx o pb x c s1 s2 wx):wx.cell? (z pb)=some (.pointer (some (z x))):=h.m.p0
theorem Mid.p1(h:Mid F G S R w0 bx o pb x c s1 s2 wx):wx.cell? (O pb 1)=some (.pointer (some (z c))):=h.m.p1
theorem Mid.b0(h:Mid F G S R w0 bx o pb x c s1 s2 wx):wx.cell? (z bx)=some (.int .i64 o.kind):=(h.m.cell h.bk.lt h.bS h.bR 0).trans ((h.bk.cell 0).trans rfl)
theorem Mid.b2(h:Mid F G S R w0 bx o pb x c s1 s2 wx):wx.cell? (O bx 2)=some (.int .i64 o.n):=(h.m.cell h.bk.lt h.bS h.bR 2).trans ((h.bk.cell 2).trans rfl)
theorem Mid.b3(h:Mid F G S R w0 bx o pb x c s1 s2 wx):wx.cell? (O bx 3)=some (.int .i64 o.m):=(h.m.cell h.bk.lt h.bS h.bR 3).trans ((h.bk.cell 3).trans rfl)
theorem Mid.b4(h:Mid F G S R w0 bx o pb x c s1 s2 wx):wx.cell? (O bx 4)=some (.string o.s):=(h.m.cell h.bk.lt h.bS h.bR 4).trans ((h.bk.cell 4).trans rfl)
theorem aS.below(j:ProgFL F)(k:RefFrame G)(h:aS F G S R w0 pb x c s1 s2 wx)(a:Below wx.heap.size wx wy):aS F G S R w0 pb x c s1 s2 wy:=by obtain⟨d,e,f⟩:=h.f;obtain⟨b,g,i⟩:=h.g;exact⟨h.tag.below a,(a.cell (p:=(z pb)) h.tag.lt).trans h.p0,(a.cell (p:=(O pb 1)) h.tag.lt).trans h.p1,⟨d,j.below e a,f⟩,⟨b,k.below g a,i⟩,h.chg.below a,h.glob.mono a,h.s4⟩
theorem Mid.below(a:ProgFL F)(b:RefFrame G)(h:Mid F G S R w0 bx o pb x c s1 s2 wx)(d:Below wx.heap.size wx wy):Mid F G S R w0 bx o pb x c s1 s2 wy:=⟨h.m.below a b d,h.bk,h.bS,h.bR⟩
theorem Mid.drew(a:ProgFL F)(b:RefFrame G)(h:Mid F G S R w0 bx o pb x c s1 s2 wx):Mid F G S R w0 bx o pb x c s1 s2 wx.drew:=h.below a b (φ _ _).drew
theorem Mid.drewN(a:ProgFL F)(b:RefFrame G)(h:Mid F G S R w0 bx o pb x c s1 s2 wx)(n:Nat):Mid F G S R w0 bx o pb x c s1 s2 (wx.drewN n):=h.below a b (below_drewN (φ _ _) n)
theorem Rx{wx wy:World}(i:Glob wx)(a:Below 4 wx wy):Glob wy:=by obtain⟨⟨m,g1⟩,⟨b,g2,d⟩,⟨c,g3,e⟩,f,h⟩:=i;refine⟨⟨m,(a.cell (p:=(z 0)) Ψ).trans g1⟩,⟨b,(a.cell (p:=(z 1)) Ψ).trans g2,d⟩,⟨c,(a.cell (p:=(z 2)) Ψ).trans g3,e⟩, ?_,ο h a.size⟩;exact var?_below (g:=3) a (by kernel_rfl) Ψ f
theorem aS.Ad(l:ProgFL F)(p:RefFrame G)(h:aS F G S R w0 pb x c s1 s2 wx){g i:Nat->Prop}{t:Sl}(j:F wx x g s1)(m:∀k,g k->S k\/w0.heap.size<=k)(A:F wy x i t)(C:∀k,i k->g k\/wx.heap.size<=k)(a:Chg g wx wy):aS F G S R w0 pb x c t s2 wy:=by
 obtain⟨u,o,v⟩:=h.g;have s:¬g pb:=λd=>(l.tags j d h.tag).2.2.1 rfl;have q:∀n,wy.cell? (O pb n)=wx.cell? (O pb n):=λn=>η (w:=wx) (a.block pb h.tag.lt s);refine⟨h.tag.chg a s,(q 0).trans h.p0,(q 1).trans h.p1,⟨i,A,λk f=>(C k f).elim (m k) (λe=>υ (ς h.chg.size e))⟩,⟨u,p.stable o a (λk B d=>Rw l p j o k d B) (λb y d=>(l.tags j d y).2.1 rfl),v⟩, ?_, ?_,h.s4⟩
 .refine⟨a.os.trans h.chg.os,a.tape.trans h.chg.tape,a.output.trans h.chg.output,ς h.chg.size a.size,λk f r=>?_⟩;exact(a.block k (ο f h.chg.size) (λd=>(m k d).elim (λe=>r (τ e)) (λe=>V))).trans (h.chg.block k f r)
 .exact Rx h.glob (oq a (λk f=>(m k f).elim (h.s4.1 k) (λe=>ς h.s4.2.2 e)) (ς h.s4.2.2 h.chg.size))
theorem aS.ref(n:ProgFL F)(o:RefFrame G)(h:aS F G S R w0 pb x c s1 s2 wx){e g:Nat->Prop}{s:Sl}(l:G wx c e s2)(i:∀k,e k->R k\/w0.heap.size<=k)(A:G wy c g s)(C:∀k,g k->e k\/wx.heap.size<=k)(a:Chg e wx wy):aS F G S R w0 pb x c s1 s wy:=by
 obtain⟨t,m,u⟩:=h.f;have r:¬e pb:=λf=>by obtain⟨D,v,y⟩:=o.tags l f;exact(DT v).2.1 (kW y h.tag)
 have p:∀j,wy.cell? (O pb j)=wx.cell? (O pb j):=λj=>η (w:=wx) (a.block pb h.tag.lt r);refine⟨h.tag.chg a r,(p 0).trans h.p0,(p 1).trans h.p1,⟨t,n.stable m a (λk f B=>Rw n o m l k f B),u⟩,⟨g,A,λk d=>(C k d).elim (i k) (λb=>υ (ς h.chg.size b))⟩, ?_, ?_,h.s4⟩
 .refine⟨a.os.trans h.chg.os,a.tape.trans h.chg.tape,a.output.trans h.chg.output,ς h.chg.size a.size,λk d q=>?_⟩;exact(a.block k (ο d h.chg.size) (λf=>(i k f).elim (λb=>q (υ b)) (λb=>V))).trans (h.chg.block k d q)
 .exact Rx h.glob (oq a (λk d=>(i k d).elim (h.s4.2.1 k) (λb=>ς h.s4.2.2 b)) (ς h.s4.2.2 h.chg.size))
def Told(F G:Stl)(S R:Nat->Prop)(w:World)(pb x c:Nat)(s:Sl)(w':World):Prop :=
 ∃S' R',PairAt F G w' pb x S' c R' s/\(∀k,S' k->S k\/w.heap.size<=k)/\(∀k,R' k->R k\/w.heap.size<=k)/\Chg (λk=>S k\/R k) w w'
theorem aS.start(g:ProgFL F)(i:RefFrame G){w w':World}(f:Glob w){s:Sl}(h:PairAt F G w pb x S c R s)(e:(∀k,S k->4<=k)/\(∀k,R k->4<=k))(b:Below w.heap.size w w'):aS F G S R w pb x c s s w':=by have a:=h.below g i b;exact⟨a.tag,a.c0,a.c1,⟨S,a.f,λk d=>τ d⟩,⟨R,a.r,λk d=>τ d⟩,Chg.of_below b,f.mono b,e.1,e.2,f.size⟩
theorem aS.fin{w:World}{s:Sl}(h:aS F G S R w pb x c s s wx):Told F G S R w pb x c s wx:=by obtain⟨b,d,e⟩:=h.f;obtain⟨a,f,g⟩:=h.g;exact⟨b,a,⟨h.tag,h.p0,h.p1,d,f⟩,e,g,h.chg⟩
theorem Mid.start(a:ProgFL F)(b:RefFrame G){w:World}(g:Glob w){s:Sl}(h:PairAt F G w pb x S c R s)(f:(∀k,S k->4<=k)/\(∀k,R k->4<=k))(o:StepD):Mid F G S R (w.alloc (stepO o)) w.heap.size o pb x c s s (w.alloc (stepO o)):=by have e:Below w.heap.size w (w.alloc (stepO o)):=(φ _ w).alloc (χ _) _;exact⟨aS.start a b (g.mono e) (h.below a b e) f (φ _ _),ah.new w _ _,λd=>by have:=a.lt h.f d;omega,λd=>by have:=b.lt h.r d;omega⟩
theorem Mid.fin{w:World}{s:Sl}(h:Mid F G S R (w.alloc (stepO o)) w.heap.size o pb x c s s wx):Told F G S R w pb x c s wx:=by obtain⟨f,e,g,i,j,l⟩:=h.m.fin;have b:Below w.heap.size w (w.alloc (stepO o)):=(φ _ w).alloc (χ _) _;exact⟨f,e,g,λk d=>(i k d).imp id (λa=>ς b.size a),λk d=>(j k d).imp id (λa=>ς b.size a),(Chg.of_below b).trans l⟩
end
end
section
open Go.Proofs.Tryz Go.RowKit
variable{F G:Stl}
section
variable{S R:Nat->Prop}{w0:World}{bx:Nat}{o:StepD}{pb x c:Nat}{s1 s2:Sl}{wx:World}
theorem aS.Ut(hF:ProgL F)(f:ProgFL F)(g:RefFrame G)(h:aS F G S R w0 pb x c s1 s2 wx)(i:Int)(t:ByteArray)(k:t.size<=1048576):Calls prog 24 #[.pointer (some (z x)),.int .i64 i,.string t] wx λe w'=>∃u,e=.returned (.tuple #[.string u,.int .i64 (askR s1.es s1.kn i (toL t)).2])/\toL u=(askR s1.es s1.kn i (toL t)).1/\aS F G S R w0 pb x c s1 s2 w':=by obtain⟨b,a,d⟩:=h.f;refine ψ (hF.asks wx x b s1 i t h.glob a k) ?_;rintro e w'⟨u,rfl,l,m,f2,g2,j⟩;exact⟨u,rfl,l,h.Ad f g a d f2 g2 j⟩
theorem aS.Uu(g:RefOK G)(d:ProgFL F)(f:RefFrame G)(h:aS F G S R w0 pb x c s1 s2 wx)(i:Int)(t:ByteArray)(k:t.size<=1048576):Calls prog 110 #[.pointer (some (z c)),.int .i64 i,.string t] wx λe w'=>∃u,e=.returned (.tuple #[.string u,.int .i64 (askR s2.es s2.kn i (toL t)).2])/\toL u=(askR s2.es s2.kn i (toL t)).1/\aS F G S R w0 pb x c s1 s2 w':=by obtain⟨a,b,m⟩:=h.g;refine ψ (g.asks wx c a s2 i t b k) ?_;rintro e w'⟨u,rfl,l,j⟩;exact⟨u,rfl,l,h.below d f j⟩
theorem aS.F7(hF:ProgL F)(f:ProgFL F)(g:RefFrame G)(h:aS F G S R w0 pb x c s1 s2 wx)(i:Int):Calls prog 22 #[.pointer (some (z x)),.int .i64 i] wx λe w'=>e=.returned (.tuple #[.int .i64 (knowsR s1.kn i).1,.int .i64 (knowsR s1.kn i).2])/\aS F G S R w0 pb x c s1 s2 w':=by obtain⟨b,a,d⟩:=h.f;refine ψ (hF.knows wx x b s1 i h.glob a) ?_;rintro e w'⟨rfl,k,f2,g2,j⟩;exact⟨rfl,h.Ad f g a d f2 g2 j⟩
theorem aS.pDo(hF:ProgL F)(g:ProgFL F)(j:RefFrame G)(h:aS F G S R w0 pb x c s1 s2 wx)(i:Int)(t:ByteArray)(m:t.size<=1048576){r:Int}{a:Sl}(l:DoL s1 i (toL t) r a):Calls prog 23 #[.pointer (some (z x)),.int .i64 i,.string t] wx λe w'=>e=.returned (.int .i64 r)/\aS F G S R w0 pb x c a s2 w':=by obtain⟨d,b,f⟩:=h.f;refine ψ (hF.does wx x d s1 i t r a h.glob b m l) ?_;rintro e w'⟨rfl,n,f2,g2,k⟩;exact⟨rfl,h.Ad g j b f f2 g2 k⟩
theorem aS.Oo(hF:ProgL F)(g:ProgFL F)(k:RefFrame G)(h:aS F G S R w0 pb x c s1 s2 wx)(i j:Int):Calls prog 27 #[.pointer (some (z x)),.int .i64 i,.int .i64 j] wx λe w'=>e=.returned (.tuple #[.int .i64 (sendR s1.1 i j).1,.int .i64 (sendR s1.1 i j).2])/\∃a,SendL s1 i j a/\aS F G S R w0 pb x c a s2 w':=by obtain⟨d,b,f⟩:=h.f;refine ψ (hF.sends wx x d s1 i j h.glob b) ?_;rintro e w'⟨rfl,n,a,m,f2,g2,l⟩;exact⟨rfl,a,m,h.Ad g k b f f2 g2 l⟩
theorem aS.Uw(hF:ProgL F)(i:ProgFL F)(j:RefFrame G)(h:aS F G S R w0 pb x c s1 s2 wx)(f:Int):Calls prog 31 #[.pointer (some (z x)),.int .i64 f] wx λe w'=>e=.returned (.tuple #[.int .i64 (delR s1.1 f).1,.int .i64 (delR s1.1 f).2])/\∃a,DelL s1 f a/\aS F G S R w0 pb x c a s2 w':=by obtain⟨d,b,g⟩:=h.f;refine ψ (hF.dels wx x d s1 f h.glob b) ?_;rintro e w'⟨rfl,m,a,l,f2,g2,k⟩;exact⟨rfl,a,l,h.Ad i j b g f2 g2 k⟩
theorem aS.pFrame(hF:ProgL F)(g:ProgFL F)(i:RefFrame G)(h:aS F G S R w0 pb x c s1 s2 wx)(f:Int):Calls prog 28 #[.pointer (some (z x)),.int .i64 f] wx λe w'=>e=.returned (.tuple #[.string (frameR s1.1 f).1,.int .i64 (frameR s1.1 f).2])/\aS F G S R w0 pb x c s1 s2 w':=by obtain⟨b,a,d⟩:=h.f;refine ψ (hF.frame wx x b s1 f h.glob a) ?_;rintro e w'⟨rfl,k,f2,g2,j⟩;exact⟨rfl,h.Ad g i a d f2 g2 j⟩
theorem aS.rDo(k:RefOK G)(g:ProgFL F)(j:RefFrame G)(h:aS F G S R w0 pb x c s1 s2 wx)(i:Int)(t:ByteArray)(n:t.size<=1048576){r:Int}{a:Sl}(m:DoL s2 i (toL t) r a):Calls prog 116 #[.pointer (some (z c)),.int .i64 i,.string t] wx λe w'=>e=.returned (.int .i64 r)/\aS F G S R w0 pb x c s1 a w':=by obtain⟨d,b,f⟩:=h.g;refine ψ (k.does wx c d s2 i t r a b n m) ?_;rintro e w'⟨rfl,o,f2,g2,l⟩;exact⟨rfl,h.ref g j b f f2 g2 l⟩
theorem aS.Oq(l:RefOK G)(g:ProgFL F)(k:RefFrame G)(h:aS F G S R w0 pb x c s1 s2 wx)(i j:Int){a:Sl}(n:SendL s2 i j a):Calls prog 113 #[.pointer (some (z c)),.int .i64 i,.int .i64 j] wx λe w'=>e=.returned (.tuple #[.int .i64 (sendR s2.1 i j).1,.int .i64 (sendR s2.1 i j).2])/\aS F G S R w0 pb x c s1 a w':=by obtain⟨d,b,f⟩:=h.g;refine ψ (l.sends wx c d s2 i j a b n) ?_;rintro e w'⟨rfl,o,f2,g2,m⟩;exact⟨rfl,h.ref g k b f f2 g2 m⟩
theorem aS.Ux(k:RefOK G)(i:ProgFL F)(j:RefFrame G)(h:aS F G S R w0 pb x c s1 s2 wx)(f:Int){a:Sl}(m:DelL s2 f a):Calls prog 114 #[.pointer (some (z c)),.int .i64 f] wx λe w'=>e=.returned (.tuple #[.int .i64 (delR s2.1 f).1,.int .i64 (delR s2.1 f).2])/\aS F G S R w0 pb x c s1 a w':=by obtain⟨d,b,g⟩:=h.g;refine ψ (k.dels wx c d s2 f a b m) ?_;rintro e w'⟨rfl,n,f2,g2,l⟩;exact⟨rfl,h.ref i j b g f2 g2 l⟩
theorem aS.Uy(d:RefOK G)(h:aS F G S R w0 pb x c s1 s2 wx)(f:Int):Calls prog 112 #[.pointer (some (z c)),.int .i64 f] wx λe w'=>∃n:Nat,e=.returned (.int .i64 n)/\n<=1000000/\(frNo s2.1 f=none->n=0)/\(∀x,s2.ls[f.toNat-1]?=some x->frNo s2.1 f≠none->n=x.most/\n≠0)/\w'=wx:=by obtain⟨a,b,g⟩:=h.g;exact d.bound wx c a s2 f b
theorem aS.pSpoil(hF:ProgL F)(i:ProgFL F)(j:RefFrame G)(h:aS F G S R w0 pb x c s1 s2 wx)(f b:Int):Calls prog 30 #[.pointer (some (z x)),.int .i64 f,.int .i64 b] wx λe w'=>e=.returned (.int .i64 (spoilR s1.1 f b))/\aS F G S R w0 pb x c s1 s2 w':=by obtain⟨d,a,g⟩:=h.f;refine ψ (hF.spoils wx x d s1 f b h.glob a) ?_;rintro e w'⟨rfl,l,f2,g2,k⟩;exact⟨rfl,h.Ad i j a g f2 g2 k⟩
theorem aS.pWait(hF:ProgL F)(f:ProgFL F)(g:RefFrame G)(h:aS F G S R w0 pb x c s1 s2 wx)(i:Int):Calls prog 37 #[.pointer (some (z x)),.int .i64 i] wx λe w'=>e=.returned (.tuple #[.int .i64 (waitR s1 i).1,.int .i64 (waitR s1 i).2])/\aS F G S R w0 pb x c s1 s2 w':=by obtain⟨b,a,d⟩:=h.f;refine ψ (hF.waits wx x b s1 i h.glob a) ?_;rintro e w'⟨rfl,k,f2,g2,j⟩;exact⟨rfl,h.Ad f g a d f2 g2 j⟩
theorem aS.pTick(hF:ProgL F)(f:ProgFL F)(g:RefFrame G)(h:aS F G S R w0 pb x c s1 s2 wx)(i:Int):Calls prog 36 #[.pointer (some (z x)),.int .i64 i] wx λe w'=>e=.returned (.int .i64 (upR s1.kn i))/\aS F G S R w0 pb x c (tickTo s1 i) s2 w':=by obtain⟨b,a,d⟩:=h.f;refine ψ (hF.ticks wx x b s1 i h.glob a) ?_;rintro e w'⟨rfl,k,f2,g2,j⟩;exact⟨rfl,h.Ad f g a d f2 g2 j⟩
theorem aS.rTick(j:RefOK G)(f:ProgFL F)(g:RefFrame G)(h:aS F G S R w0 pb x c s1 s2 wx)(i:Int):Calls prog 117 #[.pointer (some (z c)),.int .i64 i] wx λe w'=>e=.returned (.int .i64 (upR s2.kn i))/\aS F G S R w0 pb x c s1 (tickTo s2 i) w':=by obtain⟨b,a,d⟩:=h.g;refine ψ (j.ticks wx c b s2 i a) ?_;rintro e w'⟨rfl,l,f2,g2,k⟩;exact⟨rfl,h.ref f g a d f2 g2 k⟩
theorem aS.rSpoil(j:RefOK G)(g:ProgFL F)(i:RefFrame G)(h:aS F G S R w0 pb x c s1 s2 wx)(f b:Int)(l:(frameR s2.1 f).1.size<=1000000000):Calls prog 115 #[.pointer (some (z c)),.int .i64 f,.int .i64 b,.int .i64 ((frameR s2.1 f).1.size)] wx λe w'=>e=.returned (.int .i64 (spoilR s2.1 f b))/\aS F G S R w0 pb x c s1 s2 w':=by obtain⟨a,d,m⟩:=h.g;refine ψ (j.spoils wx c a s2 f b d l) ?_;rintro e w'⟨rfl,k⟩;exact⟨rfl,h.below g i k⟩
theorem aS.rUp(d:RefOK G)(h:aS F G S R w0 pb x c s1 s2 wx)(i:Int):Calls prog 109 #[.pointer (some (z c)),.int .i64 i] wx λe w'=>e=.returned (.int .i64 (upR s2.kn i))/\w'=wx:=by obtain⟨a,b,f⟩:=h.g;exact d.up wx c a s2 i b
theorem Mid.Ut(hF:ProgL F)(a:ProgFL F)(b:RefFrame G)(h:Mid F G S R w0 bx o pb x c s1 s2 wx)(i:Int)(t:ByteArray)(f:t.size<=1048576):Calls prog 24 #[.pointer (some (z x)),.int .i64 i,.string t] wx λe w'=>∃u,e=.returned (.tuple #[.string u,.int .i64 (askR s1.es s1.kn i (toL t)).2])/\toL u=(askR s1.es s1.kn i (toL t)).1/\Mid F G S R w0 bx o pb x c s1 s2 w':=by refine ψ (h.m.Ut hF a b i t f) ?_;rintro e w'⟨u,rfl,g,d⟩;exact⟨u,rfl,g,d,h.bk,h.bS,h.bR⟩
theorem Mid.Uu(d:RefOK G)(a:ProgFL F)(b:RefFrame G)(h:Mid F G S R w0 bx o pb x c s1 s2 wx)(i:Int)(t:ByteArray)(g:t.size<=1048576):Calls prog 110 #[.pointer (some (z c)),.int .i64 i,.string t] wx λe w'=>∃u,e=.returned (.tuple #[.string u,.int .i64 (askR s2.es s2.kn i (toL t)).2])/\toL u=(askR s2.es s2.kn i (toL t)).1/\Mid F G S R w0 bx o pb x c s1 s2 w':=by refine ψ (h.m.Uu d a b i t g) ?_;rintro e w'⟨u,rfl,j,f⟩;exact⟨u,rfl,j,f,h.bk,h.bS,h.bR⟩
theorem Mid.F7(hF:ProgL F)(a:ProgFL F)(b:RefFrame G)(h:Mid F G S R w0 bx o pb x c s1 s2 wx)(i:Int):Calls prog 22 #[.pointer (some (z x)),.int .i64 i] wx λe w'=>e=.returned (.tuple #[.int .i64 (knowsR s1.kn i).1,.int .i64 (knowsR s1.kn i).2])/\Mid F G S R w0 bx o pb x c s1 s2 w':=by refine ψ (h.m.F7 hF a b i) ?_;rintro e w'⟨rfl,d⟩;exact⟨rfl,d,h.bk,h.bS,h.bR⟩
theorem Mid.pDo(hF:ProgL F)(b:ProgFL F)(d:RefFrame G)(h:Mid F G S R w0 bx o pb x c s1 s2 wx)(i:Int)(t:ByteArray)(j:t.size<=1048576){r:Int}{a:Sl}(f:DoL s1 i (toL t) r a):Calls prog 23 #[.pointer (some (z x)),.int .i64 i,.string t] wx λe w'=>e=.returned (.int .i64 r)/\Mid F G S R w0 bx o pb x c a s2 w':=by refine ψ (h.m.pDo hF b d i t j f) ?_;rintro e w'⟨rfl,g⟩;exact⟨rfl,g,h.bk,h.bS,h.bR⟩
theorem Mid.Oo(hF:ProgL F)(b:ProgFL F)(d:RefFrame G)(h:Mid F G S R w0 bx o pb x c s1 s2 wx)(i j:Int):Calls prog 27 #[.pointer (some (z x)),.int .i64 i,.int .i64 j] wx λe w'=>e=.returned (.tuple #[.int .i64 (sendR s1.1 i j).1,.int .i64 (sendR s1.1 i j).2])/\∃a,SendL s1 i j a/\Mid F G S R w0 bx o pb x c a s2 w':=by refine ψ (h.m.Oo hF b d i j) ?_;rintro e w'⟨rfl,a,g,f⟩;exact⟨rfl,a,g,f,h.bk,h.bS,h.bR⟩
theorem Mid.Uw(hF:ProgL F)(b:ProgFL F)(d:RefFrame G)(h:Mid F G S R w0 bx o pb x c s1 s2 wx)(f:Int):Calls prog 31 #[.pointer (some (z x)),.int .i64 f] wx λe w'=>e=.returned (.tuple #[.int .i64 (delR s1.1 f).1,.int .i64 (delR s1.1 f).2])/\∃a,DelL s1 f a/\Mid F G S R w0 bx o pb x c a s2 w':=by refine ψ (h.m.Uw hF b d f) ?_;rintro e w'⟨rfl,a,i,g⟩;exact⟨rfl,a,i,g,h.bk,h.bS,h.bR⟩
theorem Mid.pFrame(hF:ProgL F)(a:ProgFL F)(b:RefFrame G)(h:Mid F G S R w0 bx o pb x c s1 s2 wx)(f:Int):Calls prog 28 #[.pointer (some (z x)),.int .i64 f] wx λe w'=>e=.returned (.tuple #[.string (frameR s1.1 f).1,.int .i64 (frameR s1.1 f).2])/\Mid F G S R w0 bx o pb x c s1 s2 w':=by refine ψ (h.m.pFrame hF a b f) ?_;rintro e w'⟨rfl,d⟩;exact⟨rfl,d,h.bk,h.bS,h.bR⟩
theorem Mid.rDo(f:RefOK G)(b:ProgFL F)(d:RefFrame G)(h:Mid F G S R w0 bx o pb x c s1 s2 wx)(i:Int)(t:ByteArray)(k:t.size<=1048576){r:Int}{a:Sl}(g:DoL s2 i (toL t) r a):Calls prog 116 #[.pointer (some (z c)),.int .i64 i,.string t] wx λe w'=>e=.returned (.int .i64 r)/\Mid F G S R w0 bx o pb x c s1 a w':=by refine ψ (h.m.rDo f b d i t k g) ?_;rintro e w'⟨rfl,j⟩;exact⟨rfl,j,h.bk,h.bS,h.bR⟩
theorem Mid.Oq(f:RefOK G)(b:ProgFL F)(d:RefFrame G)(h:Mid F G S R w0 bx o pb x c s1 s2 wx)(i j:Int){a:Sl}(k:SendL s2 i j a):Calls prog 113 #[.pointer (some (z c)),.int .i64 i,.int .i64 j] wx λe w'=>e=.returned (.tuple #[.int .i64 (sendR s2.1 i j).1,.int .i64 (sendR s2.1 i j).2])/\Mid F G S R w0 bx o pb x c s1 a w':=by refine ψ (h.m.Oq f b d i j k) ?_;rintro e w'⟨rfl,g⟩;exact⟨rfl,g,h.bk,h.bS,h.bR⟩
theorem Mid.Ux(g:RefOK G)(b:ProgFL F)(d:RefFrame G)(h:Mid F G S R w0 bx o pb x c s1 s2 wx)(f:Int){a:Sl}(j:DelL s2 f a):Calls prog 114 #[.pointer (some (z c)),.int .i64 f] wx λe w'=>e=.returned (.tuple #[.int .i64 (delR s2.1 f).1,.int .i64 (delR s2.1 f).2])/\Mid F G S R w0 bx o pb x c s1 a w':=by refine ψ (h.m.Ux g b d f j) ?_;rintro e w'⟨rfl,i⟩;exact⟨rfl,i,h.bk,h.bS,h.bR⟩
theorem Mid.rUp(a:RefOK G)(h:Mid F G S R w0 bx o pb x c s1 s2 wx)(i:Int):Calls prog 109 #[.pointer (some (z c)),.int .i64 i] wx λe w'=>e=.returned (.int .i64 (upR s2.kn i))/\w'=wx:=h.m.rUp a i
end
theorem JY(hF:ProgL F)(r:RefOK G)(e:ProgFL F)(f:RefFrame G)(w:World)(D:Glob w)(pb x:Nat)(S:Nat->Prop)(c:Nat)(R:Nat->Prop)(s:Sl)(h:PairAt F G w pb x S c R s)(B:(∀k,S k->4<=k)/\(∀k,R k->4<=k))(o:StepD)(E:o.ok)(hk:o.kind=3):Calls prog 69 #[.pointer (some (z pb)),o.val] w λm w'=>m=.returned (.bool true)/\Told F G S R w pb x c s w':=by
 have j:J<|ProgFL F:=e;have l:J<|RefFrame G:=f;have H:o.s.size<=1048576:=E.2.2.2.2;unfold StepD.val;obtain⟨a,p⟩:∃a,a=w.alloc (stepO o):=⟨_,rfl⟩;have d:J<|∀y,Mid F G S R a w.heap.size o pb x c s s (a.drewN y):=λy=>by rw[p];exact(Mid.start e f D h B o).drewN e f y
 have W:J<|∀wx,Mid F G S R a w.heap.size o pb x c s s wx->Calls prog 24 #[.pointer (some (z x)),.int .i64 o.n,.string o.s] wx _:=λwx b=>b.Ut hF e f o.n o.s H;have X:J<|∀wx,Mid F G S R a w.heap.size o pb x c s s wx->Calls prog 110 #[.pointer (some (z c)),.int .i64 o.n,.string o.s] wx _:=λwx b=>b.Uu r e f o.n o.s H;have A:J<|∀wx,Mid F G S R a w.heap.size o pb x c s s wx->Calls prog 109 #[.pointer (some (z c)),.int .i64 o.n] wx _:=λwx b=>b.rUp r o.n;have Z:J<|∀wx,Mid F G S R a w.heap.size o pb x c s s wx->Told F G S R w pb x c s wx:=λwx b=>by rw[p]at b;exact b.fin
 have U:J<|w.alloc (stepO o)=a:=p.symm;have y0:a.cell? (z w.heap.size)=some (.int .i64 o.kind):=(d.o 0).b0;have y1:a.cell? (O pb 1)=some (.pointer (some (z c))):=(d.o 0).p1;have y2:a.cell? (O w.heap.size 2)=some (.int .i64 o.n):=(d.o 0).b2;obtain⟨k,q,n,v,t⟩:=o;simp only at *;subst hk;clear hF r e f D h E p B;go_enter func69,ntmps69;go_wp2_with fail;rw[U.o]
 go_quiet (first|(go_at_call 109;exact ψ (A.o _ (d.o _)) (λ_ _ h=>⟨h.1,_,h.2⟩)))
 go_wp2_with fail;have a1:=d.o nq;clear d A y0 y1 y2;generalize a.drewN nq=w2 at *;have q0:=a1.p0;have M:=a1.b2;have N:=a1.b4;simp only at M N;go_region_held3 (λw'=>Mid F G S R a w.heap.size ⟨3,q,n,v,t⟩ pb x c s s w'/\w'.cell? (z pb)=some (.pointer (some (z x)))/\w'.cell? (O w.heap.size 2)=some (.int .i64 n)/\w'.cell? (O w.heap.size 4)=some (.string t)) ((refine⟨?_, ?_, ?_, ?_⟩<;>(first|assumption|(exact Mid.drew j.o l.o Φ)|(exact Mid.p0 Φ)|(exact Mid.b2 Φ)|(exact Mid.b4 Φ)))) (first|(go_at_call 24;refine ψ (W.o _ ?_) ?_;(exact a1.drew j.o l.o);rintro m w3⟨u,rfl,K,i⟩));have Y:J<|toL u=(askR s.es s.kn n (toL t)).1:=K;clear a1 q0 M N K;go_wp2_with fail;have r1:=i.p1;have P:=i.b2;have Q:=i.b4;simp only at P Q;go_region_held3 (λw'=>Mid F G S R a w.heap.size ⟨3,q,n,v,t⟩ pb x c s s w'/\w'.cell? (O pb 1)=some (.pointer (some (z c)))/\w'.cell? (O w.heap.size 2)=some (.int .i64 n)/\w'.cell? (O w.heap.size 4)=some (.string t)) ((refine⟨?_, ?_, ?_, ?_⟩<;>(first|assumption|(exact Mid.drew j.o l.o Φ)|(exact Mid.p1 Φ)|(exact Mid.b2 Φ)|(exact Mid.b4 Φ)))) (first|(go_at_call 110;refine ψ (X.o _ ?_) ?_;(exact i.drew j.o l.o);rintro m w4⟨u',rfl,L,C⟩));have a0:u'=u:=ji (L.trans Y.o.symm);subst a0;have T:J<|Mid F G S R a w.heap.size ⟨3,q,n,v,t⟩ pb x c s s w4:=C;clear i C r1 P Q L;generalize (askR s.es s.kn n (toL t)).2=g at *;go_wp2_with (first|(go_at_call 108;refine(num_any _ _).mono ?_;rintro m w5⟨rfl,rfl⟩));go_ret;exact⟨rfl,Z.o _ T.o⟩
end
section
open Go.Proofs.Tryz Go.RowKit
variable{F G:Stl}
theorem DU(hF:ProgL F)(E:RefOK G)(p:ProgFL F)(r:RefFrame G)(w:World)(N:Glob w)(pb x:Nat)(S:Nat->Prop)(c:Nat)(R:Nat->Prop)(s:Sl)(h:PairAt F G w pb x S c R s)(M:(∀k,S k->4<=k)/\(∀k,R k->4<=k))(o:StepD)(ho:o.ok)(hk:o.kind=4):Calls prog 69 #[.pointer (some (z pb)),o.val] w λf w'=>f=.returned (.bool true)/\Told F G S R w pb x c s w':=by
 have C:J<|ProgFL F:=p;have D:J<|RefFrame G:=r;have Z:J<|RefOK G:=E;unfold StepD.val;obtain⟨a,v⟩:∃a,a=w.alloc (stepO o):=⟨_,rfl⟩;have e:J<|∀q,Mid F G S R a w.heap.size o pb x c s s (a.drewN q):=λq=>by rw[v];exact(Mid.start p r N h M o).drewN p r q
 have K:J<|∀wx,Mid F G S R a w.heap.size o pb x c s s wx->Calls prog 22 #[.pointer (some (z x)),.int .i64 o.n] wx _:=λwx g=>g.F7 hF p r o.n;have H:J<|∀wx,Mid F G S R a w.heap.size o pb x c s s wx->Calls prog 109 #[.pointer (some (z c)),.int .i64 o.n] wx _:=λwx g=>g.rUp E o.n;have P:J<|∀wx,Mid F G S R a w.heap.size o pb x c s s wx->Told F G S R w pb x c s wx:=λwx g=>by rw[v]at g;exact g.fin
 have HW:J<|w.alloc (stepO o)=a:=v.symm;have y0:a.cell? (z w.heap.size)=some (.int .i64 o.kind):=(e.o 0).b0;have y1:a.cell? (O pb 1)=some (.pointer (some (z c))):=(e.o 0).p1;have y2:a.cell? (O w.heap.size 2)=some (.int .i64 o.n):=(e.o 0).b2;obtain⟨k,t,n,y,A⟩:=o;simp only at *;subst hk;clear hF E p r N h ho v M;go_enter func69,ntmps69;go_wp2_with fail;rw[HW.o]
 go_quiet (first|(go_at_call 109;exact ψ (H.o _ (e.o _)) (λ_ _ h=>⟨h.1,_,h.2⟩)))
 go_wp2_with fail;have u:=e.o nq;clear e H y0 y1 y2;generalize a.drewN nq=w2 at *;have q0:=u.p0;have X:=u.b2;simp only at X;go_region_held3 (λw'=>Mid F G S R a w.heap.size ⟨4,t,n,y,A⟩ pb x c s s w'/\w'.cell? (z pb)=some (.pointer (some (z x)))/\w'.cell? (O w.heap.size 2)=some (.int .i64 n)) ((refine⟨?_, ?_, ?_⟩<;>(first|assumption|(exact Mid.drew C.o D.o Φ)|(exact Mid.p0 Φ)|(exact Mid.b2 Φ)))) (first|(go_at_call 22;refine ψ (K.o _ ?_) ?_;(exact u.drew C.o D.o);rintro f j⟨rfl,b⟩));clear u q0 X K;by_cases d:0<=n/\n<s.kn.length
 .obtain⟨i,rfl⟩:=Int.eq_ofNat_of_zero_le d.1;have Q:i<s.kn.length:=V
  have l:upR s.kn (i:Int)=0:=ώ d;have m:knowsR s.kn (i:Int)=((cnt s.kn[i]:Int),0):=by unfold knowsR;rw[ώ d];simp[ξ,Q]
  rw[l,m];obtain⟨R1,L,h2⟩:=b.m.g;obtain⟨h6,rb,a1,f1,a2,T⟩:=Z.o.cells _ _ _ _ L;obtain⟨W,k0,U,a0⟩:=(T i Q).1;have r1:=b.p1;have r2:=b.b2;simp only at r2;have Lp:J<|∀q,Calls prog 111 #[W] (j.drewN q) λf w'=>f=.returned (.int .i64 (cnt s.kn[i]))/\w'=j.drewN q:=λq=>ql j.heap.size W s.kn[i] _ a0 (SliceT.below U (below_drewN (φ _ _) q)).toIn;have B:J<|Mid F G S R a w.heap.size ⟨4,t,(i:Int),y,A⟩ pb x c s s j:=b;clear L h2 b U l m d T;generalize cnt s.kn[i]=a5 at *;have a3:(0:Int)<=(i:Int):=V
  have a4:(i:Int)<(s.kn.length:Int):=V
  go_wp2_with fail
  go_quiet (first|(go_at_call 111;exact ψ (Lp.o _) (λ_ _ h=>⟨h.1,_,h.2⟩)))
  have Y:J<|Mid F G S R a w.heap.size ⟨4,t,(i:Int),y,A⟩ pb x c s s (j.drewN nq):=B.o.drewN C.o D.o _;go_wp2_with (first|(go_at_call 108;refine(num_any _ _).mono ?_;rintro f w5⟨rfl,rfl⟩));go_ret;exact⟨rfl,P.o _ Y.o⟩
 .have l:upR s.kn n=2:=ύ d;have m:knowsR s.kn n=(0,2):=ύ d;rw[l,m];have B:J<|Mid F G S R a w.heap.size ⟨4,t,n,y,A⟩ pb x c s s j:=b;clear b l m d;go_wp2_with (first|(go_at_call 108;refine(num_any _ _).mono ?_;rintro f w5⟨rfl,rfl⟩));all_goals(go_ret;exact⟨rfl,P.o _ B.o⟩)
end
section
open Go.Proofs.Tryz Go.RowKit
theorem Ae(es:List Ev)(b:List (List Bool))(i:Int)(s:Thk.Bs):∃r d kn',DoOut es b i s r d kn':=by
 by_cases a:0<=i/\i<b.length
 .cases hr:Thk.read s with
  | inl k=>exact⟨_,_,_,DoOut.bad k a hr⟩
  | inr c =>
   by_cases e:500<=es.length
   .exact⟨_,_,_,DoOut.full c a hr e⟩
   .exact⟨_,_,_,DoOut.done c ⟨⟨c.path.toArray⟩,c.act,⟨c.val.toArray⟩,c.n,b.getD i.toNat []⟩ a hr V rfl rfl rfl rfl rfl⟩
 .exact⟨_,_,_,DoOut.rep a⟩
theorem doOut_det{es:List Ev}{t:List (List Bool)}{i:Int}{s:Thk.Bs}{u v:Int}{q r:List Ev}{k1 k2:List (List Bool)}(A:DoOut es t i s u q k1)(B:DoOut es t i s v r k2):u=v/\q=r/\k1=k2:=by
 rcases A with⟨d,rfl,rfl,rfl⟩|⟨M,d,e,rfl,rfl,rfl⟩|⟨c,d,e,D,rfl,rfl,rfl⟩|⟨c,x,d,e,D,f,g,h,j,k,rfl,rfl,rfl⟩ <;>
  rcases B with⟨b,rfl,rfl,rfl⟩|⟨N,b,a,rfl,rfl,rfl⟩|⟨w,b,a,C,rfl,rfl,rfl⟩|⟨w,y,b,a,C,l,m,n,o,p,rfl,rfl,rfl⟩
 .exact⟨rfl,rfl,rfl⟩
 .exact absurd b d
 .exact absurd b d
 .exact absurd b d
 .exact absurd d b
 .rw[e]at a;cases a;exact⟨rfl,rfl,rfl⟩
 .rw[e]at a;cases a
 .rw[e]at a;cases a
 .exact absurd d b
 .rw[e]at a;cases a
 .exact⟨rfl,rfl,rfl⟩
 .omega
 .exact absurd d b
 .rw[e]at a;cases a
 .omega
 .rw[e]at a;cases a
  obtain⟨G,K,H,P,R⟩:=x;obtain⟨p',L,v',Q,S⟩:=y;simp only at f g h j k l m n o p;have E:G=p':=ji (f.trans l.symm);have F:H=v':=ji (h.trans n.symm);subst E F g j k;refine⟨rfl, ?_,rfl⟩;rw[m,o,p]
variable{F G:Stl}
theorem Ot(hF:ProgL F)(y:RefOK G)(g:ProgFL F)(h:RefFrame G)(w:World)(v:Glob w)(pb x:Nat)(S:Nat->Prop)(c:Nat)(R:Nat->Prop)(s:Sl)(q:PairAt F G w pb x S c R s)(t:(∀k,S k->4<=k)/\(∀k,R k->4<=k))(o:StepD)(B:o.ok)(W:o.kind=2):Calls prog 73 #[.pointer (some (z pb)),o.val] w λe w'=>e=.returned (.bool true)/\∃s',Told F G S R w pb x c s' w':=by
 have a1:J<|ProgFL F:=g;have n:J<|RefFrame G:=h;have C:o.s.size<=1048576:=B.2.2.2.2;obtain⟨r,T,X,A⟩:=Ae s.es s.kn o.n (toL o.s);obtain⟨s1,j⟩:∃s1,DoL s o.n (toL o.s) r s1:=⟨⟨⟨T,X,s.fs⟩,s.room,if r=0 then updN s.rs o.n.toNat ((s.rs o.n.toNat).write s.room)else s.rs,s.ls⟩,A,rfl,rfl,rfl,rfl⟩;clear A;unfold StepD.val;obtain⟨a0,i⟩:∃a0,a0=w.alloc (stepO o):=⟨_,rfl⟩;have l:J<|Mid F G S R a0 w.heap.size o pb x c s s a0:=by rw[i];exact Mid.start g h v q t o
 have p:J<|∀wx,Mid F G S R a0 w.heap.size o pb x c s s wx->Calls prog 23 #[.pointer (some (z x)),.int .i64 o.n,.string o.s] wx _:=λwx b=>b.pDo hF g h o.n o.s C j;have Q:J<|∀wx,Mid F G S R a0 w.heap.size o pb x c s1 s wx->Calls prog 116 #[.pointer (some (z c)),.int .i64 o.n,.string o.s] wx λe w'=>e=.returned (.int .i64 r)/\Mid F G S R a0 w.heap.size o pb x c s1 s1 w':=λwx b=>by exact b.rDo y g h o.n o.s C j
 have U:J<|∀wx,Mid F G S R a0 w.heap.size o pb x c s1 s1 wx->Told F G S R w pb x c s1 wx:=λwx b=>by rw[i]at b;exact b.fin
 have P:J<|w.alloc (stepO o)=a0:=i.symm;obtain⟨k,a,D,m,M⟩:=o;simp only at *;subst W;clear hF y g h v q B i t j;go_enter func73,ntmps73;go_wp2_with fail;rw[P.o];have d:=l.o;clear l;have Y:=d.p0;have E:=d.b2;have H:=d.b4;simp only at E H;go_region_held3 (λw'=>w'.cell? (z pb)=some (.pointer (some (z x)))/\w'.cell? (O w.heap.size 2)=some (.int .i64 D)/\w'.cell? (O w.heap.size 4)=some (.string M)) ((refine⟨?_, ?_, ?_⟩<;>(first|assumption|(exact Mid.p0 Φ)|(exact Mid.b2 Φ)|(exact Mid.b4 Φ)))) (first|(go_at_call 23;refine ψ (p.o _ ?_) ?_;(exact d.drew a1.o n.o);rintro e w3⟨rfl,f⟩));clear d Y E H p;go_wp2_with fail;have Z:=f.p1;have K:=f.b2;have L:=f.b4;simp only at K L;go_region_held3 (λw'=>w'.cell? (O pb 1)=some (.pointer (some (z c)))/\w'.cell? (O w.heap.size 2)=some (.int .i64 D)/\w'.cell? (O w.heap.size 4)=some (.string M)) ((refine⟨?_, ?_, ?_⟩<;>(first|assumption|(exact Mid.p1 Φ)|(exact Mid.b2 Φ)|(exact Mid.b4 Φ)))) (first|(go_at_call 116;refine ψ (Q.o _ ?_) ?_;(exact f.drew a1.o n.o);rintro e w4⟨rfl,u⟩));have N:J<|Told F G S R w pb x c s1 w4:=U.o _ u;clear f u Z K L;go_wp2_with (first|(go_at_call 108;refine(num_any _ _).mono ?_;rintro e w5⟨rfl,rfl⟩));go_ret;exact⟨rfl,_,N.o⟩
end
section
open Go.Proofs.Tryz Go.RowKit
variable{F G:Stl}
theorem turns_tick(hF:ProgL F)(A:RefOK G)(d:ProgFL F)(f:RefFrame G)(w:World)(y:Glob w)(pb x:Nat)(S:Nat->Prop)(c:Nat)(R:Nat->Prop)(s:Sl)(t:PairAt F G w pb x S c R s)(u:(∀k,S k->4<=k)/\(∀k,R k->4<=k))(o:StepD)(M:o.ok)(L:o.kind=10):Calls prog 73 #[.pointer (some (z pb)),o.val] w λe w'=>e=.returned (.bool true)/\∃Q,Told F G S R w pb x c Q w':=by
 have p:J<|ProgFL F:=d;have q:J<|RefFrame G:=f;unfold StepD.val;obtain⟨b,i⟩:∃b,b=w.alloc (stepO o):=⟨_,rfl⟩;have m:J<|Mid F G S R b w.heap.size o pb x c s s b:=by rw[i];exact Mid.start d f y t u o
 obtain⟨s1,l⟩:∃s1,s1=tickTo s o.n:=⟨_,rfl⟩;have r:J<|∀wx,Mid F G S R b w.heap.size o pb x c s s wx->Calls prog 36 #[.pointer (some (z x)),.int .i64 o.n] wx λe w'=>e=.returned (.int .i64 (upR s.kn o.n))/\Mid F G S R b w.heap.size o pb x c s1 s w':=λwx a=>by refine ψ (a.m.pTick hF d f o.n) ?_;rintro e w'⟨rfl,j⟩;exact⟨rfl,by rw[l];exact j,a.bk,a.bS,a.bR⟩
 have H:J<|∀wx,Mid F G S R b w.heap.size o pb x c s1 s wx->Calls prog 117 #[.pointer (some (z c)),.int .i64 o.n] wx λe w'=>e=.returned (.int .i64 (upR s.kn o.n))/\Mid F G S R b w.heap.size o pb x c s1 s1 w':=λwx a=>by refine ψ (a.m.rTick A d f o.n) ?_;rintro e w'⟨rfl,j⟩;exact⟨rfl,by rw[<- l]at j;exact j,a.bk,a.bS,a.bR⟩
 have K:J<|∀wx,Mid F G S R b w.heap.size o pb x c s1 s1 wx->Told F G S R w pb x c s1 wx:=λwx a=>by rw[i]at a;exact a.fin
 have E:J<|w.alloc (stepO o)=b:=i.symm;obtain⟨k,U,n,W,Y⟩:=o;simp only at *;subst L;clear hF A d f y t M i u l;generalize upR s.kn n=X at *;go_enter func73,ntmps73;go_wp2_with fail;rw[E.o];have g:=m.o;clear m;have N:=g.p0;have B:=g.b2;simp only at B;go_region_held3 (λw'=>w'.cell? (z pb)=some (.pointer (some (z x)))/\w'.cell? (O w.heap.size 2)=some (.int .i64 n)) ((refine⟨?_, ?_⟩<;>(first|assumption|(exact Mid.p0 Φ)|(exact Mid.b2 Φ)))) (first|(go_at_call 36;refine ψ (r.o _ ?_) ?_;(exact g.drew p.o q.o);rintro e Z⟨rfl,h⟩));clear g N B r;go_wp2_with fail;have P:=h.p1;have C:=h.b2;simp only at C;go_region_held3 (λw'=>w'.cell? (O pb 1)=some (.pointer (some (z c)))/\w'.cell? (O w.heap.size 2)=some (.int .i64 n)) ((refine⟨?_, ?_⟩<;>(first|assumption|(exact Mid.p1 Φ)|(exact Mid.b2 Φ)))) (first|(go_at_call 117;refine ψ (H.o _ ?_) ?_;(exact h.drew p.o q.o);rintro e T⟨rfl,v⟩));have D:J<|Told F G S R w pb x c s1 T:=K.o _ v;clear h v P C;go_wp2_with (first|(go_at_call 108;refine(num_any _ _).mono ?_;rintro e w5⟨rfl,rfl⟩));go_ret;exact⟨rfl,_,D.o⟩
end
section
open Go.Proofs.Tryz Go.RowKit
theorem F8(w:World)(pb:Nat)(o:StepD)(d:o.kind<=0):Calls prog 73 #[.pointer (some (z pb)),o.val] w λe w'=>e=.returned (.bool true)/\Below w.heap.size w w':=by obtain⟨k,c,n,m,s⟩:=o;unfold StepD.val;simp only at *;have j:(k==2)=false:=ό.2 V;have f:(k==10)=false:=ό.2 V;have g:(k==11)=false:=ό.2 V;have h:(k==12)=false:=ό.2 V;have i:(k==13)=false:=ό.2 V;have b:J<|∀a,Below w.heap.size w (w.alloc a):=λa=>(φ _ w).alloc (χ _) a;go_enter func73,ntmps73;go_wp2_with (first|(go_at_call 108;refine(num_any _ _).mono ?_;rintro e l⟨rfl,rfl⟩));go_ret;exact⟨rfl,b.o _⟩
variable{F G:Stl}
theorem yG(hF:ProgL F)(C:RefOK G)(A:ProgFL F)(B:RefFrame G){S R:Nat->Prop}{w0:World}{pb x c:Nat}{s:Sl}{w:World}(h:aS F G S R w0 pb x c s s w)(b:Nat)(D:w0.cell? (O b 1)=some (.bool true))(m:¬S b/\¬R b)(E:b<w0.heap.size)(f:Int):Calls prog 70 #[.pointer (some (z b)),.pointer (some (z pb)),.int .i64 f] w λe w'=>e=.returned (.bool true)/\aS F G S R w0 pb x c s s w':=by
 have k:J<|∀wx,aS F G S R w0 pb x c s s wx->Calls prog 28 #[.pointer (some (z x)),.int .i64 f] wx λe w'=>e=.returned (.tuple #[.string (frameR s.1 f).1,.int .i64 (frameR s.1 f).2])/\aS F G S R w0 pb x c s s w':=λwx d=>d.pFrame hF A B f;have u:J<|∀wx,aS F G S R w0 pb x c s s wx->Calls prog 112 #[.pointer (some (z c)),.int .i64 f] wx λe w'=>∃n:Nat,e=.returned (.int .i64 n)/\n<=1000000/\(frNo s.1 f=none->n=0)/\(∀x,s.ls[f.toNat-1]?=some x->frNo s.1 f≠none->n=x.most/\n≠0)/\w'=wx:=λwx d=>d.Uy C f;have v:J<|∀wx,aS F G S R w0 pb x c s s wx->wx.cell? (O b 1)=some (.bool true):=λwx d=>(d.cell E m.1 m.2 1).trans D;have o:∀g,frNo s.1 f=some g->g.bytes.size<=1000000000/\∃x,s.ls[f.toNat-1]?=some x/\g.bytes.size<=x.most:=λg N=>by obtain⟨Y,M,_⟩:=h.f;exact hF.fsz _ _ _ _ _ _ M N
 have r:=h.p0;have H:J<|_:=h;clear hF C A B D m E h;go_enter func70,ntmps70;go_wp2_with fail;refine ψ (k.o _ H.o) ?_;rintro e w2⟨rfl,l⟩;clear r H;have r:=l.p0;have t:J<|_:=l;clear l;go_wp2_with fail;refine ψ (k.o _ t.o) ?_;rintro e U⟨rfl,i⟩;clear r t k;have T:=i.p1;have j:J<|aS F G S R w0 pb x c s s U:=i;have cb:=v.o _ i;clear i v;go_wp2_with fail;refine ψ (u.o _ j.o) ?_;rintro e w4⟨n,rfl,P,p,q,rfl⟩;clear u T;cases hf:frNo s.1 f with
 | none =>
  have a:frameR s.1 f=(⟨#[]⟩,9):=by unfold frameR;rw[hf]
  have y:n=0:=p hf;subst y;rw[a];clear p q hf a o P;go_wp2_with (first|(go_at_call 108;refine(num_any _ _).mono ?_;rintro e W⟨rfl,rfl⟩));go_ret;exact⟨rfl,j.o⟩
 | some g =>
  have a:frameR s.1 f=(g.bytes,0):=by unfold frameR;rw[hf]
  obtain⟨a1,X,K,Q⟩:=o g hf;obtain⟨L,y⟩:=q X K (by rw[hf];simp);have a0:(g.bytes.size:Int)<=(n:Int):=V
  rw[a];clear p q hf a o K Q L;have e3:((n:Int)==0)=false:=ό.2 V;generalize g.bytes=Z at *;go_wp2_with (first|(go_at_call 108;refine(num_any _ _).mono ?_;rintro e W⟨rfl,rfl⟩));go_ret;exact⟨rfl,j.o⟩
theorem JZ(hF:ProgL F)(l:RefOK G)(a:ProgFL F)(d:RefFrame G)(w:World)(j:Glob w)(pb x:Nat)(S:Nat->Prop)(c:Nat)(R:Nat->Prop)(s:Sl)(h:PairAt F G w pb x S c R s)(g:(∀k,S k->4<=k)/\(∀k,R k->4<=k))(b:Nat)(m:w.cell? (O b 1)=some (.bool true))(o:¬S b/\¬R b)(n:b<w.heap.size)(f:Int):Calls prog 70 #[.pointer (some (z b)),.pointer (some (z pb)),.int .i64 f] w λe w'=>e=.returned (.bool true)/\Told F G S R w pb x c s w':=by refine ψ (yG hF l a d (aS.start a d j h g (φ _ _)) b m o n f) ?_;rintro e w'⟨rfl,i⟩;exact⟨rfl,i.fin⟩
theorem J3(s:St)(i j:Int)(h:s.fs.length<=1000000):0<=(sendR s i j).1/\(sendR s i j).1<=1000001/\0<=(sendR s i j).2/\(sendR s i j).2<=9:=by
 unfold sendR;split
 .split
  .simp
  .split<;>simp<;>omega
 .simp
theorem Ou(s:St)(f:Int)(h:s.fs.length<=1000000):0<=(delR s f).1/\(delR s f).1<=1000001/\0<=(delR s f).2/\(delR s f).2<=9:=by
 unfold delR;split
 .simp
 .split
  .simp
  .split<;>simp<;>omega
theorem F9(hF:ProgL F)(C:RefOK G)(h:ProgFL F)(i:RefFrame G)(w:World)(hG:Glob w)(pb x:Nat)(S:Nat->Prop)(c:Nat)(R:Nat->Prop)(s:Sl)(T:PairAt F G w pb x S c R s)(h4:(∀m,S m->4<=m)/\(∀m,R m->4<=m))(b:Nat)(hb:w.cell? (O b 1)=some (.bool true))(a0:¬S b/\¬R b)(W:b<w.heap.size)(o:StepD)(ho:o.ok)(D:o.kind=5\/o.kind=7):Calls prog 71 #[.pointer (some (z b)),.pointer (some (z pb)),o.val] w λe w'=>e=.returned (.bool true)/\∃a2,Told F G S R w pb x c a2 w':=by
 have N:J<|ProgFL F:=h;have P:J<|RefFrame G:=i;unfold StepD.val;obtain⟨W1,l⟩:∃W1,W1=w.alloc (stepO o):=⟨_,rfl⟩;have M:J<|Mid F G S R W1 w.heap.size o pb x c s s W1:=by rw[l];exact Mid.start h i hG T h4 o
 have U:Below w.heap.size w W1:=by rw[l];exact(φ _ w).alloc (χ _) _
 have Q:J<|∀a2 wx f,Mid F G S R W1 w.heap.size o pb x c a2 a2 wx->Calls prog 70 #[.pointer (some (z b)),.pointer (some (z pb)),.int .i64 f] wx λe w'=>e=.returned (.bool true)/\∃a2,Told F G S R w pb x c a2 w':=λa2 wx f d=>by
  refine ψ (yG hF C h i d.m b ((U.cell (p:=(O b 1)) W).trans hb) a0 (ο W U.size) f) ?_;rintro e w'⟨rfl,h5⟩;refine⟨rfl,a2, ?_⟩;have k:Mid F G S R (w.alloc (stepO o)) w.heap.size o pb x c a2 a2 w':=by rw[<- l];exact⟨h5,d.bk,d.bS,d.bR⟩
  exact k.fin
 have X:J<|∀a2 wx,Mid F G S R W1 w.heap.size o pb x c a2 a2 wx->∃a2,Told F G S R w pb x c a2 wx:=λa2 wx d=>by rw[l]at d;exact⟨a2,d.fin⟩
 have Y:s.fs.length<=1000000:=hF.flen _ _ _ _ T.f;have HW:J<|w.alloc (stepO o)=W1:=l.symm;rcases D with D|D
 .have a4:J<|∀wx,Mid F G S R W1 w.heap.size o pb x c s s wx->Calls prog 27 #[.pointer (some (z x)),.int .i64 o.n,.int .i64 o.m] wx _:=λwx d=>d.Oo hF h i o.n o.m;have a5:J<|∀wx a2,SendL s o.n o.m a2->Mid F G S R W1 w.heap.size o pb x c a2 s wx->Calls prog 113 #[.pointer (some (z c)),.int .i64 o.n,.int .i64 o.m] wx _:=λwx a2 hs d=>d.Oq C h i o.n o.m hs;obtain⟨L,q,Z,r4⟩:=J3 s.1 o.n o.m Y;obtain⟨m,a,n,r,t⟩:=o;simp only at *;subst D;clear hF C h i hG T ho l h4 hb a0 W U Y;generalize sendR s.1 n r=sr at *;obtain⟨u,v⟩:=sr;simp only at *;go_enter func71,ntmps71;have a3:=M.o;clear M;have A:=a3.b0;simp only at A;go_wp2_with fail;rw[HW.o];have q0:=a3.p0;have K:=a3.b2;have q3:=a3.b3;simp only at K q3;go_wp2_with fail;go_region_held3 (λw'=>w'.cell? (z pb)=some (.pointer (some (z x)))/\w'.cell? (O w.heap.size 2)=some (.int .i64 n)/\w'.cell? (O w.heap.size 3)=some (.int .i64 r)) ((refine⟨?_, ?_, ?_⟩<;>(first|assumption|(exact Mid.p0 Φ)|(exact Mid.b2 Φ)|(exact Mid.b3 Φ)))) (first|(go_at_call 27;refine ψ (a4.o _ ?_) ?_;(exact a3.drew N.o P.o);rintro e w3⟨rfl,a2,E,g⟩));have y:J<|_:=E;clear a3 q0 K q3 A a4 E;go_wp2_with fail;have L:=g.p1;have q:=g.b2;have Z:=g.b3;simp only at q Z;go_region_held3 (λw'=>w'.cell? (O pb 1)=some (.pointer (some (z c)))/\w'.cell? (O w.heap.size 2)=some (.int .i64 n)/\w'.cell? (O w.heap.size 3)=some (.int .i64 r)) ((refine⟨?_, ?_, ?_⟩<;>(first|assumption|(exact Mid.p1 Φ)|(exact Mid.b2 Φ)|(exact Mid.b3 Φ)))) (first|(go_at_call 113;refine ψ (a5.o _ a2 y.o ?_) ?_;(exact g.drew N.o P.o);rintro e w4⟨rfl,B⟩));have j:J<|Mid F G S R W1 w.heap.size ⟨5,a,n,r,t⟩ pb x c a2 a2 w4:=B;clear g B L q Z a5 y;by_cases H:u=0
  .subst H;go_wp2_with (first|(go_at_call 108;refine(num_any _ _).mono ?_;rintro e w5⟨rfl,rfl⟩));go_ret;exact⟨rfl,X.o _ _ j.o⟩
  .have a1:(u==0)=false:=ό.2 H;go_wp2_with (first|(go_at_call 108;refine(num_any _ _).mono ?_;rintro e w5⟨rfl,rfl⟩));refine ψ (Q.o _ _ u j.o) ?_;rintro e w6⟨rfl,k⟩;have H6:J<|_:=k;clear k Q X j;go_wp2_with fail;go_ret;exact⟨rfl,H6.o⟩
 .have a4:J<|∀wx,Mid F G S R W1 w.heap.size o pb x c s s wx->Calls prog 31 #[.pointer (some (z x)),.int .i64 o.n] wx _:=λwx d=>d.Uw hF h i o.n;have a5:J<|∀wx a2,DelL s o.n a2->Mid F G S R W1 w.heap.size o pb x c a2 s wx->Calls prog 114 #[.pointer (some (z c)),.int .i64 o.n] wx _:=λwx a2 hs d=>d.Ux C h i o.n hs;obtain⟨L,q,Z,r4⟩:=Ou s.1 o.n Y;obtain⟨m,a,n,r,t⟩:=o;simp only at *;subst D;clear hF C h i hG T ho l h4 hb a0 W U Y;generalize delR s.1 n=sr at *;obtain⟨u,v⟩:=sr;simp only at *;go_enter func71,ntmps71;have a3:=M.o;clear M;have A:=a3.b0;simp only at A;go_wp2_with fail;rw[HW.o];have q0:=a3.p0;have K:=a3.b2;simp only at K;go_wp2_with fail;go_region_held3 (λw'=>w'.cell? (z pb)=some (.pointer (some (z x)))/\w'.cell? (O w.heap.size 2)=some (.int .i64 n)) ((refine⟨?_, ?_⟩<;>(first|assumption|(exact Mid.p0 Φ)|(exact Mid.b2 Φ)))) (first|(go_at_call 31;refine ψ (a4.o _ ?_) ?_;(exact a3.drew N.o P.o);rintro e w3⟨rfl,a2,E,g⟩));have y:J<|_:=E;clear a3 q0 K A a4 E;go_wp2_with fail;have L:=g.p1;have q:=g.b2;simp only at q;go_region_held3 (λw'=>w'.cell? (O pb 1)=some (.pointer (some (z c)))/\w'.cell? (O w.heap.size 2)=some (.int .i64 n)) ((refine⟨?_, ?_⟩<;>(first|assumption|(exact Mid.p1 Φ)|(exact Mid.b2 Φ)))) (first|(go_at_call 114;refine ψ (a5.o _ a2 y.o ?_) ?_;(exact g.drew N.o P.o);rintro e w4⟨rfl,B⟩));have j:J<|Mid F G S R W1 w.heap.size ⟨7,a,n,r,t⟩ pb x c a2 a2 w4:=B;clear g B L q a5 y;by_cases H:u=0
  .subst H;go_wp2_with (first|(go_at_call 108;refine(num_any _ _).mono ?_;rintro e w5⟨rfl,rfl⟩));go_ret;exact⟨rfl,X.o _ _ j.o⟩
  .have a1:(u==0)=false:=ό.2 H;go_wp2_with (first|(go_at_call 108;refine(num_any _ _).mono ?_;rintro e w5⟨rfl,rfl⟩));refine ψ (Q.o _ _ u j.o) ?_;rintro e w6⟨rfl,k⟩;have H6:J<|_:=k;clear k Q X j;go_wp2_with fail;go_ret;exact⟨rfl,H6.o⟩
end
section
open Go.Proofs.Tryz Go.RowKit
variable{F G:Stl}
structure fE where
 pb:Nat
 x:Nat
 S:Nat->Prop
 c:Nat
 R:Nat->Prop
 s:Sl
def fE.At(F G:Stl)(w:World)(d:fE):Prop:=PairAt F G w d.pb d.x d.S d.c d.R d.s
def fE.foot(d:fE)(k:Nat):Prop:=d.S k\/d.R k
theorem iy(f:ProgFL F)(g:RefFrame G){w:World}{d:fE}(h:d.At F G w){k:Nat}(a:d.foot k){t:TypeId}(b:Tagged w k t):t≠4/\t≠159/\t≠63/\t≠116:=by
 rcases a with a|a
 .exact(f.tags h.f a b).2
 .obtain⟨i,c,e⟩:=g.tags h.r a;rw[kW b e];exact DT c
theorem sS(a:ProgFL F)(b:RefFrame G){w:World}{d:fE}(h:d.At F G w){k:Nat}(c:d.foot k):k<w.heap.size:=c.elim (a.lt h.f) (b.lt h.r)
theorem fE.At.other(e:ProgFL F)(g:RefFrame G){w w':World}{d f:fE}(h:d.At F G w)(m:f.At F G w)(c:Chg f.foot w w')(j:∀k,d.foot k->¬f.foot k):d.At F G w':=by have n:¬f.foot d.pb:=λa=>(iy e g m a h.tag).2.1 rfl;have l:∀i,w'.cell? (O d.pb i)=w.cell? (O d.pb i):=λi=>η (w:=w) (c.block d.pb h.tag.lt n);exact⟨h.tag.chg c n,(l 0).trans h.c0,(l 1).trans h.c1,e.stable h.f c (λk a=>j k (τ a)),g.stable h.r c (λk a=>j k (υ a)) (λb o a=>(iy e g m a o).1 rfl)⟩
theorem fE.At.law(f:ProgFL F)(g:RefFrame G){M:Nat->Prop}{w w':World}{d:fE}(h:d.At F G w)(i:Chg M w w')(l:∀k,M k->k<w.heap.size->Tagged w k 63\/Tagged w k 116):d.At F G w':=by
 have u:∀{k:Nat}{t:TypeId},M k->Tagged w k t->t=63\/t=116:=λa e=>(l _ a e.lt).imp (kW e) (kW e);have o:∀{k:Nat}{t:TypeId},Tagged w k t->t≠63->t≠116->¬M k:=λe c q a=>(u a e).elim c q;have n:¬M d.pb:=o h.tag Ψ Ψ;have m:∀j,w'.cell? (O d.pb j)=w.cell? (O d.pb j):=λj=>η (w:=w) (i.block d.pb h.tag.lt n);have p:∀k,d.foot k->¬M k:=λk a s=>by
  rcases l k s (sS f g h a)with c|c
  .exact(iy f g h a c).2.2.1 rfl
  .exact(iy f g h a c).2.2.2 rfl
 exact⟨h.tag.chg i n,(m 0).trans h.c0,(m 1).trans h.c1,f.stable h.f i (λk a=>p k (τ a)),g.stable h.r i (λk a=>p k (υ a)) (λb r=>o r Ψ Ψ)⟩
def OT(l:List fE):List Value:=l.map λd=>.pointer (some (z d.pb))
structure kT(F G:Stl)(B:Nat)(w:World)(b:Nat)(rv:Value)(l:List fE):Prop where
 glob:Glob w
 b4:4<=B
 bB:B<=b
 blk:ah w b #[rv,.bool true] 63
 row:w.ownsRow B 116 1 rv l.length (OT l)
 pair:∀j(h:j<l.length),l[j].At F G w
 foot:∀j(h:j<l.length)k,l[j].foot k->B<=k
 apart:∀i j(hi:i<l.length)(hj:j<l.length),i≠j->∀k,l[i].foot k->¬l[j].foot k
def gQ(F G:Stl)(c B:Nat)(w:World)(b:Nat):Prop:=∃rv l,l.length<=c/\kT F G B w b rv l
section
variable{B:Nat}{w w':World}{b:Nat}{rv:Value}{l:List fE}
theorem kT.below(c:ProgFL F)(d:RefFrame G)(h:kT F G B w b rv l)(a:Below w.heap.size w w'):kT F G B w' b rv l :=
 ⟨h.glob.mono a,h.b4,h.bB,h.blk.below a,ownsRow_chg h.row (Chg.of_below (M:=λ_=>False) a) (λ_ _ h=>h),λj e=>PairAt.below c d (h.pair j e) a,h.foot,h.apart⟩
theorem kT.Af(h:kT F G B w b rv l):∀g,rv.ownBlock=some g->Tagged w g 116:=by
 intro g a;obtain⟨_,d|⟨i,f,c,rfl,_,e,_⟩⟩:=h.row
 .rw[d.1]at a;cases a
 .cases a;exact⟨c,e⟩
theorem kT.XU(c:ProgFL F)(d:RefFrame G)(h:kT F G B w b rv l)(j:Nat)(e:j<l.length):¬l[j].S b/\¬l[j].R b :=
 ⟨λa=>(iy c d (h.pair j e) (τ a) ⟨_,h.blk⟩).2.2.1 rfl,λa=>(iy c d (h.pair j e) (υ a) ⟨_,h.blk⟩).2.2.1 rfl⟩
theorem kT.turn(r:ProgFL F)(s:RefFrame G)(h:kT F G B w b rv l)(k:Nat)(n:k<l.length)(d:fE)(N:d.pb=l[k].pb)(K:d.At F G w')(f:Chg l[k].foot w w')(x:∀i,d.foot i->l[k].foot i\/w.heap.size<=i):kT F G B w' b rv (l.set k d)/\Below B w w':=by
 have y:=h.pair k n;have C:B<=w.heap.size:=ς h.bB (Nat.le_of_lt h.blk.lt);have H:Below B w w':=⟨f.os,f.tape,f.output,f.size,λi a=>f.block i (ο a C) (λe=>by have:=h.foot k n i e;omega)⟩;have E:¬l[k].foot b:=λD=>(iy r s y D ⟨_,h.blk⟩).2.2.1 rfl;have u:∀j(m:j<l.length),(l.set k d)[j]'(by simpa using m)=if k=j then d else l[j]:=λj m=>by rw[List.getElem_set]
 refine⟨⟨h.glob.Dv f (λi a=>ς h.b4 (h.foot k n i a)),h.b4,h.bB,h.blk.chg f E, ?_,λj m=>?_,λj m i a=>?_,λi j a m M t o=>?_⟩,H⟩
 .have e:OT (l.set k d)=OT l:=by
   unfold OT;rw[List.map_set,N];refine List.ext_getElem? λj=>?_;rw[List.getElem?_set];by_cases e:k=j
   .subst e;simp[n]
   .simp[e]
  rw[List.length_set,e];exact ownsRow_chg h.row f (λA L p=>(iy r s y p (h.Af A L)).2.2.2 rfl)
 .have c:j<l.length:=by simpa using m
  rw[u j c];by_cases e:k=j
  .rw[ώ e];exact K
  .rw[ύ e];exact(h.pair j c).other r s y f (λi a=>h.apart j k c n (Ne.symm e) i a)
 .have c:j<l.length:=by simpa using m
  rw[u j c]at a;by_cases e:k=j
  .rw[ώ e]at a;rcases x i a with g|g
   .exact h.foot k n i g
   .omega
  .rw[ύ e]at a;exact h.foot j c i a
 .have v:i<l.length:=by simpa using a
  have c:j<l.length:=by simpa using m
  rw[u i v]at o;rw[u j c];by_cases e:k=i
  .rw[ώ e]at o;have q:¬k=j:=V
   rw[ύ q];intro p;rcases x t o with g|g
   .exact h.apart k j n c q t g p
   .have:=sS r s (h.pair j c) p;omega
  .rw[ύ e]at o;by_cases q:k=j
   .rw[ώ q];intro p;rcases x t p with g|g
    .exact h.apart i k v n (Ne.symm e) t o g
    .have:=sS r s (h.pair i v) o;omega
   .rw[ύ q];exact h.apart i j v c M t o
theorem kT.told(q:ProgFL F)(r:RefFrame G){c:Nat}(h:kT F G B w b rv l)(u:l.length<=c)(k:Nat)(t:k<l.length){d:Sl}(s:Told F G l[k].S l[k].R w l[k].pb l[k].x l[k].c d w'):gQ F G c B w' b/\Below B w w':=by
 obtain⟨f,e,g,j,m,n⟩:=s;obtain⟨o,p⟩:=h.turn q r k t ⟨l[k].pb,l[k].x,f,l[k].c,e,d⟩ rfl g n (λi a=>by
  rcases a with a|a
  .exact(j i a).imp (λh=>τ h) (λh=>h)
  .exact(m i a).imp (λh=>υ h) (λh=>h))
 exact⟨⟨_,_,by simpa using u,o⟩,p⟩
end
end
section
open Go.Proofs.Tryz Go.RowKit
variable{F G:Stl}
theorem kT.more(D:ProgFL F)(E:RefFrame G){B N:Nat}{w r:World}{b:Nat}{rv:Value}{l:List fE}(h:kT F G B w b rv l)(W:∀j(e:j<l.length)k,l[j].foot k->k<N)(a0:B<=N){x:Nat}{S:Nat->Prop}{c:Nat}{R:Nat->Prop}{s:Sl}(hf:F w x S s)(hr:G w c R s)(hS:∀k,S k->N<=k)(a2:∀k,R k->N<=k){g t:Nat}(Y:r.ownsRow B 116 1 (.slice (some (z g)) (l.length+1) t) (l.length+1) (OT l++[.pointer (some (z w.heap.size))]))(M:((w.alloc (.cells #[.pointer (some (z x)),.pointer (some (z c))] 159)).alloc (.cells #[.pointer (some (z w.heap.size))] 116)).grownBy r rv.ownBlock):kT F G B (r.setCell (z b) (.slice (some (z g)) (l.length+1) t)) b (.slice (some (z g)) (l.length+1) t) (l++[⟨w.heap.size,x,S,c,R,s⟩])/\Below B w (r.setCell (z b) (.slice (some (z g)) (l.length+1) t)):=by
 obtain⟨wa,A⟩:∃wa,wa=(w.alloc (.cells #[.pointer (some (z x)),.pointer (some (z c))] 159)).alloc (.cells #[.pointer (some (z w.heap.size))] 116):=⟨_,rfl⟩;have o:Below w.heap.size w wa:=by rw[A];exact((φ _ w).alloc (χ _) _).alloc Ω _
 have P:ah wa w.heap.size #[.pointer (some (z x)),.pointer (some (z c))] 159:=by rw[A];exact(ah.new w _ _).alloc _
 rw[<- A]at M;clear A;have f:=h.below D E o;have a4:fE.At F G wa ⟨w.heap.size,x,S,c,R,s⟩ :=
  ⟨⟨_,P⟩,(P.cell 0).trans rfl,(P.cell 1).trans rfl,D.below hf o,E.below hr o⟩
 have i:Chg (λk=>rv.ownBlock=some k\/k=b) wa (r.setCell (z b) (.slice (some (z g)) (l.length+1) t)) :=
  Chg.setCell (p:=(z b)) ((Chg.refl (λk=>rv.ownBlock=some k\/k=b) wa).grown M (λk d=>τ (τ d))) (υ rfl) _
 have T:∀k,(rv.ownBlock=some k\/k=b)->k<wa.heap.size->Tagged wa k 63\/Tagged wa k 116:=by
  rintro k (d|rfl) _
  .exact υ (f.Af k d)
  .exact τ ⟨_,f.blk⟩
 have U:∀k,(rv.ownBlock=some k\/k=b)->B<=k:=by
  rintro k (d|rfl)
  .exact(f.row.lt k d).1
  .exact h.bB
 have a3:rv.ownBlock≠some b:=λm=>Tagged.ne (f.Af b m) ⟨_,f.blk⟩ Ψ rfl;have L:ah r b #[rv,.bool true] 63:=(M.block b f.blk.lt (Ne.symm a3)).trans f.blk;have a5:g≠b:=λm=>by
  subst m;obtain⟨_,⟨h1,_⟩|⟨g',cp,a7,Z,_,hh,_⟩⟩:=Y
  .cases h1
  .simp only[Value.slice.injEq,Option.some.injEq,Addr.mk.injEq,true_and,and_true]at Z;obtain⟨rfl,rfl⟩:=Z;exact absurd (qQ L hh).2 Ψ
 have K:(l++[(⟨w.heap.size,x,S,c,R,s⟩:fE)]).length=l.length+1:=Ω
 have u:∀j(e:j<l.length),(l++[(⟨w.heap.size,x,S,c,R,s⟩:fE)])[j]'(by rw[K];omega)=l[j]:=λj e=>List.getElem_append_left e;have H:∀j(e:j<(l++[(⟨w.heap.size,x,S,c,R,s⟩:fE)]).length),¬j<l.length->(l++[(⟨w.heap.size,x,S,c,R,s⟩:fE)])[j]=⟨w.heap.size,x,S,c,R,s⟩:=λj e hn=>by
  rw[List.getElem_append_right V];have:j-l.length=0:=by rw[K]at e;omega
  simp[this]
 have Q:∀k,fE.foot ⟨w.heap.size,x,S,c,R,s⟩ k->N<=k:=by
  rintro k (d|d)
  .exact hS k d
  .exact a2 k d
 refine⟨⟨(h.glob.mono o).Dv i (λk d=>ς h.b4 (U k d)),h.b4,h.bB, ?_, ?_,λj e=>?_,λj e k d=>?_,λy j X e a6 k d=>?_⟩, ?_⟩
 .unfold ah at L⊢;simp[World.setCell,μ,L]
 .rw[K];have m:OT (l++[(⟨w.heap.size,x,S,c,R,s⟩:fE)])=OT l++[.pointer (some (z w.heap.size))]:=by simp[OT]
  rw[m];exact ownsRow_setCell_other Y (a:=(z b)) (λm=>a5 (by simpa[Value.ownBlock]using m)) _
 .by_cases n:j<l.length
  .rw[u j n];exact(f.pair j n).law D E i T
  .rw[H j e n];exact a4.law D E i T
 .by_cases n:j<l.length
  .rw[u j n]at d;exact h.foot j n k d
  .rw[H j e n]at d;exact ς a0 (Q k d)
 .by_cases C:y<l.length
  .rw[u y C]at d;by_cases q:j<l.length
   .rw[u j q];exact h.apart y j C q a6 k d
   .rw[H j e q];intro v;have:=Q k v;have:=W y C k d;omega
  .rw[H y X C]at d;by_cases q:j<l.length
   .rw[u j q];intro v;have:=Q k d;have:=W j q k v;omega
   .rw[K]at X e;omega
 .have a1:B<=w.heap.size:=ς h.bB (Nat.le_of_lt h.blk.lt);exact(o.mono a1).trans ⟨i.os,i.tape,i.output,i.size,λk d=>i.block k (by have:=o.size;omega) (λv=>by have:=U k v;omega)⟩
