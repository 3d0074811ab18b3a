import Derived.Test.YtfmmllpjgkgeaaaGreatDoorPartS03
set_option linter.unusedVariables false
set_option linter.unusedSimpArgs false
set_option maxHeartbeats 16000000
set_option maxRecDepth 100000
namespace Go.Proofs.YtfmmllpjgkgeaaaGreatDoor
section
open Go.Proofs.Tryz Go.RowKit
structure LR where
 made:Nat
 lost:Nat
 kept:List Nat
 ak:Nat->Nat
structure LF where
 made:Nat
 lost:Nat
 had:Bool
 most:Nat
 al:List Nat
def updN{α : Type}(f:Nat->α)(k:Nat)(a:α)(i:Nat):α:=if i=k then a else f i
theorem updN_same{b:Type}(f:Nat->b)(k:Nat)(a:b):updN f k a k=a:=ώ rfl
theorem updN_oth{b:Type}(f:Nat->b){k i:Nat}(a:b)(h:i≠k):updN f k a i=f i:=ύ h
def LR.write(room:Nat)(r:LR):LR:=if room<r.kept.length+1 then⟨r.made+1,r.lost+1,(r.kept++[r.made+1]).tail,r.ak⟩ else⟨r.made+1,r.lost,r.kept++[r.made+1],r.ak⟩
def LR.ackd(r:LR)(j m:Nat):LR:=⟨r.made,r.lost,r.kept,updN r.ak j (max (r.ak j) m)⟩
def allAk(n i:Nat)(ak:Nat->Nat)(m:Nat):Bool:=(List.range n).all λj=>j==i||decide (m<=ak j)
def LR.tick(n i:Nat)(r:LR):LR:=⟨r.made,r.lost,r.kept.filter λm=>!allAk n i r.ak m,r.ak⟩
structure Sl extends St where
 room:Nat
 rs:Nat->LR
 ls:List LF
def st0(r room:Nat):Sl:=⟨⟨[],List.replicate r [],[]⟩,room,λ_=>⟨0,0,[],λ_=>0⟩,[]⟩
def goneN(a b:List Nat):Nat:=(a.filter λk=>!b.contains k).length
def bestTo(s:Sl)(i j:Nat):Nat->Nat
 | 0=>200+80*(aliveTo s.es (s.kn.getD i []) s.es.length).length
 | k+1=>match s.fs[k]?,s.ls[k]? with
  | some h,some x=>if h.ack=0/\h.src=i/\h.dst=j/\x.had=true/\x.lost=(s.rs i).lost then min (bestTo s i j k) (80+80*(cnt (s.kn.getD i [])-cnt h.known)+8*goneN x.al (aliveTo s.es (s.kn.getD i []) s.es.length))else bestTo s i j k
  | _,_=>bestTo s i j k
def newL(s:Sl)(i j:Nat):LF:=⟨(s.rs i).made,(s.rs i).lost,false,bestTo s i j s.fs.length,aliveTo s.es (s.kn.getD i []) s.es.length⟩
def SendL(s:Sl)(i j:Int)(s':Sl):Prop:=SendTo s.1 i j s'.1/\s'.room=s.room/\s'.rs=s.rs/\s'.ls=if(sendR s.1 i j).2=0 then s.ls++[newL s i.toNat j.toNat]else s.ls
def madeOf(ls:List LF)(k:Nat):Nat:=(ls[k]?.map LF.made).getD 0
def hadL(ls:List LF)(k:Nat):List LF:=ls.modify k λx=>⟨x.made,x.lost,true,x.most,x.al⟩
def DelL(s:Sl)(f:Int)(s':Sl):Prop :=
 DelTo s.1 f s'.1/\s'.room=s.room /\
 match frNo s.1 f with
 | none=>s'.rs=s.rs/\s'.ls=s.ls
 | some g=>if 0<g.ack then s'.rs=updN s.rs g.dst ((s.rs g.dst).ackd g.src (madeOf s.ls (g.ack-1)))/\s'.ls=hadL s.ls (g.ack-1)else if 500<=s.fs.length then s'.rs=s.rs/\s'.ls=s.ls else
  s'.rs=(if cnt (s.kn.getD g.dst [])<cnt (bothL (s.kn.getD g.dst []) g.known)then updN s.rs g.dst ((s.rs g.dst).write s.room)else s.rs)/\s'.ls=s.ls++[⟨0,0,false,80,[]⟩]
def DoL(s:Sl)(i:Int)(t:Thk.Bs)(r:Int)(s':Sl):Prop:=DoOut s.es s.kn i t r s'.es s'.kn/\s'.fs=s.fs/\s'.room=s.room/\s'.ls=s.ls/\s'.rs=if r=0 then updN s.rs i.toNat ((s.rs i.toNat).write s.room)else s.rs
def tickTo(s:Sl)(i:Int):Sl:=⟨s.1,s.room,if 0<=i/\i<s.kn.length then updN s.rs i.toNat ((s.rs i.toNat).tick s.kn.length i.toNat)else s.rs,s.ls⟩
def upR(kn:List (List Bool))(i:Int):Int:=if 0<=i/\i<kn.length then 0 else 2
def waitR(s:Sl)(i:Int):Int×Int:=if 0<=i/\i<s.kn.length then(((s.rs i.toNat).kept.length:Int),0) else(0,2)
def spoilR(s:St)(f b:Int):Int :=
 match frNo s f with
 | none=>9
 | some g=>if b<0\/8*(g.bytes.size:Int)<=b then 1 else 9
abbrev Stl:Type:=World->Nat->(Nat->Prop)->Sl->Prop
structure ProgL(F:Stl):Prop where
 bad:∀w(r room:Int),Glob w->(r<1\/6<r\/room<0\/50<room) ->
  Calls prog 40 #[.int .i64 r,.int .i64 room] w λe w'=>e=.returned (.tuple #[.pointer none,.int .i64 1])/\ϑ w w'
 good:∀w(r room:Nat),Glob w->1<=r->r<=6->room<=50 ->
  Calls prog 40 #[.int .i64 r,.int .i64 room] w λe w'=>∃x S,e=.returned (.tuple #[.pointer (some (z x)),.int .i64 0])/\F w' x S (st0 r room)/\(∀k,S k->w.heap.size<=k)/\ϑ w w'
 does:∀w x S s i t r s',Glob w->F w x S s->t.size<=1048576->DoL s i (toL t) r s' ->
  Calls prog 23 #[.pointer (some (z x)),.int .i64 i,.string t] w λe w'=>e=.returned (.int .i64 r)/\∃S',F w' x S' s'/\(∀k,S' k->S k\/w.heap.size<=k)/\Chg S w w'
 asks:∀w x S s i t,Glob w->F w x S s->t.size<=1048576 ->
  Calls prog 24 #[.pointer (some (z x)),.int .i64 i,.string t] w λe w'=>∃u,e=.returned (.tuple #[.string u,.int .i64 (askR s.es s.kn i (toL t)).2])/\toL u=(askR s.es s.kn i (toL t)).1/\∃S',F w' x S' s/\(∀k,S' k->S k\/w.heap.size<=k)/\Chg S w w'
 knows:∀w x S s i,Glob w->F w x S s ->
  Calls prog 22 #[.pointer (some (z x)),.int .i64 i] w λe w'=>e=.returned (.tuple #[.int .i64 (knowsR s.kn i).1,.int .i64 (knowsR s.kn i).2])/\∃S',F w' x S' s/\(∀k,S' k->S k\/w.heap.size<=k)/\Chg S w w'
 sends:∀w x S s i j,Glob w->F w x S s ->
  Calls prog 27 #[.pointer (some (z x)),.int .i64 i,.int .i64 j] w λe w'=>e=.returned (.tuple #[.int .i64 (sendR s.1 i j).1,.int .i64 (sendR s.1 i j).2])/\∃S' s',SendL s i j s'/\F w' x S' s'/\(∀k,S' k->S k\/w.heap.size<=k)/\Chg S w w'
 frame:∀w x S s f,Glob w->F w x S s ->
  Calls prog 28 #[.pointer (some (z x)),.int .i64 f] w λe w'=>e=.returned (.tuple #[.string (frameR s.1 f).1,.int .i64 (frameR s.1 f).2])/\∃S',F w' x S' s/\(∀k,S' k->S k\/w.heap.size<=k)/\Chg S w w'
 dels:∀w x S s f,Glob w->F w x S s ->
  Calls prog 31 #[.pointer (some (z x)),.int .i64 f] w λe w'=>e=.returned (.tuple #[.int .i64 (delR s.1 f).1,.int .i64 (delR s.1 f).2])/\∃S' s',DelL s f s'/\F w' x S' s'/\(∀k,S' k->S k\/w.heap.size<=k)/\Chg S w w'
 spoils:∀w x S s f b,Glob w->F w x S s ->
  Calls prog 30 #[.pointer (some (z x)),.int .i64 f,.int .i64 b] w λe w'=>e=.returned (.int .i64 (spoilR s.1 f b))/\∃S',F w' x S' s/\(∀k,S' k->S k\/w.heap.size<=k)/\Chg S w w'
 waits:∀w x S s i,Glob w->F w x S s ->
  Calls prog 37 #[.pointer (some (z x)),.int .i64 i] w λe w'=>e=.returned (.tuple #[.int .i64 (waitR s i).1,.int .i64 (waitR s i).2])/\∃S',F w' x S' s/\(∀k,S' k->S k\/w.heap.size<=k)/\Chg S w w'
 ticks:∀w x S s i,Glob w->F w x S s ->
  Calls prog 36 #[.pointer (some (z x)),.int .i64 i] w λe w'=>e=.returned (.int .i64 (upR s.kn i))/\∃S',F w' x S' (tickTo s i)/\(∀k,S' k->S k\/w.heap.size<=k)/\Chg S w w'
 fsz:∀w x S s f g,F w x S s->frNo s.1 f=some g->g.bytes.size<=1000000000/\∃x,s.ls[f.toNat-1]?=some x/\g.bytes.size<=x.most
 flen:∀w x S s,F w x S s->s.fs.length<=1000000
structure ProgFL(F:Stl):Prop where
 stable:∀{M:Nat->Prop}{w w':World}{x:Nat}{S:Nat->Prop}{s:Sl},F w x S s->Chg M w w'->(∀k,S k->¬M k)->F w' x S s
 tags:∀{w:World}{x:Nat}{S:Nat->Prop}{s:Sl}{k:Nat}{t:TypeId},F w x S s->S k->Tagged w k t->¬isRef t/\t≠4/\t≠159/\t≠63/\t≠116
 lt:∀{w:World}{x:Nat}{S:Nat->Prop}{s:Sl}{k:Nat},F w x S s->S k->k<w.heap.size
theorem ProgFL.below{F:Stl}(a:ProgFL F){w w':World}{x:Nat}{S:Nat->Prop}{s:Sl}(c:F w x S s)(b:ϑ w w'):F w' x S s:=a.stable c (Chg.of_below (M:=λ_=>False) b) (λ_ _ h=>h)
def natsI(l:List Nat):List Int:=l.map λ(n:Nat)=>(n:Int)
theorem natsI_len(l:List Nat):(ints (natsI l)).length=l.length:=by simp[ints,natsI]
def SliceI(I:Nat->Prop)(w:World)(v:Value)(l:List Nat):Prop:=SliceT 3 w v (ints (natsI l))/\∀b off n cap,v=.slice (some (O b off)) n cap->I b
structure Ld where
 I:Nat->Prop
 ls:Nat->LR
structure RepL(w:World)(rb off:Nat)(known:List Bool)(I:Nat->Prop)(L:LR):Prop where
 c0:∃kv,w.cell? (O rb off)=some kv/\SliceT 4 w kv (bools known)
 c1:w.cell? (O rb (off+1))=some (.bool false)
 c7:w.cell? (O rb (off+7))=some (.bool false)
 c9:w.cell? (O rb (off+9))=some (.int .i64 L.made)
 c10:∃kp,w.cell? (O rb (off+10))=some kp/\SliceI I w kp L.kept
 c12:w.cell? (O rb (off+12))=some (.int .i64 L.lost)
 z:RepZ w rb off
structure RefL(w:World)(c rb:Nat)(evv fv:Value)(av:Nat->Value)(room:Nat)(es:List Ev)(acc:Nat)(ld:Ld)(knowns:List (List Bool)):Prop where
 tc:Tagged w c 170
 trb:Tagged w rb 165
 room50:room<=50
 n6:knowns.length<=6
 n500:es.length<=500
 f0:w.cell? (z c)=some (.int .i64 room)
 f1:∃cap,w.cell? (O c 1)=some (.slice (some (z rb)) knowns.length cap)/\knowns.length<=cap
 f2:w.cell? (O c 2)=some evv
 f3:w.cell? (O c 3)=some (.int .i64 acc)
 a500:acc<=500
 m500:∀i,(ld.ls i).made<=1000/\(ld.ls i).lost<=1000/\(ld.ls i).kept.length<=50
 evs:∃svs:List Value,svs.length=es.length/\w.ownsRow 0 239 5 evv es.length (evCells es svs)/\∀j(h:j<svs.length)(h':j<es.length),SliceT 4 w svs[j] (bools es[j].saw)
 ok:∀e∈es,EvOk e
 reps:∀i(h:i<knowns.length),RepL w rb (i*13) knowns[i] ld.I (ld.ls i)
 kn:∀k∈knowns,k.length<=es.length
 f4:w.cell? (O c 4)=some fv
 a11:∀i,i<knowns.length->w.cell? (O rb (i*13+11))=some (av i)
 ib:∀b,ld.I b->Tagged w b 3
section
variable{M I I':Nat->Prop}{w w' w6:World}{v:Value}{l:List Nat}{rb off c:Nat}{known:List Bool}{L:LR}{evv evv' fv:Value}{av:Nat->Value}{room:Nat}{es:List Ev}{acc:Nat}{ld:Ld}{knowns:List (List Bool)}
theorem SliceI.chg(h:SliceI I w v l)(f:Chg M w w')(n:∀b,I b->¬M b)(k:∀b,I b->I' b):SliceI I' w' v l:=by
 refine⟨?_,λb off p a g=>k b (h.2 b off p a g)⟩;rcases h.1 with c|⟨b,off,a,c,i,d,j⟩
 .exact τ c
 .have e:=n b (h.2 b off _ a c);exact υ ⟨b,off,a,c,i,d.chg f e,λo m=>(η (w:=w) (f.block b d.lt e)).trans (j o m)⟩
theorem RepL.keep(m:RepL w rb off known I L)(c:Chg M w w')(o:∀b,Tagged w b 4->¬M b)(p:∀b,I b->¬M b)(n:∀b,I b->I' b)(a:∀i,i<13->w'.cell? (O rb (off+i))=w.cell? (O rb (off+i))):RepL w' rb off known I' L:=by obtain⟨⟨s,d,k⟩,e,h,j,⟨r,f,l⟩,g,q⟩:=m;exact⟨⟨s,(a 0 V).trans d,k.chg c o⟩,(a 1 V).trans e,(a 7 V).trans h,(a 9 V).trans j,⟨r,(a 10 V).trans f,l.chg c p n⟩,(a 12 V).trans g,q.of (λi t=>a i V)⟩
theorem RefL.chg(h:RefL w c rb evv fv av room es acc ld knowns)(a:Chg M w w')(f:¬M c)(j:¬M rb)(v:∀g,evv.ownBlock=some g->¬M g)(k:∀b,Tagged w b 4->¬M b)(l:∀b,ld.I b->¬M b):RefL w' c rb evv fv av room es acc ld knowns:=by have d:∀o,w'.cell? (O c o)=w.cell? (O c o):=λo=>η (w:=w) (a.block c h.tc.lt f);have n:∀o,w'.cell? (O rb o)=w.cell? (O rb o):=λo=>η (w:=w) (a.block rb h.trb.lt j);obtain⟨r,f1,x⟩:=h.f1;obtain⟨y,s,t,u⟩:=h.evs;exact⟨h.tc.chg a f,h.trb.chg a j,h.room50,h.n6,h.n500,(d 0).trans h.f0,⟨r,(d 1).trans f1,x⟩,(d 2).trans h.f2,(d 3).trans h.f3,h.a500,h.m500,⟨y,s,ownsRow_chg t a v,λp q b=>(u p q b).chg a k⟩,h.ok,λi e=>(h.reps i e).keep a k l (λ_ h=>h) (λp _=>n _),h.kn,(d 4).trans h.f4,λi e=>(n _).trans (h.a11 i e),λb m=>(h.ib b m).chg a (l b m)⟩
theorem RefL.below(h:RefL w c rb evv fv av room es acc ld knowns)(a:ϑ w w'):RefL w' c rb evv fv av room es acc ld knowns:=h.chg (M:=λ_=>False) (Chg.of_below a) id id (λ_ _ h=>h) (λ_ _ h=>h) (λ_ _ h=>h)
theorem RefL.evLt(h:RefL w c rb evv fv av room es acc ld knowns):∀g,evv.ownBlock=some g->g<w.heap.size/\Tagged w g 239:=by
 intro g a;obtain⟨m,j,b,k⟩:=h.evs;refine⟨(b.lt g a).2, ?_⟩;obtain⟨_,e|⟨l,i,d,rfl,_,f,_⟩⟩:=b
 .rw[e.1]at a;cases a
 .cases a;exact⟨d,f⟩
theorem RefL.tag(h:RefL w c rb evv fv av room es acc ld knowns){b:Nat}{t:TypeId}(i:Chg (· = b) w w')(a:Tagged w b t)(f:t≠170/\t≠165/\t≠239/\t≠4/\t≠3):RefL w' c rb evv fv av room es acc ld knowns :=
 h.chg i (λe=>a.ne h.tc f.1 e.symm) (λe=>a.ne h.trb f.2.1 e.symm) (λg d e=>a.ne (h.evLt g d).2 f.2.2.1 e.symm) (λg d e=>a.ne d f.2.2.2.1 e.symm) (λg d e=>a.ne (h.ib g d) f.2.2.2.2 e.symm)
theorem RefL.evsIn(q:RefL w c rb evv fv av room es acc ld knowns):EvsIn w.heap.size w evv es:=by
 obtain⟨b,s,k,t⟩:=q.evs;have d:=k;obtain⟨D,e|⟨g,n,u,rfl,x,y,r,B,C,v⟩⟩:=k
 .left;exact⟨e.1,List.eq_nil_of_length_eq_zero e.2⟩
 .right;refine⟨g,0,n,rfl,r,(d.lt g rfl).2,λj h=>?_⟩;obtain⟨l,m,c,o,p⟩:=evCells_get es b s j h V;have a:∀i,i<5->w.cell? (O g (0+j*5+i))=(evCells es b)[j*5+i]?:=λi A=>by rw[Nat.zero_add];exact d.cellAt (j*5+i) V
  have f:=a 0 V;simp only[Nat.add_zero]at f;exact⟨b[j]'V,f.trans l,(a 1 V).trans m,(a 2 V).trans c,(a 3 V).trans o,(a 4 V).trans p,(t j V h).toIn⟩
theorem RefL.own(h:RefL w c rb evv fv av room es acc ld knowns){evv' fv':Value}{es':List Ev}{g:Nat}(e:Chg (· = c) w w')(l:Tagged w' c 170)(D:es'.length<=500)(x:g<=500)(C:es.length<=es'.length)(q:w'.cell? (z c)=w.cell? (z c))(r:w'.cell? (O c 1)=w.cell? (O c 1))(s:w'.cell? (O c 2)=some evv')(u:w'.cell? (O c 3)=some (.int .i64 g))(v:w'.cell? (O c 4)=some fv')(A:∃f:List Value,f.length=es'.length/\w'.ownsRow 0 239 5 evv' es'.length (evCells es' f)/\∀j(h:j<f.length)(G:j<es'.length),SliceT 4 w' f[j] (bools es'[j].saw))(E:∀i∈es',EvOk i):RefL w' c rb evv' fv' av room es' g ld knowns:=by have d:∀{b:Nat}{t:TypeId},Tagged w b t->t≠170->¬b=c:=λa l i=>a.ne h.tc l i;have n:∀o,w'.cell? (O rb o)=w.cell? (O rb o):=λo=>η (w:=w) (e.block rb h.trb.lt (d h.trb Ψ));obtain⟨p,f1,y⟩:=h.f1;exact⟨l,h.trb.chg e (d h.trb Ψ),h.room50,h.n6,D,q.trans h.f0,⟨p,r.trans f1,y⟩,s,u,x,h.m500,A,E,λm k=>(h.reps m k).keep e (λb a=>d a Ψ) (λb a=>d (h.ib b a) Ψ) (λ_ h=>h) (λj _=>n _),λF B=>ς (h.kn F B) C,v,λm k=>(n _).trans (h.a11 m k),λb a=>(h.ib b a).chg e (d (h.ib b a) Ψ)⟩
theorem RefL.evs'(h:RefL w c rb evv fv av room es acc ld knowns)(d:Chg (· = c) w w'):∃a:List Value,a.length=es.length/\w'.ownsRow 0 239 5 evv es.length (evCells es a)/\∀j(h:j<a.length)(o:j<es.length),SliceT 4 w' a[j] (bools es[j].saw):=by obtain⟨a,g,i,k⟩:=h.evs;exact⟨a,g,ownsRow_chg i d (λl n e=>(h.evLt l n).2.ne h.tc Ψ e),λj f b=>(k j f b).chg d (λb m e=>m.ne h.tc Ψ e)⟩
theorem RefL.setF(h:RefL w c rb evv fv av room es acc ld knowns)(fv':Value):RefL (w.setCell (O c 4) fv') c rb evv fv' av room es acc ld knowns:=by have b:Chg (· = c) w (w.setCell (O c 4) fv'):=(Chg.refl (· = c) w).setCell (p:=(O c 4)) rfl _;have a:∀o,o≠4->(w.setCell (O c 4) fv').cell? (O c o)=w.cell? (O c o):=λo h=>cs_oth (υ (Ne.symm h));exact h.own b (h.tc.setCell _ _) h.n500 h.a500 (χ _) (a 0 Ψ) (a 1 Ψ) ((a 2 Ψ).trans h.f2) ((a 3 Ψ).trans h.f3) (cs_same h.f4) (h.evs' b) h.ok
theorem RefL.accept(h:RefL w c rb evv fv av room es acc ld knowns)(n:Nat)(d:n<=500):RefL (w.setCell (O c 3) (.int .i64 n)) c rb evv fv av room es n ld knowns:=by have b:Chg (· = c) w (w.setCell (O c 3) (.int .i64 n)):=(Chg.refl (· = c) w).setCell (p:=(O c 3)) rfl _;have a:∀o,o≠3->(w.setCell (O c 3) (.int .i64 n)).cell? (O c o)=w.cell? (O c o):=λo h=>cs_oth (υ (Ne.symm h));exact h.own b (h.tc.setCell _ _) h.n500 d (χ _) (a 0 Ψ) (a 1 Ψ) ((a 2 Ψ).trans h.f2) (cs_same h.f3) ((a 4 Ψ).trans h.f4) (h.evs' b) h.ok
theorem RefL.more(h:RefL w c rb evv fv av room es acc ld knowns)(a3:Chg (λx=>evv.ownBlock=some x) w w6)(e:Ev)(X:EvOk e)(sv:Value)(Z:SliceT 4 w sv (bools e.saw))(f:List Value)(K:f.length=es.length)(a0:∀j(h:j<f.length)(h':j<es.length),SliceT 4 w f[j] (bools es[j].saw))(W:es.length+1<=500)(G:w6.ownsRow 0 239 5 evv' (es.length+1) (evCells es f++[.string e.p,.int .u8 (e.a.toNat:Int),.string e.v,.int .i64 e.n,sv])):RefL (w6.setCell (O c 2) evv') c rb evv' fv av room (es++[e]) acc ld knowns:=by
 have u:∀{t:TypeId}{b:Nat},t≠239->Tagged w b t->¬evv.ownBlock=some b:=λht a S=>a.ne (h.evLt _ S).2 ht rfl;have B:=u Ψ h.tc;have C:=u Ψ h.trb;have D:∀o,w6.cell? (O c o)=w.cell? (O c o):=λo=>η (w:=w) (a3.block c h.tc.lt B);have H:∀o,w6.cell? (O rb o)=w.cell? (O rb o):=λo=>η (w:=w) (a3.block rb h.trb.lt C);have F:c≠rb:=h.tc.ne h.trb Ψ;have t6:Tagged w6 c 170:=h.tc.chg a3 B;have R:Chg (· = c) w6 (w6.setCell (O c 2) evv'):=(Chg.refl (· = c) w6).setCell (p:=(O c 2)) rfl _;have q:Chg (λx=>evv.ownBlock=some x\/x=c) w (w6.setCell (O c 2) evv'):=Chg.setCell (M:=λx=>evv.ownBlock=some x\/x=c) (p:=(O c 2)) (a3.mono (λ_ _ h=>τ h)) (υ rfl) _;have i:∀{t:TypeId}{b:Nat},t≠239->t≠170->Tagged w b t->¬(evv.ownBlock=some b\/b=c):=λd n a e=>e.elim (u d a) (a.ne h.tc n);have a4:∀o,o≠2->(w6.setCell (O c 2) evv').cell? (O c o)=w.cell? (O c o):=λo h=>(cs_oth (υ (Ne.symm h))).trans (D o);have A:∀v xs,SliceT 4 w v xs->SliceT 4 (w6.setCell (O c 2) evv') v xs:=λv xs Y=>Y.chg q (λb a=>i Ψ Ψ a);obtain⟨L,f1,Q⟩:=h.f1;refine⟨t6.setCell _ _,(h.trb.chg a3 C).setCell _ _,h.room50,h.n6,by simpa using W,(a4 0 Ψ).trans h.f0,⟨L,(a4 1 Ψ).trans f1,Q⟩,cs_same ((D 2).trans h.f2),(a4 3 Ψ).trans h.f3,h.a500,h.m500,⟨f++[sv],by simp[K], ?_,λj d n=>?_⟩,λx hx=>?_,
  λy s=>(h.reps y s).keep q (λb a=>i Ψ Ψ a) (λb a=>i Ψ Ψ (h.ib b a)) (λ_ h=>h) (λj _=>(cs_oth (τ F)).trans (H _)),λk U=>by have:=h.kn k U;simp;omega,(a4 4 Ψ).trans h.f4,λy s=>(cs_oth (τ F)).trans ((H _).trans (h.a11 y s)),λb a=>(h.ib b a).chg q (i Ψ Ψ (h.ib b a))⟩
 .rw[evCells_snoc es f K,ρ];refine ownsRow_chg G R λg r P=>?_;obtain⟨_,d|⟨g',a1,N,rfl,_,T,_⟩⟩:=G
  .rw[d.1]at r;cases r
  .cases r;exact(Tagged.ne ⟨N,T⟩ t6 Ψ) P
 .by_cases E:j<es.length
  .have l:(f++[sv])[j]=f[j]'V:=List.getElem_append_left V;have m:(es++[e])[j]=es[j]:=List.getElem_append_left E;rw[l,m];exact A _ _ (a0 j V E)
  .have a2:j=es.length:=by simp at n;omega
   have l:(f++[sv])[j]=sv:=by rw[List.getElem_append_right V];simp
   have m:(es++[e])[j]=e:=by rw[List.getElem_append_right V];simp
   rw[l,m];exact A _ _ Z
 .rcases θ.1 hx with d|d
  .exact h.ok x d
  .simp at d;rw[d];exact X
theorem RefL.updR(h:RefL w c rb evv fv av room es acc ld knowns)(g:Chg (· = rb) w w')(n:Tagged w' rb 165)(k:Nat)(Q:k<knowns.length)(o:List Bool)(H:o.length<=es.length)(B:∀b,ld.I b->I b)(C:∀b,I b->Tagged w' b 3)(K:RepL w' rb (k*13) o I L)(D:L.made<=1000/\L.lost<=1000/\L.kept.length<=50)(q:∀j,j≠k->∀i,i<13->w'.cell? (O rb (j*13+i))=w.cell? (O rb (j*13+i)))(y:w'.cell? (O rb (k*13+11))=w.cell? (O rb (k*13+11))):RefL w' c rb evv fv av room es acc ⟨I,updN ld.ls k L⟩ (knowns.set k o):=by
 have d:∀{b:Nat}{t:TypeId},Tagged w b t->t≠165->¬b=rb:=λa n e=>a.ne h.trb n e;have l:∀i,w'.cell? (O c i)=w.cell? (O c i):=λi=>η (w:=w) (g.block c h.tc.lt (d h.tc Ψ));obtain⟨r,f1,E⟩:=h.f1;obtain⟨N,s,u,v⟩:=h.evs;refine⟨h.tc.chg g (d h.tc Ψ),n,h.room50,by simpa using h.n6,h.n500,(l 0).trans h.f0,⟨r,by rw[l 1,f1];simp,by simpa using E⟩,(l 2).trans h.f2,(l 3).trans h.f3,h.a500,λi=>?_,⟨N,s,ownsRow_chg u g (λx F=>d (h.evLt x F).2 Ψ),λj f A=>(v j f A).chg g (λb a=>d a Ψ)⟩,h.ok,λi m=>?_,λP M=>?_,(l 4).trans h.f4,λi m=>?_,C⟩
 .show(updN ld.ls k L i).made<=_/\(updN ld.ls k L i).lost<=_/\(updN ld.ls k L i).kept.length<=_;by_cases e:i=k
  .subst e;rw[updN_same];exact D
  .rw[updN_oth _ _ e];exact h.m500 i
 .simp only[List.length_set]at m;by_cases e:i=k
  .subst e;rw[List.getElem_set_self];show RepL _ _ _ _ _ (updN _ _ _ _);rw[updN_same];exact K
  .rw[List.getElem_set_ne (λh=>e h.symm)];show RepL _ _ _ _ _ (updN _ _ _ _);rw[updN_oth _ _ e];exact(h.reps i m).keep g (λb a=>d a Ψ) (λb a=>d (h.ib b a) Ψ) B (λj G=>q i e j G)
 .rcases List.mem_or_eq_of_mem_set M with f|f
  .exact h.kn P f
  .rw[f];exact H
 .have p:i<knowns.length:=by simpa using m
  by_cases e:i=k
  .subst e;exact y.trans (h.a11 i p)
  .exact(q i e 11 V).trans (h.a11 i p)
theorem RefL.turn(h:RefL w c rb evv fv av room es acc ld knowns)(k:Nat)(r:k<knowns.length)(q:Value)(j:List Bool)(E:SliceT 4 w q (bools j))(D:j.length<=es.length)(l:Chg (· = rb) w w')(p:Tagged w' rb 165)(B:L.made<=1000/\L.lost<=1000/\L.kept.length<=50)(u:w'.cell? (O rb (k*13))=some q)(y:w'.cell? (O rb (k*13+9))=some (.int .i64 L.made))(i:Value)(v:w'.cell? (O rb (k*13+10))=some i)(s:SliceT 3 w' i (ints (natsI L.kept)))(x:w'.cell? (O rb (k*13+12))=some (.int .i64 L.lost))(f:∀o,o≠k*13->o≠k*13+9->o≠k*13+10->o≠k*13+12->w'.cell? (O rb o)=w.cell? (O rb o)):RefL w' c rb evv fv av room es acc ⟨λb=>ld.I b\/∃off n g,i=.slice (some (O b off)) n g,updN ld.ls k L⟩ (knowns.set k j):=by
 have m:=h.reps k r;have F:∀{b:Nat}{t:TypeId},Tagged w b t->t≠165->¬b=rb:=λa p e=>a.ne h.trb p e;refine h.updR l p k r j D (λb a=>τ a) (λb a=>?_) ⟨⟨q,u,E.chgT l h.trb Ψ⟩,(f _ V V V V).trans m.c1,(f _ V V V V).trans m.c7,y,⟨i,v,s,λb off n g e=>υ ⟨off,n,g,e⟩⟩,x,m.z.of (λG C=>f _ V V V V)⟩ B ?_ (f _ V V V V)
 .rcases a with a|⟨off,n,g,e⟩
  .exact(h.ib b a).chg l (F (h.ib b a) Ψ)
  .rcases s with⟨d,_⟩|⟨H,P,K,d,_,A,_⟩
   .rw[e]at d;cases d
   .rw[e]at d;cases d;exact A
 .intro N M G C;exact f _ V V V V
end
theorem UpL_any(w:World)(c rb:Nat)(evv fv:Value)(av:Nat->Value)(room:Nat)(es:List Ev)(acc:Nat)(ld:Ld)(knowns:List (List Bool))(h:RefL w c rb evv fv av room es acc ld knowns)(i:Int):Calls prog 109 #[.pointer (some (z c)),.int .i64 i] w λe w'=>e=.returned (.int .i64 (upR knowns i))/\w'=w:=by
 obtain⟨b,f1,g⟩:=h.f1;have f:=h.n6;unfold upR;by_cases d:i<0
 .rw[ύ V];go_enter func109,ntmps109;go_wp2;go_ret;exact⟨rfl,rfl⟩
 .obtain⟨k,rfl⟩:=Int.eq_ofNat_of_zero_le (V:0<=i);by_cases a:k<knowns.length
  .have j:=(h.reps k a).c1;rw[ώ V];go_enter func109,ntmps109;go_wp2;go_ret;exact⟨rfl,rfl⟩
  .rw[ύ V];go_enter func109,ntmps109;go_wp2;go_ret;exact⟨rfl,rfl⟩
