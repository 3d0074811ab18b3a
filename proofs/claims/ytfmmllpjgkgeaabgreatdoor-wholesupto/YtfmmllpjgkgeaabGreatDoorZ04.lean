import Derived.Test.YtfmmllpjgkgeaabGreatDoorZ03
set_option linter.all false
set_option maxHeartbeats 0
set_option maxRecDepth 100000
namespace Go.Proofs.YtfmmllpjgkgeaabGreatDoor
section
open Go.Proofs.Tryz Go.RowKit
variable{k off rb:Nat}{w w':World}
structure Dn where
 xQ:List Bool
 own:Bool
 kV:Nat
 most:Nat
structure LR where
 made:Nat
 lost:Nat
 kept:List Nat
 ak:Nat->Nat
 arm:Option Nat
 dn:Option Dn
structure LF where
 made:Nat
 lost:Nat
 had:Bool
 most:Nat
 al:List Nat
def aX{α : Type}(f:Nat->α)(k:Nat)(a:α)(i:Nat):α:=if i=k then a else f i
def aN{b:Type}(f:Nat->b)(k:Nat)(a:b):aX f k a k=a:=ώ rfl
def aS{b:Type}(f:Nat->b){i:Nat}(a:b)(h:i≠k):aX f k a i=f i:=ύ h
def LR.write(room:Nat)(r:LR):LR:=if room<r.kept.length+1 then⟨r.made+1,r.lost+1,(r.kept++[r.made+1]).tail,r.ak,r.arm,r.dn⟩ else⟨r.made+1,r.lost,r.kept++[r.made+1],r.ak,r.arm,r.dn⟩
def LR.Sm(r:LR)(j m:Nat):LR:=⟨r.made,r.lost,r.kept,aX r.ak j (max (r.ak j) m),r.arm,r.dn⟩
def FZ(n i:Nat)(ak:Nat->Nat)(m:Nat):Bool:=(List.range n).all λj=>j==i||decide (m<=ak j)
def LR.tick(n i:Nat)(r:LR):LR:=⟨r.made,r.lost,r.kept.filter λm=>!FZ n i r.ak m,r.ak,r.arm,r.dn⟩
def LR.lose(r:LR):LR:=⟨r.made,r.lost+1,[],λ_=>0,r.arm,r.dn⟩
def LR.Ba(r:LR)(d:Dn):LR:=⟨r.made,r.lost+1,r.kept,r.ak,none,some d⟩
def LR.wake(r:LR)(b:Bool):LR:=LR.lose ⟨if b then r.made+1 else r.made,r.lost,r.kept,r.ak,r.arm,none⟩
structure Sl extends St where
 room:Nat
 rs:Nat->LR
 ls:List LF
 acc:Nat
def st0(r room:Nat):Sl:=⟨⟨[],List.replicate r [],[]⟩,room,λ_=>⟨0,0,[],λ_=>0,none,none⟩,[],0⟩
def iQ(s:Sl)(i:Int):Int:=if 0<=i/\i<s.kn.length then(if(s.rs i.toNat).dn.isSome then 3 else 0)else 2
def oU(a b:List Nat):Nat:=(a.filter λk=>!b.contains k).length
def rF(s:Sl)(i j:Nat):Nat->Nat
 | 0=>200+80*(aH s.es (s.kn.getD i []) s.es.length).length
 | k+1=>match s.fs[k]?,s.ls[k]? with
  | some h,some x=>if h.ack=0/\h.src=i/\h.dst=j/\x.had=true/\x.lost=(s.rs i).lost then min (rF s i j k) (80+80*(cnt (s.kn.getD i [])-cnt h.known)+8*oU x.al (aH s.es (s.kn.getD i []) s.es.length))else rF s i j k
  | _,_=>rF s i j k
def newL(s:Sl)(i j:Nat):LF:=⟨(s.rs i).made,(s.rs i).lost,false,rF s i j s.fs.length,aH s.es (s.kn.getD i []) s.es.length⟩
def iq(s:Sl)(i:Int):Int×Int:=if iQ s i=0 then((cnt (s.kn.getD i.toNat []):Int),0) else(0,iQ s i)
def pR(s:Sl)(i:Int)(p:Thk.Bs):Thk.Bs×Int:=if iQ s i=0 then EZ s.es s.kn i p else([],iQ s i)
def rG(s:Sl)(i:Int):Int×Int:=if iQ s i=0 then(((s.rs i.toNat).kept.length:Int),0) else(0,iQ s i)
def iC(s:Sl)(i j:Int):Int×Int:=if iQ s i=0 then(if iQ s j=0 then(if i=j then(0,1)else if 500<=s.fs.length then(0,7) else((s.fs.length:Int)+1,0)) else(0,iQ s j)) else(0,iQ s i)
def rH(s:Sl)(i j:Int)(s':Sl):Prop:=if(iC s i j).2=0 then ∃b,s'=⟨⟨s.es,s.kn,s.fs++[⟨i.toNat,j.toNat,0,s.kn.getD i.toNat [],b⟩]⟩,s.room,s.rs,s.ls++[newL s i.toNat j.toNat],s.acc⟩else s'=s
def madeOf(ls:List LF)(k:Nat):Nat:=(ls[k]?.map LF.made).getD 0
def Cb(ls:List LF)(k:Nat):List LF:=ls.modify k λx=>⟨x.made,x.lost,true,x.most,x.al⟩
def E5(es:List Ev)(more:List Bool)(own:Bool)(b:Nat):Dn:=⟨more,own,b,200+80*(aH es more es.length).length⟩
def jQ(s:Sl)(g:lH):Bool:=decide (cnt (s.kn.getD g.dst [])<cnt (bH (s.kn.getD g.dst []) g.known))
def delS(s:Sl)(f:Int):Int×Int :=
 match iF s.1 f with
 | none=>(0,9)
 | some g=>if(s.rs g.dst).dn.isSome then(0,3)else if 0<g.ack then(0,0)else if 500<=s.fs.length then(0,7)else if jQ s g&&(s.rs g.dst).arm.isSome then(0,8) else((s.fs.length:Int)+1,0)
def J9(s:Sl)(f:Int)(s':Sl):Prop :=
 match iF s.1 f with
 | none=>s'=s
 | some g=>if(s.rs g.dst).dn.isSome then s'=s else if 0<g.ack then s'=⟨s.1,s.room,aX s.rs g.dst ((s.rs g.dst).Sm g.src (madeOf s.ls (g.ack-1))),Cb s.ls (g.ack-1),s.acc⟩else if 500<=s.fs.length then s'=s else
  match jQ s g,(s.rs g.dst).arm with
  | true,some b=>s'=⟨s.1,s.room,aX s.rs g.dst ((s.rs g.dst).Ba (E5 s.es (bH (s.kn.getD g.dst []) g.known) false b)),s.ls,s.acc⟩
  | true,none=>∃b,s'=⟨⟨s.es,s.kn.set g.dst (bH (s.kn.getD g.dst []) g.known),s.fs++[⟨g.dst,g.src,f.toNat,[],b⟩]⟩,s.room,aX s.rs g.dst ((s.rs g.dst).write s.room),s.ls++[⟨0,0,false,80,[]⟩],s.acc⟩
  | false,_=>∃b,s'=⟨⟨s.es,s.kn,s.fs++[⟨g.dst,g.src,f.toNat,[],b⟩]⟩,s.room,s.rs,s.ls++[⟨0,0,false,80,[]⟩],s.acc⟩
def Y4(c:Thk.Ch)(zW:List Bool)(e:Ev):Prop:=ay e.p=c.path/\e.a=c.act/\ay e.v=c.val/\e.n=c.n/\e.zW=zW
def Oj(s:Sl)(i:Int)(t:Thk.Bs)(r:Int)(s':Sl):Prop :=
 (iQ s i≠0/\r=iQ s i/\s'=s)\/(∃k:Nat,iQ s i=0/\Thk.read t=.inl k/\r=(k:Int)/\s'=s)\/(∃c,iQ s i=0/\Thk.read t=.inr c/\500<=s.acc/\r=7/\s'=s) \/
 ∃c e,iQ s i=0/\Thk.read t=.inr c/\s.acc<500/\Y4 c (s.kn.getD i.toNat []) e /\
  match (s.rs i.toNat).arm with
  | none=>r=0/\s'=⟨⟨s.es++[e],s.kn.set i.toNat (dw (s.kn.getD i.toNat []) s.es.length),s.fs⟩,s.room,aX s.rs i.toNat ((s.rs i.toNat).write s.room),s.ls,s.acc+1⟩
  | some b=>r=8/\s'=⟨⟨s.es++[e],s.kn,s.fs⟩,s.room,aX s.rs i.toNat ((s.rs i.toNat).Ba (E5 (s.es++[e]) (dw (s.kn.getD i.toNat []) s.es.length) true b)),s.ls,s.acc⟩
def atR(s:Sl)(i:Int)(L:LR):Sl:=⟨s.1,s.room,aX s.rs i.toNat L,s.ls,s.acc⟩
def wH(s:Sl)(i:Int):Sl:=if iQ s i=0 then atR s i ((s.rs i.toNat).tick s.kn.length i.toNat)else s
def pU(s:Sl)(i:Int):Sl:=if iQ s i=0 then atR s i (s.rs i.toNat).lose else s
def vO(s:Sl)(i b:Int):Int:=if iQ s i=0 then(if b<0 then 1 else 0)else iQ s i
def rJ(s:Sl)(i b:Int):Sl:=if vO s i b=0 then atR s i ⟨(s.rs i.toNat).made,(s.rs i.toNat).lost,(s.rs i.toNat).kept,(s.rs i.toNat).ak,some b.toNat,(s.rs i.toNat).dn⟩else s
def xR(s:Sl)(i:Int):Int:=if iQ s i=3 then 0 else if iQ s i=0 then 10 else 2
def vP(s:Sl)(i:Int)(s':Sl):Prop :=
 if iQ s i=3 then ∀d,(s.rs i.toNat).dn=some d->∃b:Bool,(d.kV=0->b=false)/\(d.most<=d.kV->b=true) /\
  s'=⟨⟨s.es,if b then s.kn.set i.toNat d.xQ else s.kn,s.fs⟩,s.room,aX s.rs i.toNat ((s.rs i.toNat).wake b),s.ls,if b&&d.own then s.acc+1 else s.acc⟩
 else s'=s
def kW(s:Sl)(f b:Int):Int :=
 match iF s.1 f with
 | none=>9
 | some g=>if b<0\/8*(g.bytes.size:Int)<=b then 1 else if(s.rs g.dst).dn.isSome then 3 else 9
abbrev vS:Type:=World->Nat->(Nat->Prop)->Sl->Prop
structure kF(F:vS):Prop where
 bad:∀w(r room:Int),Glob w->(r<1\/6<r\/room<0\/50<room) ->
  Calls prog 10 #[I r,I room] w λe w'=>e=.returned (.tuple #[.pointer none,I 1])/\ϒ w w'
 good:∀w(r room:Nat),Glob w->1<=r->r<=6->room<=50 ->
  Calls prog 10 #[I r,I room] w λe w'=>∃x S,e=.returned (.tuple #[.pointer (some (z x)),I 0])/\F w' x S (st0 r room)/\(∀k,S k->w.heap.size<=k)/\ϒ w w'
 does:∀w x S s i t r s',Glob w->F w x S s->t.size<=1048576->Oj s i (ay t) r s' ->
  Calls prog 11 #[.pointer (some (z x)),I i,.string t] w λe w'=>e=.returned (I r)/\∃S',F w' x S' s'/\(∀k,S' k->S k\/w.heap.size<=k)/\aA S w w'
 asks:∀w x S s i t,Glob w->F w x S s->t.size<=1048576 ->
  Calls prog 12 #[.pointer (some (z x)),I i,.string t] w λe w'=>∃u,e=.returned (.tuple #[.string u,I (pR s i (ay t)).2])/\ay u=(pR s i (ay t)).1/\∃S',F w' x S' s/\(∀k,S' k->S k\/w.heap.size<=k)/\aA S w w'
 knows:∀w x S s i,Glob w->F w x S s ->
  Calls prog 13 #[.pointer (some (z x)),I i] w λe w'=>e=.returned (.tuple #[I (iq s i).1,I (iq s i).2])/\∃S',F w' x S' s/\(∀k,S' k->S k\/w.heap.size<=k)/\aA S w w'
 sends:∀w x S s i j,Glob w->F w x S s ->
  Calls prog 14 #[.pointer (some (z x)),I i,I j] w λe w'=>e=.returned (.tuple #[I (iC s i j).1,I (iC s i j).2])/\∃S' s',rH s i j s'/\F w' x S' s'/\(∀k,S' k->S k\/w.heap.size<=k)/\aA S w w'
 frame:∀w x S s f,Glob w->F w x S s ->
  Calls prog 45 #[.pointer (some (z x)),I f] w λe w'=>e=.returned (.tuple #[.string (fH s.1 f).1,I (fH s.1 f).2])/\∃S',F w' x S' s/\(∀k,S' k->S k\/w.heap.size<=k)/\aA S w w'
 Ko:∀w x S s f,Glob w->F w x S s ->
  Calls prog 15 #[.pointer (some (z x)),I f] w λe w'=>e=.returned (.tuple #[I (delS s f).1,I (delS s f).2])/\∃S' s',J9 s f s'/\F w' x S' s'/\(∀k,S' k->S k\/w.heap.size<=k)/\aA S w w'
 Cc:∀w x S s f b,Glob w->F w x S s ->
  Calls prog 49 #[.pointer (some (z x)),I f,I b] w λe w'=>e=.returned (I (kW s f b))/\∃S',F w' x S' s/\(∀k,S' k->S k\/w.heap.size<=k)/\aA S w w'
 waits:∀w x S s i,Glob w->F w x S s ->
  Calls prog 26 #[.pointer (some (z x)),I i] w λe w'=>e=.returned (.tuple #[I (rG s i).1,I (rG s i).2])/\∃S',F w' x S' s/\(∀k,S' k->S k\/w.heap.size<=k)/\aA S w w'
 ticks:∀w x S s i,Glob w->F w x S s ->
  Calls prog 52 #[.pointer (some (z x)),I i] w λe w'=>e=.returned (I (iQ s i))/\∃S',F w' x S' (wH s i)/\(∀k,S' k->S k\/w.heap.size<=k)/\aA S w w'
 crashes:∀w x S s i,Glob w->F w x S s ->
  Calls prog 54 #[.pointer (some (z x)),I i] w λe w'=>e=.returned (I (iQ s i))/\∃S',F w' x S' (pU s i)/\(∀k,S' k->S k\/w.heap.size<=k)/\aA S w w'
 tears:∀w x S s i b,Glob w->F w x S s ->
  Calls prog 56 #[.pointer (some (z x)),I i,I b] w λe w'=>e=.returned (I (vO s i b))/\∃S',F w' x S' (rJ s i b)/\(∀k,S' k->S k\/w.heap.size<=k)/\aA S w w'
 wakes:∀w x S s i,Glob w->(∀k,S k->4<=k)->F w x S s ->
  Calls prog 58 #[.pointer (some (z x)),I i] w λe w'=>e=.returned (I (xR s i))/\∃S' s',vP s i s'/\F w' x S' s'/\(∀k,S' k->S k\/w.heap.size<=k)/\aA S w w'
 dlt:∀w x S s i d,F w x S s->i<s.kn.length->(s.rs i).dn=some d->cnt (s.kn.getD i [])<cnt d.xQ
 fsz:∀w x S s f g,F w x S s->iF s.1 f=some g->g.bytes.size<=1000000000/\∃x,s.ls[f.toNat-1]?=some x/\g.bytes.size<=x.most
 al6:∀w x S s,F w x S s->s.fs.length<=1000000
structure bT(F:vS):Prop where
 stable:∀{M:Nat->Prop}{w w':World}{x:Nat}{S:Nat->Prop}{s:Sl},F w x S s->aA M w w'->(∀k,S k->¬M k)->F w' x S s
 tags:∀{w:World}{x:Nat}{S:Nat->Prop}{s:Sl}{k:Nat}{t:TypeId},F w x S s->S k->Tagged w k t->¬isRef t/\t≠4/\t≠42/\t≠29/\t≠33
 lt:∀{w:World}{x:Nat}{S:Nat->Prop}{s:Sl}{k:Nat},F w x S s->S k->k<w.heap.size
def bT.below{F:vS}(a:bT F){x:Nat}{S:Nat->Prop}{s:Sl}(c:F w x S s)(b:ϒ w w'):F w' x S s:=a.stable c (aA.of_below (M:=λ_=>False) b) (λ_ _ h=>h)
def bW(l:List Nat):List Int:=l.map λ(n:Nat)=>(n:Int)
def jX(l:List Nat):(ints (bW l)).length=l.length:=by simp[ints,bW]
def wI(I:Nat->Prop)(w:World)(v:Value)(l:List Nat):Prop:=aI 3 w v (ints (bW l))/\∀b off n cap,v=.slice (some (O b off)) n cap->I b
structure Ld where
 I:Nat->Prop
 ls:Nat->LR
structure Y5(w:World)(rb off:Nat):Prop where
 c2:∃o n c,w.cell? (O rb (off+2))=some (.slice o n c)
 c3:∃o n c,w.cell? (O rb (off+3))=some (.slice o n c)
 c4:∃b,w.cell? (O rb (off+4))=some (.bool b)
 c5:∃i,w.cell? (O rb (off+5))=some (I i)
 c6:∃i,w.cell? (O rb (off+6))=some (I i)
 c8:∃i,w.cell? (O rb (off+8))=some (I i)
def Y5.of(h:Y5 w rb off)(a:∀i,i=2\/i=3\/i=4\/i=5\/i=6\/i=8->w'.cell? (O rb (off+i))=w.cell? (O rb (off+i))):Y5 w' rb off:=by obtain⟨⟨r,p,c,e⟩,⟨s,q,d,f⟩,⟨b,g⟩,⟨m,j⟩,⟨n,k⟩,⟨o,l⟩⟩:=h;exact⟨⟨r,p,c,(a 2 Ω).trans e⟩,⟨s,q,d,(a 3 Ω).trans f⟩,⟨b,(a 4 Ω).trans g⟩,⟨m,(a 5 Ω).trans j⟩,⟨n,(a 6 Ω).trans k⟩,⟨o,(a 8 Ω).trans l⟩⟩
structure aw9(w:World)(rb off:Nat)(known:List Bool)(d:Dn):Prop where
 c2:∃v,w.cell? (O rb (off+2))=some v/\aI 4 w v (bools known)
 c3:∃v,w.cell? (O rb (off+3))=some v/\aI 4 w v (bools d.xQ)
 c4:w.cell? (O rb (off+4))=some (.bool d.own)
 c5:w.cell? (O rb (off+5))=some (I d.kV)
 c6:w.cell? (O rb (off+6))=some (I d.most)
structure Ip(w:World)(rb off:Nat)(known:List Bool)(I:Nat->Prop)(L:LR):Prop where
 c0:∃kv,w.cell? (O rb off)=some kv/\aI 4 w kv (bools known)
 c1:w.cell? (O rb (off+1))=some (.bool L.dn.isSome)
 c7:w.cell? (O rb (off+7))=some (.bool L.arm.isSome)
 c9:w.cell? (O rb (off+9))=some (.int .i64 L.made)
 c10:∃kp,w.cell? (O rb (off+10))=some kp/\wI I w kp L.kept
 c12:w.cell? (O rb (off+12))=some (.int .i64 L.lost)
 z:Y5 w rb off
 c8:∀b,L.arm=some b->w.cell? (O rb (off+8))=some (.int .i64 b)
 dn:∀d,L.dn=some d->aw9 w rb off known d
structure bD(w:World)(c rb:Nat)(aY fv:Value)(av:Nat->Value)(room:Nat)(es:List Ev)(acc:Nat)(ld:Ld)(ah:List (List Bool)):Prop where
 tc:Tagged w c 38
 jr:Tagged w rb 64
 pV:room<=50
 n6:ah.length<=6
 oH:es.length<=1048576
 f0:w.cell? (z c)=some (I room)
 f1:∃cap,w.cell? (O c 1)=some (.slice (some (z rb)) ah.length cap)/\ah.length<=cap
 f2:w.cell? (O c 2)=some aY
 f3:w.cell? (O c 3)=some (I acc)
 Ol:acc<=1048576
 wJ:∀i,(ld.ls i).made<=1048576/\(ld.ls i).lost<=1048576/\(ld.ls i).kept.length<=50
 evs:∃jP:List Value,jP.length=es.length/\w.ownsRow 0 124 5 aY es.length (fA es jP)/\∀j(h:j<jP.length)(h':j<es.length),aI 4 w jP[j] (bools es[j].zW)
 ok:∀e∈es,RV e
 kX:∀i(h:i<ah.length),Ip w rb (i*13) ah[i] ld.I (ld.ls i)
 kn:∀k∈ah,k.length<=es.length
 f4:w.cell? (O c 4)=some fv
 a11:∀i,i<ah.length->w.cell? (O rb (i*13+11))=some (av i)
 ib:∀b,ld.I b->Tagged w b 3
 dl:∀i d,(ld.ls i).dn=some d->d.xQ.length<=es.length
section
variable{M I I':Nat->Prop}{w w' w6:World}{v:Value}{l:List Nat}{rb off c:Nat}{known:List Bool}{L:LR}{aY jR fv:Value}{av:Nat->Value}{room:Nat}{es:List Ev}{acc:Nat}{ld:Ld}{ah:List (List Bool)}
def wI.aJ(h:wI I w v l)(f:aA M w w')(n:∀b,I b->¬M b)(k:∀b,I b->I' b):wI I' w' v l:=by
 refine⟨?_,λb off p a g=>k b (h.2 b off p a g)⟩;rcases h.1 with c|⟨b,off,a,c,i,d,j⟩
 .exact τ c
 .have e:=n b (h.2 b off _ a c);exact υ ⟨b,off,a,c,i,d.aJ f e,λo m=>(η (w:=w) (f.block b d.lt e)).trans (j o m)⟩
def Ip.keep(t:Ip w rb off known I L)(c:aA M w w')(d:∀b,Tagged w b 4->¬M b)(B:∀b,I b->¬M b)(v:∀b,I b->I' b)(a:∀i,i<13->w'.cell? (O rb (off+i))=w.cell? (O rb (off+i))):Ip w' rb off known I' L:=by obtain⟨⟨E,e,l⟩,f,j,k,⟨D,g,m⟩,h,C,u,y⟩:=t;refine⟨⟨E,(a 0 V).trans e,l.aJ c d⟩,(a 1 V).trans f,(a 7 V).trans j,(a 9 V).trans k,⟨D,(a 10 V).trans g,m.aJ c B v⟩,(a 12 V).trans h,C.of (λi N=>a i V),λb x=>(a 8 V).trans (u b x),λn A=>?_⟩;obtain⟨⟨H,o,F⟩,⟨K,p,G⟩,q,r,s⟩:=y n A;exact⟨⟨H,(a 2 V).trans o,F.aJ c d⟩,⟨K,(a 3 V).trans p,G.aJ c d⟩,(a 4 V).trans q,(a 5 V).trans r,(a 6 V).trans s⟩
def bD.aJ(h:bD w c rb aY fv av room es acc ld ah)(a:aA M w w')(f:¬M c)(j:¬M rb)(v:∀g,aY.ownBlock=some g->¬M g)(k:∀b,Tagged w b 4->¬M b)(l:∀b,ld.I b->¬M b):bD w' c rb aY fv av room es acc ld ah:=by have d:∀o,w'.cell? (O c o)=w.cell? (O c o):=λo=>η (w:=w) (a.block c h.tc.lt f);have n:∀o,w'.cell? (O rb o)=w.cell? (O rb o):=λo=>η (w:=w) (a.block rb h.jr.lt j);obtain⟨r,f1,x⟩:=h.f1;obtain⟨y,s,t,u⟩:=h.evs;exact⟨h.tc.aJ a f,h.jr.aJ a j,h.pV,h.n6,h.oH,(d 0).trans h.f0,⟨r,(d 1).trans f1,x⟩,(d 2).trans h.f2,(d 3).trans h.f3,h.Ol,h.wJ,⟨y,s,bG t a v,λp q b=>(u p q b).aJ a k⟩,h.ok,λi e=>(h.kX i e).keep a k l (λ_ h=>h) (λp _=>n _),h.kn,(d 4).trans h.f4,λi e=>(n _).trans (h.a11 i e),λb m=>(h.ib b m).aJ a (l b m),h.dl⟩
def bD.below(h:bD w c rb aY fv av room es acc ld ah)(a:ϒ w w'):bD w' c rb aY fv av room es acc ld ah:=h.aJ (M:=λ_=>False) (aA.of_below a) id id (λ_ _ h=>h) (λ_ _ h=>h) (λ_ _ h=>h)
def bD.zi(h:bD w c rb aY fv av room es acc ld ah):∀g,aY.ownBlock=some g->g<w.heap.size/\Tagged w g 124:=by
 intro g a;obtain⟨m,j,b,k⟩:=h.evs;refine⟨(b.lt g a).2, ?_⟩;obtain⟨_,e|⟨l,i,d,rfl,_,f,_⟩⟩:=b
 .rw[e.1]at a;cases a
 .cases a;exact⟨d,f⟩
def bD.tag(h:bD w c rb aY fv av room es acc ld ah){b:Nat}{t:TypeId}(i:aA (· = b) w w')(a:Tagged w b t)(f:t≠38/\t≠64/\t≠124/\t≠4/\t≠3):bD w' c rb aY fv av room es acc ld ah :=
 h.aJ i (λe=>a.ne h.tc f.1 e.symm) (λe=>a.ne h.jr f.2.1 e.symm) (λg d e=>a.ne (h.zi g d).2 f.2.2.1 e.symm) (λg d e=>a.ne d f.2.2.2.1 e.symm) (λg d e=>a.ne (h.ib g d) f.2.2.2.2 e.symm)
def Kq(h:∃a:List Value,a.length=es.length/\w.ownsRow 0 124 5 aY es.length (fA es a)/\∀j(h:j<a.length)(v:j<es.length),aI 4 w a[j] (bools es[j].zW)):qZ w.heap.size w aY es:=by
 obtain⟨a,s,l,t⟩:=h;have d:=l;obtain⟨E,e|⟨g,o,u,rfl,y,A,r,C,D,x⟩⟩:=l
 .left;exact⟨e.1,ϑr e.2⟩
 .right;refine⟨g,0,o,rfl,r,(d.lt g rfl).2,λj k=>?_⟩;obtain⟨m,n,c,p,q⟩:=J3 es a s j k V;have b:∀i,i<5->w.cell? (O g (0+j*5+i))=(fA es a)[j*5+i]?:=λi B=>by rw[Nat.zero_add];exact d.cellAt (j*5+i) V
  have f:=b 0 V;simp only[Nat.add_zero]at f;exact⟨a[j]'V,f.trans m,(b 1 V).trans n,(b 2 V).trans c,(b 3 V).trans p,(b 4 V).trans q,(t j V k).A8⟩
def bD.VO(h:bD w c rb aY fv av room es acc ld ah):qZ w.heap.size w aY es:=Kq h.evs
def bD.ae9(h:bD w c rb aY fv av room es acc ld ah)(d:aA M w w')(l:∀g,aY.ownBlock=some g->¬M g)(m:∀b,Tagged w b 4->¬M b):∃a:List Value,a.length=es.length/\w'.ownsRow 0 124 5 aY es.length (fA es a)/\∀j(h:j<a.length)(n:j<es.length),aI 4 w' a[j] (bools es[j].zW):=by obtain⟨a,f,i,k⟩:=h.evs;exact⟨a,f,bG i d l,λj e b=>(k j e b).aJ d m⟩
def bD.own(h:bD w c rb aY fv av room es acc ld ah){jR eX:Value}{es':List Ev}{g:Nat}(e:aA (· = c) w w')(n:Tagged w' c 38)(G:es'.length<=1048576)(B:g<=1048576)(p:es.length<=es'.length)(u:w'.cell? (z c)=w.cell? (z c))(v:w'.cell? (O c 1)=w.cell? (O c 1))(x:w'.cell? (O c 2)=some jR)(y:w'.cell? (O c 3)=some (.int .i64 g))(A:w'.cell? (O c 4)=some eX)(E:∃f:List Value,f.length=es'.length/\w'.ownsRow 0 124 5 jR es'.length (fA es' f)/\∀j(h:j<f.length)(K:j<es'.length),aI 4 w' f[j] (bools es'[j].zW))(H:∀l∈es',RV l):bD w' c rb jR eX av room es' g ld ah:=by have d:∀{b:Nat}{t:TypeId},Tagged w b t->t≠38->¬b=c:=λa n l=>a.ne h.tc n l;have q:∀o,w'.cell? (O rb o)=w.cell? (O rb o):=λo=>η (w:=w) (e.block rb h.jr.lt (d h.jr Ψ));obtain⟨r,f1,C⟩:=h.f1;exact⟨n,h.jr.aJ e (d h.jr Ψ),h.pV,h.n6,G,u.trans h.f0,⟨r,v.trans f1,C⟩,x,y,B,h.wJ,E,H,λi m=>(h.kX i m).keep e (λb a=>d a Ψ) (λb a=>d (h.ib b a) Ψ) (λ_ h=>h) (λj _=>q _),λk F=>ς (h.kn k F) p,A,λi m=>(q _).trans (h.a11 i m),λb a=>(h.ib b a).aJ e (d (h.ib b a) Ψ),λi s D=>ς (h.dl i s D) p⟩
def bD.ax0(h:bD w c rb aY fv av room es acc ld ah)(eX:Value):bD (w.setCell (O c 4) eX) c rb aY eX av room es acc ld ah:=by have b:aA (· = c) w (w.setCell (O c 4) eX):=(aA.refl (· = c) w).setCell (p:=(O c 4)) rfl _;have a:∀o,o≠4->(w.setCell (O c 4) eX).cell? (O c o)=w.cell? (O c o):=λo h=>aT (υ (Ne.symm h));exact h.own b (h.tc.setCell _ _) h.oH h.Ol (χ _) (a 0 Ψ) (a 1 Ψ) ((a 2 Ψ).trans h.f2) ((a 3 Ψ).trans h.f3) (bV h.f4) (h.ae9 b (λg f e=>(h.zi g f).2.ne h.tc Ψ e) (λi d e=>d.ne h.tc Ψ e)) h.ok
def bD.accept(h:bD w c rb aY fv av room es acc ld ah)(n:Nat)(i:n<=1048576):bD (w.setCell (O c 3) (.int .i64 n)) c rb aY fv av room es n ld ah:=by have b:aA (· = c) w (w.setCell (O c 3) (.int .i64 n)):=(aA.refl (· = c) w).setCell (p:=(O c 3)) rfl _;have a:∀o,o≠3->(w.setCell (O c 3) (.int .i64 n)).cell? (O c o)=w.cell? (O c o):=λo h=>aT (υ (Ne.symm h));exact h.own b (h.tc.setCell _ _) h.oH i (χ _) (a 0 Ψ) (a 1 Ψ) ((a 2 Ψ).trans h.f2) (bV h.f3) ((a 4 Ψ).trans h.f4) (h.ae9 b (λg f e=>(h.zi g f).2.ne h.tc Ψ e) (λj d e=>d.ne h.tc Ψ e)) h.ok
def bD.more(h:bD w c rb aY fv av room es acc ld ah)(a4:aA (λx=>aY.ownBlock=some x) w w6)(e:Ev)(a0:RV e)(sv:Value)(a1:aI 4 w sv (bools e.zW))(f:List Value)(L:f.length=es.length)(N:∀j(h:j<f.length)(h':j<es.length),aI 4 w f[j] (bools es[j].zW))(hn:es.length+1<=1048576)(H:w6.ownsRow 0 124 5 jR (es.length+1) (fA es f++[.string e.p,.int .u8 (e.a.toNat:Int),.string e.v,.int .i64 e.n,sv])):bD (w6.setCell (O c 2) jR) c rb jR fv av room (es++[e]) acc ld ah:=by
 have A:∀{t:TypeId}{b:Nat},t≠124->Tagged w b t->¬aY.ownBlock=some b:=λht a X=>a.ne (h.zi _ X).2 ht rfl;have C:=A Ψ h.tc;have D:=A Ψ h.jr;have E:∀o,w6.cell? (O c o)=w.cell? (O c o):=λo=>η (w:=w) (a4.block c h.tc.lt C);have K:∀o,w6.cell? (O rb o)=w.cell? (O rb o):=λo=>η (w:=w) (a4.block rb h.jr.lt D);have G:c≠rb:=h.tc.ne h.jr Ψ;have t6:=h.tc.aJ a4 C;have U:aA (· = c) w6 (w6.setCell (O c 2) jR):=(aA.refl (· = c) w6).setCell (p:=(O c 2)) rfl _;have s:aA (λx=>aY.ownBlock=some x\/x=c) w (w6.setCell (O c 2) jR):=aA.setCell (M:=λx=>aY.ownBlock=some x\/x=c) (p:=(O c 2)) (a4.mono (λ_ _ h=>τ h)) (υ rfl) _;have l:∀{t:TypeId}{b:Nat},t≠124->t≠38->Tagged w b t->¬(aY.ownBlock=some b\/b=c):=λd r a e=>e.elim (A d a) (a.ne h.tc r);have m:∀o,o≠2->(w6.setCell (O c 2) jR).cell? (O c o)=w.cell? (O c o):=λo h=>(aT (υ (Ne.symm h))).trans (E o);have B:∀v xs,aI 4 w v xs->aI 4 (w6.setCell (O c 2) jR) v xs:=λv xs hs=>hs.aJ s (λb a=>l Ψ Ψ a);obtain⟨P,f1,T⟩:=h.f1;refine⟨t6.setCell _ _,(h.jr.aJ a4 D).setCell _ _,h.pV,h.n6,by simpa using hn,(m 0 Ψ).trans h.f0,⟨P,(m 1 Ψ).trans f1,T⟩,bV ((E 2).trans h.f2),(m 3 Ψ).trans h.f3,h.Ol,h.wJ,⟨f++[sv],by simp[L], ?_,λj d r=>?_⟩,λx hx=>?_,
  λi y=>(h.kX i y).keep s (λb a=>l Ψ Ψ a) (λb a=>l Ψ Ψ (h.ib b a)) (λ_ h=>h) (λj _=>(aT (τ G)).trans (K _)),λk Z=>by have:=h.kn k Z;simp;omega,(m 4 Ψ).trans h.f4,λi y=>(aT (τ G)).trans ((K _).trans (h.a11 i y)),λb a=>(h.ib b a).aJ s (l Ψ Ψ (h.ib b a)),λi R W=>by have:=h.dl i R W;simp;omega⟩
 .rw[Il es f L,ρ];refine bG H U λg u S=>?_;obtain⟨_,d|⟨g',a2,Q,rfl,_,Y,_⟩⟩:=H
  .rw[d.1]at u;cases u
  .cases u;exact(Tagged.ne ⟨Q,Y⟩ t6 Ψ) S
 .by_cases F:j<es.length
  .have n:(f++[sv])[j]=f[j]'V:=ϑk V;have q:(es++[e])[j]=es[j]:=ϑk F;rw[n,q];exact B _ _ (N j V F)
  .have a3:j=es.length:=by simp at r;omega
   have n:(f++[sv])[j]=sv:=by rw[ϑu V];simp
   have q:(es++[e])[j]=e:=by rw[ϑu V];simp
   rw[n,q];exact B _ _ a1
 .rcases θ.1 hx with d|d
  .exact h.ok x d
  .simp at d;rw[d];exact a0
def bD.al7(h:bD w c rb aY fv av room es acc ld ah)(m:aA (· = rb) w w')(p:Tagged w' rb 64)(k:Nat)(U:k<ah.length)(more:List Bool)(P:more.length<=es.length)(E:∀b,ld.I b->I b)(u:∀b,I b->Tagged w' b 3)(Q:Ip w' rb (k*13) more I L)(F:L.made<=1048576/\L.lost<=1048576/\L.kept.length<=50)(H:∀d,L.dn=some d->d.xQ.length<=es.length)(r:∀j,j≠k->∀i,i<13->w'.cell? (O rb (j*13+i))=w.cell? (O rb (j*13+i))){s:Value}(C:w'.cell? (O rb (k*13+11))=some s):bD w' c rb aY fv (aX av k s) room es acc ⟨I,aX ld.ls k L⟩ (ah.set k more):=by
 have f:∀{b:Nat}{t:TypeId},Tagged w b t->t≠64->¬b=rb:=λa p e=>a.ne h.jr p e;have n:∀i,w'.cell? (O c i)=w.cell? (O c i):=λi=>η (w:=w) (m.block c h.tc.lt (f h.tc Ψ));obtain⟨v,f1,G⟩:=h.f1;obtain⟨S,x,y,A⟩:=h.evs;refine⟨h.tc.aJ m (f h.tc Ψ),p,h.pV,by simpa using h.n6,h.oH,(n 0).trans h.f0,⟨v,by rw[n 1,f1];simp,by simpa using G⟩,(n 2).trans h.f2,(n 3).trans h.f3,h.Ol,λi=>?_,⟨S,x,bG y m (λB K=>f (h.zi B K).2 Ψ),λj g D=>(A j g D).aJ m (λb a=>f a Ψ)⟩,h.ok,λi o=>?_,λT R=>?_,(n 4).trans h.f4,λi o=>?_,u,λi d q=>?_⟩
 .show(aX ld.ls k L i).made<=_/\(aX ld.ls k L i).lost<=_/\(aX ld.ls k L i).kept.length<=_;by_cases e:i=k
  .subst e;rw[aN];exact F
  .rw[aS _ _ e];exact h.wJ i
 .simp only[List.length_set]at o;by_cases e:i=k
  .subst e;rw[List.getElem_set_self];show Ip _ _ _ _ _ (aX _ _ _ _);rw[aN];exact Q
  .rw[List.getElem_set_ne (λh=>e h.symm)];show Ip _ _ _ _ _ (aX _ _ _ _);rw[aS _ _ e];exact(h.kX i o).keep m (λb a=>f a Ψ) (λb a=>f (h.ib b a) Ψ) E (λj N=>r i e j N)
 .rcases ϑJ R with g|g
  .exact h.kn T g
  .rw[g];exact P
 .have M:i<ah.length:=by simpa using o
  by_cases e:i=k
  .subst e;rw[aN];exact C
  .rw[aS _ _ e];exact(r i e 11 V).trans (h.a11 i M)
 .by_cases e:i=k
  .subst e;exact H d (by have l:(aX ld.ls i L i).dn=some d:=q;rw[aN]at l;exact l)
  .exact h.dl i d (by have l:(aX ld.ls k L i).dn=some d:=q;rw[aS _ _ e]at l;exact l)
def Bl{a : Type}(f:Nat->a)(k:Nat):aX f k (f k)=f:=funext λi=>by
 by_cases e:i=k
 .rw[e,aN]
 .rw[aS _ _ e]
def bD.turn(h:bD w c rb aY fv av room es acc ld ah)(k:Nat)(p:k<ah.length)(r:Value)(more:List Bool)(M:aI 4 w r (bools more))(K:more.length<=es.length)(m:aA (· = rb) w w')(q:Tagged w' rb 64)(F:L.made<=1048576/\L.lost<=1048576/\L.kept.length<=50)(P:(ld.ls k).dn=none)(G:L.dn=(ld.ls k).dn/\L.arm=(ld.ls k).arm)(A:w'.cell? (O rb (k*13))=some r)(D:w'.cell? (O rb (k*13+9))=some (.int .i64 L.made))(j:Value)(B:w'.cell? (O rb (k*13+10))=some j)(v:aI 3 w' j (ints (bW L.kept)))(C:w'.cell? (O rb (k*13+12))=some (.int .i64 L.lost))(f:∀o,o≠k*13->o≠k*13+9->o≠k*13+10->o≠k*13+12->w'.cell? (O rb o)=w.cell? (O rb o)):bD w' c rb aY fv av room es acc ⟨λb=>ld.I b\/∃off n d,j=.slice (some (O b off)) n d,aX ld.ls k L⟩ (ah.set k more):=by
 have l:=h.kX k p;have N:∀{b:Nat}{x:TypeId},Tagged w b x->x≠64->¬b=rb:=λa q e=>a.ne h.jr q e;obtain⟨s,t⟩:=G;have u:=s.trans P;have key:=h.al7 (L:=L) m q k p more K (λb a=>τ a) (I:=λb=>ld.I b\/∃off n d,j=.slice (some (O b off)) n d) (λb a=>?_) ⟨⟨r,A,M.vk m h.jr Ψ⟩,by rw[s];exact(f _ V V V V).trans l.c1,by rw[t];exact(f _ V V V V).trans l.c7,D,⟨j,B,v,λb off n d e=>υ ⟨off,n,d,e⟩⟩,C,l.z.of (λQ H=>f _ V V V V),λb a=>(f _ V V V V).trans (l.c8 b (t▸a)),λy i=>by rw[u]at i;cases i⟩ F (λy i=>by rw[u]at i;cases i) ?_ ((f _ V V V V).trans (h.a11 k p))
 .rw[Bl]at key;exact key
 .rcases a with a|⟨off,n,d,e⟩
  .exact(h.ib b a).aJ m (N (h.ib b a) Ψ)
  .rcases v with⟨g,_⟩|⟨R,W,S,g,_,E,_⟩
   .rw[e]at g;cases g
   .rw[e]at g;cases g;exact E
 .intro U T Q H;exact f _ V V V V
def bD.cells(h:bD w c rb aY fv av room es acc ld ah){k:Nat}(a:k<ah.length):∀i,i<13->∃u,w.cell? (O rb (k*13+i))=some u:=λi n=>by
 have r:=h.kX k a;obtain⟨⟨_,_,_,e⟩,⟨_,_,_,f⟩,⟨_,g⟩,⟨_,j⟩,⟨_,l⟩,⟨_,m⟩⟩:=r.z;obtain⟨_,b,_⟩:=r.c0;obtain⟨_,d,_⟩:=r.c10
 match i,n with
 | 0,_=>exact⟨_,b⟩
 | 1,_=>exact⟨_,r.c1⟩
 | 2,_=>exact⟨_,e⟩
 | 3,_=>exact⟨_,f⟩
 | 4,_=>exact⟨_,g⟩
 | 5,_=>exact⟨_,j⟩
 | 6,_=>exact⟨_,l⟩
 | 7,_=>exact⟨_,r.c7⟩
 | 8,_=>exact⟨_,m⟩
 | 9,_=>exact⟨_,r.c9⟩
 | 10,_=>exact⟨_,d⟩
 | 11,_=>exact⟨_,h.a11 k a⟩
 | 12,_=>exact⟨_,r.c12⟩
 | _+13,h9=>omega
end
def kY(w:World)(rb off:Nat):List (Nat×Value)->World
 | []=>w
 | x::l=>(kY w rb off l).setCell (O rb (off+x.1)) x.2
def mZ(w:World)(rb off:Nat):∀l,aA (· = rb) w (kY w rb off l)
 | []=>aA.refl _ _
 | x::l=>(mZ w rb off l).setCell (p:=(O rb (off+x.1))) rfl _
def rM{t:TypeId}(h:Tagged w rb t)(off:Nat):∀l,Tagged (kY w rb off l) rb t
 | []=>h
 | x::l=>(rM h off l).setCell _ _
def rO{o:Nat}:∀l,(∀x∈l,off+x.1≠o)->(kY w rb off l).cell? (O rb o)=w.cell? (O rb o)
 | [],_=>rfl
 | x::l,h=>(aT (υ (h x (List.mem_cons_self ..)))).trans (rO l (λy a=>h y (List.mem_cons_of_mem _ a)))
def jv(a:∀i,i<13->∃u,w.cell? (O rb (off+i))=some u):∀l i,i<13->(kY w rb off l).cell? (O rb (off+i))=((l.find? λx=>x.1==i).map Prod.snd).or (w.cell? (O rb (off+i)))
 | [],_,_=>rfl
 | x::l,i,hi=>by
  have b:=jv a l i hi;by_cases e:x.1=i
  .subst e;obtain⟨u,c⟩:=a _ hi;obtain⟨v,d⟩:∃v,(kY w rb off l).cell? (O rb (off+x.1))=some v:=by
    rw[b,c];cases(l.find? λy=>y.1==x.1).map Prod.snd with
    | none=>exact⟨u,rfl⟩
    | some v=>exact⟨v,rfl⟩
   show((kY w rb off l).setCell _ _).cell? _=_;rw[bV d];simp
  .show((kY w rb off l).setCell _ _).cell? _=_;rw[aT (υ V),b,List.find?_cons,show(x.1==i)=false from ό.2 e]
def bD.put{c:Nat}{aY fv:Value}{av:Nat->Value}{room:Nat}{es:List Ev}{acc:Nat}{ld:Ld}{ah:List (List Bool)}{L:LR}(h:bD w c rb aY fv av room es acc ld ah)(m:k<ah.length)(e:aA (· = rb) w w')(r:Tagged w' rb 64)(p:∀o,o<k*13\/k*13+13<=o->w'.cell? (O rb o)=w.cell? (O rb o)){more:List Bool}(n:more.length<=es.length)(q:Ip w' rb (k*13) more ld.I L)(j:L.made<=1048576/\L.lost<=1048576/\L.kept.length<=50)(l:∀d,L.dn=some d->d.xQ.length<=es.length){f:Value}(i:w'.cell? (O rb (k*13+11))=some f):bD w' c rb aY fv (aX av k f) room es acc ⟨ld.I,aX ld.ls k L⟩ (ah.set k more) :=
 h.al7 e r k m more n (λ_ h=>h) (λb a=>(h.ib b a).aJ e (λg=>(h.ib b a).ne h.jr Ψ g)) q j l (λv t u s=>p _ V) i
def xU(l:List (Nat×Value))(a:l.all (λx=>decide (x.1<13))=true):∀o,o<k*13\/k*13+13<=o->(kY w rb (k*13) l).cell? (O rb o)=w.cell? (O rb o):=λo c=>rO l λx b=>by have:=List.all_eq_true.1 a x b;simp at this;omega
def oI(ld:Ld)(kn:List (List Bool))(i:Int):Int:=if 0<=i/\i<kn.length then(if(ld.ls i.toNat).dn.isSome then 3 else 0)else 2
def Ce{ld:Ld}{a:List (List Bool)}(c:k<a.length)(b:(ld.ls k).dn=none):oI ld a (k:Int)=0:=by unfold oI;rw[ώ V,ϑE,b];(first|done|rfl)
def wK{ld:Ld}{b:List (List Bool)}{i:Int}(h:oI ld b i=0):∃k:Nat,∃_:k<b.length,i=(k:Int)/\(ld.ls k).dn=none:=by
 unfold oI at h;by_cases a:0<=i/\i<b.length
 .obtain⟨k,rfl⟩:=Int.eq_ofNat_of_zero_le a.1;rw[ώ a,ϑE]at h;cases hd:(ld.ls k).dn with
  | none=>exact⟨k,V,rfl,hd⟩
  | some d=>rw[hd]at h;cases h
 .rw[ύ a]at h;cases h
def iG(w:World)(c rb:Nat)(aY fv:Value)(av:Nat->Value)(room:Nat)(es:List Ev)(acc:Nat)(ld:Ld)(ah:List (List Bool))(h:bD w c rb aY fv av room es acc ld ah)(i:Int):Calls prog 22 #[.pointer (some (z c)),.int .i64 i] w λe w'=>e=.returned (.int .i64 (oI ld ah i))/\w'=w:=by
 obtain⟨d,f1,j⟩:=h.f1;have g:=h.n6;unfold oI;by_cases f:i<0
 .rw[ύ V];go_enter func22,ntmps22;go_wp2;go_ret;exact⟨rfl,rfl⟩
 .obtain⟨k,rfl⟩:=Int.eq_ofNat_of_zero_le (V:0<=i);by_cases b:k<ah.length
  .have l:=(h.kX k b).c1;rw[ώ V,ϑE];generalize (ld.ls k).dn.isSome=a at *;cases a
   all_goals
    go_enter func22,ntmps22;go_wp2;go_ret;exact⟨rfl,rfl⟩
  .rw[ύ V];go_enter func22,ntmps22;go_wp2;go_ret;exact⟨rfl,rfl⟩
