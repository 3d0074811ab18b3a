import Derived.Test.YtfmmllpjgkgeaabGreatDoorZ13
set_option linter.all false
set_option maxHeartbeats 0
set_option maxRecDepth 100000
namespace Go.Proofs.YtfmmllpjgkgeaabGreatDoor
open Go.RowKit Go.Deep
variable{w:World}
def WE{b:Nat}{e f g i j k l m n u0 u1 u2 u3 u4 u5 a c d:Value}{t:TypeId}(h:aC w b #[e,f,g,i,j,k,l,m,n] t):aC (((((((((w.setCell (z b) u0).setCell (O b 1) u1).setCell (O b 2) u2).setCell (O b 3) u3).setCell (O b 4) u4).setCell (O b 5) u5).setCell (O b 6) a).setCell (O b 7) c).setCell (O b 8) d) b #[u0,u1,u2,u3,u4,u5,a,c,d] t:=by unfold aC at h⊢;simp[World.setCell,μ,h]
def ah5{a:World}{u0 u1 u2 u3 u4 u5 b c d:Value}(h:Below w.heap.size w a):Below w.heap.size w (((((((((a.setCell (z w.heap.size) u0).setCell (O w.heap.size 1) u1).setCell (O w.heap.size 2) u2).setCell (O w.heap.size 3) u3).setCell (O w.heap.size 4) u4).setCell (O w.heap.size 5) u5).setCell (O w.heap.size 6) b).setCell (O w.heap.size 7) c).setCell (O w.heap.size 8) d) :=
 ((((((((h.setCell (p:=(z w.heap.size)) (χ _) _).setCell (p:=(O w.heap.size 1)) (χ _) _).setCell (p:=(O w.heap.size 2)) (χ _) _).setCell (p:=(O w.heap.size 3)) (χ _) _).setCell (p:=(O w.heap.size 4)) (χ _) _).setCell (p:=(O w.heap.size 5)) (χ _) _).setCell (p:=(O w.heap.size 6)) (χ _) _).setCell (p:=(O w.heap.size 7)) (χ _) _).setCell (p:=(O w.heap.size 8)) (χ _) _
def Tz(w:World)(ab o:Nat):Option Int->World
 | some u=>w.setCell (O ab o) (I u)
 | none=>w
def Zp(l:List Int)(o:Nat):Option Int->List Int
 | some u=>l.set o u
 | none=>l
def aI.put{t:TypeId}{b n c i:Nat}{xs:List Value}(u:Value)(h:aI t w (.slice (some (z b)) n c) xs)(q:i<xs.length):aI t (w.setCell (O b i) u) (.slice (some (z b)) n c) (xs.set i u):=by
 rcases h with⟨a,_⟩|⟨o,r,p,a,f,g,k⟩
 .cases a
 .simp only[ϑa,ϑb,ϑz]at a;obtain⟨⟨rfl,rfl,_⟩,rfl,rfl⟩:=a;refine υ ⟨b,0,c,Ω,by simpa using f,g.setCell _ _,λj l=>?_⟩;have m:j<xs.length:=by simpa using l
  have d:=k j m;rw[Nat.zero_add]at d⊢;rw[ϑi];by_cases e:i=j
  .subst e;rw[ώ rfl];exact bV d
  .rw[ύ e];exact(aT (υ e)).trans d
def WG(xs:List JH)(m:Nat)(c:m<xs.length):(xs.set m ⟨xs[m].kv,xs[m].al,⟨xs[m].y.made,xs[m].y.lost,true,xs[m].y.most,xs[m].y.al⟩⟩).map JH.y=Cb (xs.map JH.y) m:=by
 unfold Cb;refine List.ext_getElem Ω λj a b=>?_;rw[ϑI,ϑi,List.getElem_modify,ϑI];by_cases e:m=j
 .subst e;simp
 .simp[e]
def O9(w:World)(c rb:Nat)(aY F:Value)(av:Nat->Value)(ax:Nat)(es:List Ev)(ai:Nat)(ld:Ld)(f:List (List Bool))(n:bD w c rb aY F av ax es ai ld f)(b:List lH)(N:List LF)(hf:iZ ld.I w F b N)(k:Nat)(hk:k<b.length)(hd:b[k].dst<f.length)(hs:b[k].src<f.length)(h5:b.length<=500)(hu:(ld.ls b[k].dst).dn=none)(m:Nat)(hm:m<b.length)(ha:b[k].ack=m+1)(ab:Nat)(bf:av b[k].dst=.slice (some (z ab)) f.length f.length)(b4:¬ld.I ab)(cz:List Nat)(c7:cz.length=f.length)(a2:aI 3 w (.slice (some (z ab)) f.length f.length) (ints (bW cz))):Calls Tryz.prog 48 #[.pointer (some (z c)),I ((k:Int)+1)] w λi w'=>i=.returned (.tuple #[I 0,I 0])/\bD w' c rb aY F av ax es ai ld f/\iZ ld.I w' F b (Cb N m)/\aI 3 w' (.slice (some (z ab)) f.length f.length) (ints (bW (cz.set b[k].src (max (cz.getD b[k].src 0) (madeOf N m)))))/\aA (λx=>x=ab\/F.ownBlock=some x) w w':=by
 obtain⟨fb,ba,fc,ko,kc,made,ho,hn,hc,bo,bd,mo,aa,cs,cq,D⟩:=WC n hf k hk hd;obtain⟨c1,c4,Q,r0,r1,r2,r3,r4,r5,r6,r7,r8,_⟩:=D;rw[hu]at Q;have Q:w.cell? (O rb (b[k].dst*13+1))=some (.bool false):=Q;clear hu;have c5:b[m].dst<f.length\/¬b[m].dst<f.length:=Classical.em _;have h6:=n.n6;have a7:=n.tc.lt;have ac:=n.jr.lt;have ag:=n.a11 _ hd;rw[bf]at ag;obtain⟨co,cy,cp,he,c8,a8⟩:=a2.KT (a:=b[k].src) V;simp only[ϑa,ϑb,ϑz]at he;obtain⟨⟨rfl,rfl,-⟩,-,rfl⟩:=he;rw[Nat.zero_add]at a8;have dc:Tagged w ab 3:=by
  rcases a2 with⟨R,_⟩|⟨l,cx,ba,R,_,e3,_⟩
  .cases R
  .simp only[ϑa,ϑb,ϑz]at R;obtain⟨⟨rfl,_⟩,_⟩:=R;exact e3
 obtain⟨d,x1,x0,x2,x3⟩:=hf;have L:m<d.length:=V
 have af:J<|(((cz[b[k].src]'V:Nat):Int)<(d[m].y.made:Int)->(bW cz).set b[k].src (d[m].y.made:Int)=bW (cz.set b[k].src (max (cz.getD b[k].src 0) (madeOf N m))))/\(¬((cz[b[k].src]'V:Nat):Int)<(d[m].y.made:Int)->bW cz=bW (cz.set b[k].src (max (cz.getD b[k].src 0) (madeOf N m)))):=by
  have R:madeOf N m=d[m].y.made:=by unfold madeOf;rw[<- x0];simp[L]
  have e2:cz.getD b[k].src 0=cz[b[k].src]'V:=by rw[ξ,σ V];(first|done|rfl)
  rw[R,e2];refine⟨λh9=>?_,λh9=>?_⟩
  .rw[Nat.max_eq_right V];unfold bW;rw[List.map_set]
  .rw[Nat.max_eq_left V,ϑy]
 generalize (((cz[b[k].src]'V):Nat):Int)=Gl at a8 af;rw[aa]at x2;have B:∀j,j<9->w.cell? (O fb (m*9+j))=(mg b[m] d[m])[j]?:=λj hj=>by rw[x2.cellAt (m*9+j) V,nC b d m hm L j hj]
 obtain⟨ar,ap,bj,_⟩:=(x3 m hm L).kn.shape;have bn:=(x3 m hm L).al.1;obtain⟨aw,aq,b5,_⟩:=bn.shape;have y0:w.cell? (O fb (m*9))=some (I (b[m].src)):=B 0 V;have y1:w.cell? (O fb (m*9+1))=some (I (b[m].dst)):=B 1 V;have y2:w.cell? (O fb (m*9+2))=some (I (b[m].ack)):=B 2 V;have y3:w.cell? (O fb (m*9+3))=some (.slice ar (bools b[m].known).length ap):=by rw[<- bj];exact B 3 V
 have y4:w.cell? (O fb (m*9+4))=some (I (d[m].y.made)):=B 4 V;have y5:w.cell? (O fb (m*9+5))=some (.slice aw (ints (bW d[m].y.al)).length aq):=by rw[<- b5];exact B 5 V
 have y6:w.cell? (O fb (m*9+6))=some (I (d[m].y.lost)):=B 6 V;have y7:w.cell? (O fb (m*9+7))=some (.bool d[m].y.had):=B 7 V;have y8:w.cell? (O fb (m*9+8))=some (I (d[m].y.most)):=B 8 V;have S:=pO x2 fb rfl;have a9:=S.lt;have ao:=dc.lt;have an:ab≠fb:=dc.ne S Ψ;have be:ab≠rb:=dc.ne n.jr Ψ;have c6:fb≠rb:=S.ne n.jr Ψ;have al:ab≠c:=dc.ne n.tc Ψ;have bt:fb≠c:=S.ne n.tc Ψ;have b1:b[k].src<(ints (bW cz)).length:=by rw[jX];omega
 have ae:J<|∀(P:World)(C:Option Int),Below w.heap.size w P->bD ((Tz P ab b[k].src C).setCell (O fb (m*9+7)) (.bool true)) c rb aY F av ax es ai ld f/\iZ ld.I ((Tz P ab b[k].src C).setCell (O fb (m*9+7)) (.bool true)) F b (Cb N m)/\aI 3 ((Tz P ab b[k].src C).setCell (O fb (m*9+7)) (.bool true)) (.slice (some (z ab)) f.length f.length) (ints (Zp (bW cz) b[k].src C))/\aA (λx=>x=ab\/F.ownBlock=some x) w ((Tz P ab b[k].src C).setCell (O fb (m*9+7)) (.bool true)):=λP C s=>by
  obtain⟨W3,ak⟩:∃W3,W3=(Tz P ab b[k].src C):=⟨_,rfl⟩;have ca:aI 3 W3 (.slice (some (z ab)) f.length f.length) (ints (Zp (bW cz) b[k].src C)):=by
   rw[ak];cases C with
   | none=>exact a2.below s
   | some u =>
    have i:ints ((bW cz).set b[k].src u)=(ints (bW cz)).set b[k].src (I u):=by unfold ints;rw[List.map_set]
    show aI _ _ _ (ints ((bW cz).set b[k].src u));rw[i];exact(a2.below s).put _ b1
  rw[<- ak];have a5:aA (λx=>x=ab) w W3:=by
   rw[ak];cases C with
   | none=>exact aA.of_below s
   | some u=>exact(aA.of_below (M:=λx=>x=ab) s).setCell (p:=(O ab (b[k].src))) rfl _
  have Zn:∀l,Tagged w l 4->¬l=ab:=λl s i=>Tagged.ne s dc Ψ i;have Vm:∀l,ld.I l->¬l=ab:=λl s i=>b4 (i▸s);have Wn:=n.aJ a5 (Ne.symm al) (Ne.symm be) (λg hg i=>Tagged.ne (n.zi g hg).2 dc Ψ i) Zn Vm;have bp:W3.ownsRow 0 162 9 (.slice (some (z fb)) b.length fc) b.length (eH b d):=bG x2 a5 (λg hg i=>by cases hg;exact an i.symm);have Zq:=pO bp fb rfl;have a6:aA (λx=>x=fb) W3 (W3.setCell (O fb (m*9+7)) (.bool true)):=(aA.refl (λx=>x=fb) W3).setCell (p:=(O fb (m*9+7))) rfl _;have bu:∀l,Tagged W3 l 4->¬l=fb:=λl s i=>Tagged.ne s Zq Ψ i;have bv:∀l,ld.I l->¬l=fb:=λl s i=>Tagged.ne (Wn.ib l s) Zq Ψ i;refine⟨Wn.tag a6 Zq Ψ, ?_,ca.vk a6 Zq Ψ, ?_⟩
  .rw[aa];refine⟨d.set m ⟨d[m].kv,d[m].al,⟨d[m].y.made,d[m].y.lost,true,d[m].y.most,d[m].y.al⟩⟩,by simp[x1],by rw[WG d m L,x0], ?_,λj h1 h2=>?_⟩
   .rw[<- Ag b d m hm L x1];exact Zo bp _ _
   .have hj:j<d.length:=by simpa using h2
    have H:=((x3 j h1 hj).aJ a5 Zn Vm (λ_ n=>n)).aJ a6 bu bv (λ_ n=>n);rw[ϑi];split
    .rename_i e9;subst e9;exact⟨H.kn,H.kl,H.al,H.all,H.m1,H.m2,H.m3⟩
    .exact H
  .rw[aa];exact(a5.mono (λx _ i=>τ i)).trans (a6.mono (λx _ i=>υ (by rw[i];rfl)))
 have X:=λo=>(φ _ w).alloc (χ _) o;have HB:=ω<|λo q=>below_drewN (X o) q
 rw[ha]at r2;have r2:w.cell? (O fb (k*9+2))=some (I ((m:Int)+1)):=r2;have cr:(b[k].dst:Int)<(f.length:Int):=V
 have cw:(b[k].src:Int)<(f.length:Int):=V
 have cv:(0:Int)<=(b[k].src:Int):=V
 have cu:(m:Int)<(b.length:Int):=V
 have ct:(0:Int)<=(m:Int):=V
 have bh:=S.frozen;have bc:=dc.frozen;clear n x0 x2 x3 B aa a2 bn bj b5 bf S dc c5 ha b4 b1;generalize b[k].dst=Y at *;generalize b[k].src=src at *;generalize b[m].src=b6 at *;generalize b[m].dst=b7 at *;generalize b[m].ack=b8 at *;generalize b[k].known.length=bk at *;generalize (bools b[m].known).length=Oz at *;generalize (ints (bW d[m].y.al)).length=bl at *;generalize (d[m].y.made:Int)=t at *;generalize (d[m].y.lost:Int)=b2 at *;generalize d[m].y.had=b9 at *;generalize d[m].y.most=b3 at *;obtain⟨W1,Z⟩:∃W1,W1=w.alloc (.cells #[I src,I Y,I ((m:Int)+1),.slice ko bk kc,I made,.slice ho hn hc,I bo,.bool bd,I mo] 162):=⟨_,rfl⟩;have kg:aC W1 w.heap.size #[I src,I Y,I ((m:Int)+1),.slice ko bk kc,I made,.slice ho hn hc,I bo,.bool bd,I mo] 162:=by rw[Z];exact aC.new w _ _
 have a0:Below w.heap.size w W1:=by rw[Z];exact X _
 have c9:W1.heap.size=w.heap.size+1:=by rw[Z];simp
 have y:J<|∀wx,Below W1.heap.size W1 wx->wx.cell? (O c 1)=some (.slice (some (z rb)) f.length ba)/\wx.cell? (O c 4)=some (.slice (some (z fb)) b.length fc)/\wx.cell? (O rb (Y*13+1))=some (.bool false)/\wx.cell? (O rb (Y*13+11))=some (.slice (some (z ab)) f.length f.length)/\wx.cell? (O ab src)=some (I Gl)/\wx.cell? (z w.heap.size)=some (I src)/\wx.cell? (O w.heap.size 1)=some (I Y)/\wx.cell? (O w.heap.size 2)=some (I ((m:Int)+1))/\wx.cell? (O fb (m*9+7))=some (.bool b9)/\(∀j,wx.frozen? (O fb j)=false)/\(∀j,wx.frozen? (O ab j)=false)/\Below w.heap.size w wx:=λwx hx=>by have db:Below w.heap.size w wx:=a0.trans (hx.mono a0.size);have kk:=kg.below hx;exact⟨(db.cell (p:=(O c 1)) a7).trans c1,(db.cell (p:=(O c 4)) a7).trans c4,(db.cell (p:=(O rb _)) ac).trans Q,(db.cell (p:=(O rb _)) ac).trans ag,(db.cell (p:=(O ab _)) ao).trans a8,(kk.cell 0).trans rfl,(kk.cell 1).trans rfl,(kk.cell 2).trans rfl,(db.cell (p:=(O fb _)) a9).trans y7,λj=>(db.frozen (p:=(O fb j)) a9).trans (bh j),λj=>(db.frozen (p:=(O ab j)) ao).trans (bc j),db⟩
 have A:J<|∀wx,Below W1.heap.size W1 wx->wx.cell? (O fb (m*9))=some (I b6)/\wx.cell? (O fb (m*9+1))=some (I b7)/\wx.cell? (O fb (m*9+2))=some (I b8)/\wx.cell? (O fb (m*9+3))=some (.slice ar Oz ap)/\wx.cell? (O fb (m*9+4))=some (I t)/\wx.cell? (O fb (m*9+5))=some (.slice aw bl aq)/\wx.cell? (O fb (m*9+6))=some (I b2)/\wx.cell? (O fb (m*9+8))=some (I b3):=λwx hx=>by have db:Below w.heap.size w wx:=a0.trans (hx.mono a0.size);have G:=λv=>db.cell (p:=(O fb v)) a9;exact⟨(G _).trans y0,(G _).trans y1,(G _).trans y2,(G _).trans y3,(G _).trans y4,(G _).trans y5,(G _).trans y6,(G _).trans y8⟩
 have br:=ω Z.symm;have bw:=λo=>((X o).cell (p:=(O c 1)) a7).trans c1;have c2:=λo=>((X o).cell (p:=(O rb _)) ac).trans Q;have Vo:J<|ab≠c/\ab≠w.heap.size/\ab≠fb:=⟨al,V,an⟩;have aj:J<|IntKind.i64.wrap (m:Int)=(m:Int):=wrap_in _ V V;have cn:=hm;clear X Z kg ag a8 y0 y1 y2 y3 y4 y5 y6 y7 y8 bh bc c7 c8 x1 L an be c6 al bt a0 a9 ao a7 ac;go_enter Tryz.func48,Tryz.ntmps48;go_wp2_with fail;clear c1 c4 Q r0 r1 r2 r3 r4 r5 r6 r7 r8 bw c2 c9;rw[br.o];obtain⟨d1,_,c0,_,_,_,g1,_⟩:=y.o W1 (φ _ _)
 go_quiet (fail)
 clear d1 c0 g1;have r:Below W1.heap.size W1 (W1.drewN nq):=below_drewN (φ _ _) _;generalize W1.drewN nq=h at *;obtain⟨_,d4,_,_,_,_,_,g2,T,_⟩:=y.o _ r;have a1:=aj.o;obtain⟨y0,y1,y2,y3,y4,y5,y6,y8⟩:=A.o _ r;have e:=ω r;clear r;have bx:=λo=>(y.o (h.alloc o) (e.o.alloc e.o.size o)).2.1;have c3:=λo=>(y.o (h.alloc o) (e.o.alloc e.o.size o)).2.2.2.2.2.2.2.1;have cj:=λo=>(y.o (h.alloc o) (e.o.alloc e.o.size o)).2.2.2.2.2.2.2.2.1;have cb:=λo=>(A.o (h.alloc o) (e.o.alloc e.o.size o)).1;have cc:=λo=>(A.o (h.alloc o) (e.o.alloc e.o.size o)).2.1;have cd:=λo=>(A.o (h.alloc o) (e.o.alloc e.o.size o)).2.2.1;have ce:=λo=>(A.o (h.alloc o) (e.o.alloc e.o.size o)).2.2.2.1;have cf:=λo=>(A.o (h.alloc o) (e.o.alloc e.o.size o)).2.2.2.2.1;have cg:=λo=>(A.o (h.alloc o) (e.o.alloc e.o.size o)).2.2.2.2.2.1;have ch:=λo=>(A.o (h.alloc o) (e.o.alloc e.o.size o)).2.2.2.2.2.2.1;have ci:=λo=>(A.o (h.alloc o) (e.o.alloc e.o.size o)).2.2.2.2.2.2.2;go_wp2_with fail;go_cut [7]from 42 to 51 (λv7 wx=>v7=.pointer (some (z h.heap.size))/\aC wx h.heap.size #[I b6,I b7,I b8,.slice ar Oz ap,I t,.slice aw bl aq,I b2,.bool b9,I b3] 162/\Below h.heap.size h wx)
 case first =>
  go_region_law (fail)
  all_goals
   go_wp2_with fail;go_meet;refine⟨rfl, ?_, ?_⟩
   .first|exact aC.new h _ _|exact WE (aC.new h _ _)
   .first|exact(φ _ h).alloc (χ _) _|exact((φ _ h).alloc (χ _) _).drew|exact ah5 ((φ _ h).alloc (χ _) _)
 case rest =>
 obtain⟨rfl,bm,bg⟩:=hcut;clear d4 g2 T y0 y1 y2 y3 y4 y5 y6 y8 bx c3 cj cb cc cd ce cf cg ch ci a1;have WH:=ω<|e.o.trans (bg.mono e.o.size);have b0:=ω bm;clear bm bg;generalize wc=W3 at *;obtain⟨d1,_,_,_,_,_,g1,_⟩:=y.o _ WH.o;go_wp2_with fail
 go_quiet (fail)
 clear d1 g1;have r:Below W3.heap.size W3 (W3.drewN nq):=below_drewN (φ _ _) _;have K:=ω<|WH.o.trans (r.mono WH.o.size)
 have IX:=ω<|b0.o.below r
 clear r b0 WH;generalize W3.drewN nq=E at *;obtain⟨_,_,_,d11,a4,g0,_⟩:=y.o _ K.o;have o4:=(IX.o.cell 4).trans rfl;by_cases bi:Gl<t
 .go_wp2_with fail
  go_quiet (fail)
  clear d11 a4 g0 o4;have r:Below E.heap.size E (E.drewN nq):=below_drewN (φ _ _) _;have a3:=ω<|K.o.trans (r.mono K.o.size)
  have bq:=ω<|IX.o.below r
  clear r IX K;generalize E.drewN nq=da at *;obtain⟨_,_,_,d11,a4,g0,_,_,_,_,za,W⟩:=y.o _ a3.o;have o4:=(bq.o.cell 4).trans rfl;have ad:=ω W;clear W;go_wp2_with fail;go_cut []from 69 to 78 (λwx=>wx=da.drew.setCell (O ab src) (I t))
  case first =>
   go_region_law (fail)
   all_goals
    go_wp2_with fail;go_meet;rfl
  case rest =>
  subst hcut;clear d11 a4 g0 o4 za;have az:=ω ad.o.drew;have U:J<|∀v,(da.drew.setCell (O ab src) (I t)).cell? (O c v)=da.cell? (O c v)/\(da.drew.setCell (O ab src) (I t)).cell? (O w.heap.size v)=da.cell? (O w.heap.size v)/\(da.drew.setCell (O ab src) (I t)).cell? (O fb v)=da.cell? (O fb v)/\(da.drew.setCell (O ab src) (I t)).frozen? (O fb v)=da.frozen? (O fb v):=λv=>⟨(aT (τ Vo.o.1)).trans rfl,(aT (τ Vo.o.2.1)).trans rfl,(aT (τ Vo.o.2.2)).trans rfl,(World.frozen?_setCell _ _ _ _).trans rfl⟩;obtain⟨_,d4,_,_,_,_,_,g2,T,zf,_,_⟩:=y.o _ a3.o;have e4:=(U.o 4).1.trans d4;have e2:=(U.o 2).2.1.trans g2;have e7:=(U.o (m*9+7)).2.2.1.trans T;have ef:=λj=>(U.o j).2.2.2.trans (zf j);have ck:=ω<|λq=>below_drewN az.o q
  have a1:=aj.o;have cl:=ae;clear d4 g2 T zf U y A;generalize bb:da.drew.setCell (O ab src) (I t)=W6 at *;have bs:=ω bb.symm;clear bb;go_wp2_with fail;go_cut []from 78 to 87 (λwx=>wx=W6.drew.setCell (O fb (m*9+7)) (.bool true))
  case first =>
   go_region_law (fail)
   all_goals
    go_wp2_with fail;go_meet;rfl
  case rest =>
  subst hcut;clear e4 e2 e7 ef a1;go_wp2_with fail;go_ret2;have hW:W6.drew.setCell (O fb (m*9+7)) (.bool true)=(Tz da.drew.drew ab src (some t)).setCell (O fb (m*9+7)) (.bool true):=by rw[bs.o];(first|done|rfl)
  rw[hW];have hz:=ae.o da.drew.drew (some t) az.o.drew;rw[show Zp (bW cz) src (some t)=_ from af.o.1 bi]at hz;exact⟨rfl,hz⟩
 .go_wp2_with fail
  go_quiet (fail)
  clear d11 a4 g0 o4;have r:Below E.heap.size E (E.drewN nq):=below_drewN (φ _ _) _;have a3:=ω<|K.o.trans (r.mono K.o.size)
  clear r IX K;generalize E.drewN nq=da at *;obtain⟨_,d4,_,_,_,_,_,g2,T,zf,_,W⟩:=y.o _ a3.o;have ad:=ω W;have a1:=aj.o;clear W;go_wp2_with fail;go_cut []from 78 to 87 (λwx=>wx=da.drew.setCell (O fb (m*9+7)) (.bool true))
  case first =>
   go_region_law (fail)
   all_goals
    go_wp2_with fail;go_meet;rfl
  case rest =>
  subst hcut;clear d4 g2 T zf a1;go_wp2_with fail;go_ret2;have hz:=ae.o da.drew none ad.o.drew;rw[show Zp (bW cz) src none=_ from af.o.2 bi]at hz;exact⟨rfl,hz⟩
