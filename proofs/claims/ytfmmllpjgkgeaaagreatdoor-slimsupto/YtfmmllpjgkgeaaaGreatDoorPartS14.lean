import Derived.Test.YtfmmllpjgkgeaaaGreatDoorPartS13
set_option linter.unusedVariables false
set_option linter.unusedSimpArgs false
set_option maxHeartbeats 16000000
set_option maxRecDepth 100000
namespace Go.Proofs.YtfmmllpjgkgeaaaGreatDoor
open Go.RowKit Go.Deep
variable{w:World}
theorem LC{b:Nat}{e f g i j k l m n u0 u1 u2 u3 u4 u5 a c d:Value}{t:TypeId}(h:ah w b #[e,f,g,i,j,k,l,m,n] t):ah (((((((((w.setCell (z b) u0).setCell (O b 1) u1).setCell (O b 2) u2).setCell (O b 3) u3).setCell (O b 4) u4).setCell (O b 5) u5).setCell (O b 6) a).setCell (O b 7) c).setCell (O b 8) d) b #[u0,u1,u2,u3,u4,u5,a,c,d] t:=by unfold ah at h⊢;simp[World.setCell,μ,h]
theorem Td{a:World}{u0 u1 u2 u3 u4 u5 b c d:Value}(h:Below w.heap.size w a):Below w.heap.size w (((((((((a.setCell (z w.heap.size) u0).setCell (O w.heap.size 1) u1).setCell (O w.heap.size 2) u2).setCell (O w.heap.size 3) u3).setCell (O w.heap.size 4) u4).setCell (O w.heap.size 5) u5).setCell (O w.heap.size 6) b).setCell (O w.heap.size 7) c).setCell (O w.heap.size 8) d) :=
 ((((((((h.setCell (p:=(z w.heap.size)) (χ _) _).setCell (p:=(O w.heap.size 1)) (χ _) _).setCell (p:=(O w.heap.size 2)) (χ _) _).setCell (p:=(O w.heap.size 3)) (χ _) _).setCell (p:=(O w.heap.size 4)) (χ _) _).setCell (p:=(O w.heap.size 5)) (χ _) _).setCell (p:=(O w.heap.size 6)) (χ _) _).setCell (p:=(O w.heap.size 7)) (χ _) _).setCell (p:=(O w.heap.size 8)) (χ _) _
def IK(w:World)(ab o:Nat):Option Int->World
 | some u=>w.setCell (O ab o) (.int .i64 u)
 | none=>w
def Pz(l:List Int)(o:Nat):Option Int->List Int
 | some u=>l.set o u
 | none=>l
theorem SliceT.put{t:TypeId}{b n c i:Nat}{xs:List Value}(u:Value)(h:SliceT t w (.slice (some (z b)) n c) xs)(q:i<xs.length):SliceT t (w.setCell (O b i) u) (.slice (some (z b)) n c) (xs.set i u):=by
 rcases h with⟨a,_⟩|⟨o,r,p,a,f,g,k⟩
 .cases a
 .simp only[Value.slice.injEq,Option.some.injEq,Addr.mk.injEq]at a;obtain⟨⟨rfl,rfl,_⟩,rfl,rfl⟩:=a;refine υ ⟨b,0,c,Ω,by simpa using f,g.setCell _ _,λj l=>?_⟩;have m:j<xs.length:=by simpa using l
  have d:=k j m;rw[Nat.zero_add]at d⊢;rw[List.getElem_set];by_cases e:i=j
  .subst e;rw[ώ rfl];exact cs_same d
  .rw[ύ e];exact(cs_oth (υ e)).trans d
theorem LG(xs:List xR)(m:Nat)(c:m<xs.length):(xs.set m ⟨xs[m].kv,xs[m].al,⟨xs[m].y.made,xs[m].y.lost,true,xs[m].y.most,xs[m].y.al⟩⟩).map xR.y=hadL (xs.map xR.y) m:=by
 unfold hadL;refine List.ext_getElem Ω λj a b=>?_;rw[List.getElem_map,List.getElem_set,List.getElem_modify,List.getElem_map];by_cases e:m=j
 .subst e;simp
 .simp[e]
theorem RefDel_ack(w:World)(c rb:Nat)(aj F:Value)(av:Nat->Value)(aq:Nat)(es:List Ev)(ag:Nat)(c9:Ld)(knowns:List (List Bool))(q:RefL w c rb aj F av aq es ag c9 knowns)(b:List FrD)(T:List LF)(hf:FrAt c9.I w F b T)(k:Nat)(hk:k<b.length)(hd:b[k].dst<knowns.length)(hs:b[k].src<knowns.length)(h5:b.length<=500)(m:Nat)(hm:m<b.length)(ha:b[k].ack=m+1)(ab:Nat)(b0:av b[k].dst=.slice (some (z ab)) knowns.length knowns.length)(Wv:¬c9.I ab)(c7:List Nat)(bg:c7.length=knowns.length)(a3:SliceT 3 w (.slice (some (z ab)) knowns.length knowns.length) (ints (natsI c7))):Calls Tryz.prog 114 #[.pointer (some (z c)),.int .i64 ((k:Int)+1)] w λi w'=>i=.returned (.tuple #[.int .i64 0,.int .i64 0])/\RefL w' c rb aj F av aq es ag c9 knowns/\FrAt c9.I w' F b (hadL T m)/\SliceT 3 w' (.slice (some (z ab)) knowns.length knowns.length) (ints (natsI (c7.set b[k].src (max (c7.getD b[k].src 0) (madeOf T m)))))/\Chg (λx=>x=ab\/F.ownBlock=some x) w w':=by
 obtain⟨fb,ai,fc,ko,kc,made,ho,hn,hc,ap,an,mo,a9,bw,bu,D⟩:=delC q hf k hk hd;obtain⟨c1,c4,dn,r0,r1,r2,r3,r4,r5,r6,r7,r8,_⟩:=D;have be:b[m].dst<knowns.length\/¬b[m].dst<knowns.length:=Classical.em _;have h6:=q.n6;have a6:=q.tc.lt;have aa:=q.trb.lt;have af:=q.a11 _ hd;rw[b0]at af;obtain⟨br,c6,bt,he,bh,a7⟩:=a3.natAt (a:=b[k].src) V;simp only[Value.slice.injEq,Option.some.injEq,Addr.mk.injEq]at he;obtain⟨⟨rfl,rfl,-⟩,-,rfl⟩:=he;rw[Nat.zero_add]at a7;have E:Tagged w ab 3:=by
  rcases a3 with⟨e1,_⟩|⟨n,c5,ai,e1,_,e3,_⟩
  .cases e1
  .simp only[Value.slice.injEq,Option.some.injEq,Addr.mk.injEq]at e1;obtain⟨⟨rfl,_⟩,_⟩:=e1;exact e3
 obtain⟨e,x1,x0,x2,x3⟩:=hf;have S:m<e.length:=V
 have ae:J<|(((c7[b[k].src]'V:Nat):Int)<(e[m].y.made:Int)->(natsI c7).set b[k].src (e[m].y.made:Int)=natsI (c7.set b[k].src (max (c7.getD b[k].src 0) (madeOf T m))))/\(¬((c7[b[k].src]'V:Nat):Int)<(e[m].y.made:Int)->natsI c7=natsI (c7.set b[k].src (max (c7.getD b[k].src 0) (madeOf T m)))):=by
  have e1:madeOf T m=e[m].y.made:=by unfold madeOf;rw[<- x0];simp[S]
  have e2:c7.getD b[k].src 0=c7[b[k].src]'V:=by rw[ξ,σ V];(first|done|rfl)
  rw[e1,e2];refine⟨λh9=>?_,λh9=>?_⟩
  .rw[Nat.max_eq_right V];unfold natsI;rw[List.map_set]
  .rw[Nat.max_eq_left V,List.set_getElem_self]
 generalize (((c7[b[k].src]'V):Nat):Int)=acked at a7 ae;rw[a9]at x2;have B:∀j,j<9->w.cell? (O fb (m*9+j))=(ig b[m] e[m])[j]?:=λj hj=>by rw[x2.cellAt (m*9+j) V,iW b e m hm S j hj]
 obtain⟨L,N,b4,_⟩:=(x3 m hm S).kn.shape;have b6:=(x3 m hm S).al.1;obtain⟨P,Q,Wx,_⟩:=b6.shape;have y0:w.cell? (O fb (m*9))=some (.int .i64 (b[m].src)):=B 0 V;have y1:w.cell? (O fb (m*9+1))=some (.int .i64 (b[m].dst)):=B 1 V;have y2:w.cell? (O fb (m*9+2))=some (.int .i64 (b[m].ack)):=B 2 V;have y3:w.cell? (O fb (m*9+3))=some (.slice L (bools b[m].known).length N):=by rw[<- b4];exact B 3 V
 have y4:w.cell? (O fb (m*9+4))=some (.int .i64 (e[m].y.made)):=B 4 V;have y5:w.cell? (O fb (m*9+5))=some (.slice P (ints (natsI e[m].y.al)).length Q):=by rw[<- Wx];exact B 5 V
 have y6:w.cell? (O fb (m*9+6))=some (.int .i64 (e[m].y.lost)):=B 6 V;have y7:w.cell? (O fb (m*9+7))=some (.bool e[m].y.had):=B 7 V;have y8:w.cell? (O fb (m*9+8))=some (.int .i64 (e[m].y.most)):=B 8 V;have UJ:Tagged w fb 233:=own_tag x2 fb rfl;have a8:=UJ.lt;have ao:=E.lt;have ZA:ab≠fb:=E.ne UJ Ψ;have az:ab≠rb:=E.ne q.trb Ψ;have bf:fb≠rb:=UJ.ne q.trb Ψ;have al:ab≠c:=E.ne q.tc Ψ;have ZB:fb≠c:=UJ.ne q.tc Ψ;have QU:b[k].src<(ints (natsI c7)).length:=by rw[natsI_len];omega
 have ad:J<|∀(W:World)(C:Option Int),Below w.heap.size w W->RefL ((IK W ab b[k].src C).setCell (O fb (m*9+7)) (.bool true)) c rb aj F av aq es ag c9 knowns/\FrAt c9.I ((IK W ab b[k].src C).setCell (O fb (m*9+7)) (.bool true)) F b (hadL T m)/\SliceT 3 ((IK W ab b[k].src C).setCell (O fb (m*9+7)) (.bool true)) (.slice (some (z ab)) knowns.length knowns.length) (ints (Pz (natsI c7) b[k].src C))/\Chg (λx=>x=ab\/F.ownBlock=some x) w ((IK W ab b[k].src C).setCell (O fb (m*9+7)) (.bool true)):=λW C t=>by
  obtain⟨W3,ak⟩:∃W3,W3=(IK W ab b[k].src C):=⟨_,rfl⟩;have bj:SliceT 3 W3 (.slice (some (z ab)) knowns.length knowns.length) (ints (Pz (natsI c7) b[k].src C)):=by
   rw[ak];cases C with
   | none=>exact a3.below t
   | some u =>
    have i:ints ((natsI c7).set b[k].src u)=(ints (natsI c7)).set b[k].src (.int .i64 u):=by unfold ints;rw[List.map_set]
    show SliceT _ _ _ (ints ((natsI c7).set b[k].src u));rw[i];exact(a3.below t).put _ QU
  rw[<- ak];have a4:Chg (λx=>x=ab) w W3:=by
   rw[ak];cases C with
   | none=>exact Chg.of_below t
   | some u=>exact(Chg.of_below (M:=λx=>x=ab) t).setCell (p:=(O ab (b[k].src))) rfl _
  have Pv:∀n,Tagged w n 4->¬n=ab:=λn t i=>Tagged.ne t E Ψ i;have J6:∀n,c9.I n->¬n=ab:=λn t i=>Wv (i▸t);have Le:=q.chg a4 (Ne.symm al) (Ne.symm az) (λg hg i=>Tagged.ne (q.evLt g hg).2 E Ψ i) Pv J6;have b7:W3.ownsRow 0 233 9 (.slice (some (z fb)) b.length fc) b.length (bD b e):=ownsRow_chg x2 a4 (λg hg i=>by cases hg;exact ZA i.symm);have PD:Tagged W3 fb 233:=own_tag b7 fb rfl;have a5:Chg (λx=>x=fb) W3 (W3.setCell (O fb (m*9+7)) (.bool true)):=(Chg.refl (λx=>x=fb) W3).setCell (p:=(O fb (m*9+7))) rfl _;have ZC:∀n,Tagged W3 n 4->¬n=fb:=λn t i=>Tagged.ne t PD Ψ i;have ZE:∀n,c9.I n->¬n=fb:=λn t i=>Tagged.ne (Le.ib n t) PD Ψ i;refine⟨Le.tag a5 PD Ψ, ?_,bj.chgT a5 PD Ψ, ?_⟩
  .rw[a9];refine⟨e.set m ⟨e[m].kv,e[m].al,⟨e[m].y.made,e[m].y.lost,true,e[m].y.most,e[m].y.al⟩⟩,by simp[x1],by rw[LG e m S,x0], ?_,λj h1 h2=>?_⟩
   .rw[<- ru b e m hm S x1];exact Py b7 _ _
   .have hj:j<e.length:=by simpa using h2
    have H:=((x3 j h1 hj).chg a4 Pv J6 (λ_ q=>q)).chg a5 ZC ZE (λ_ q=>q);rw[List.getElem_set];split
    .rename_i e9;subst e9;exact⟨H.kn,H.kl,H.al,H.all,H.m1,H.m2,H.m3⟩
    .exact H
  .rw[a9];exact(a4.mono (λx _ i=>τ i)).trans (a5.mono (λx _ i=>υ (by rw[i];rfl)))
 have bz:∀o,Below w.heap.size w (w.alloc o):=λo=>(φ _ w).alloc (χ _) o;have HB:J<|∀o U,Below w.heap.size w ((w.alloc o).drewN U):=λo U=>below_drewN (bz o) U;rw[ha]at r2;have r2:w.cell? (O fb (k*9+2))=some (.int .i64 ((m:Int)+1)):=r2;have bv:(b[k].dst:Int)<(knowns.length:Int):=V
 have c3:(b[k].src:Int)<(knowns.length:Int):=V
 have c2:(0:Int)<=(b[k].src:Int):=V
 have c0:(m:Int)<(b.length:Int):=V
 have bx:(0:Int)<=(m:Int):=V
 have b2:=UJ.frozen;have ax:=E.frozen;clear q x0 x2 x3 B a9 a3 b6 b4 Wx b0 UJ E be ha Wv QU;generalize b[k].dst=R at *;generalize b[k].src=src at *;generalize b[m].src=Y at *;generalize b[m].dst=Z at *;generalize b[m].ack=IU at *;generalize b[k].known.length=ZF at *;generalize (bools b[m].known).length=X at *;generalize (ints (natsI e[m].y.al)).length=UK at *;generalize (e[m].y.made:Int)=l at *;generalize (e[m].y.lost:Int)=xU at *;generalize e[m].y.had=IV at *;generalize e[m].y.most=xW at *;obtain⟨W1,a0⟩:∃W1,W1=w.alloc (.cells #[.int .i64 src,.int .i64 R,.int .i64 ((m:Int)+1),.slice ko ZF kc,.int .i64 made,.slice ho hn hc,.int .i64 ap,.bool an,.int .i64 mo] 233):=⟨_,rfl⟩;have kg:ah W1 w.heap.size #[.int .i64 src,.int .i64 R,.int .i64 ((m:Int)+1),.slice ko ZF kc,.int .i64 made,.slice ho hn hc,.int .i64 ap,.bool an,.int .i64 mo] 233:=by rw[a0];exact ah.new w _ _
 have a1:Below w.heap.size w W1:=by rw[a0];exact bz _
 have bi:W1.heap.size=w.heap.size+1:=by rw[a0];simp
 have y:J<|∀wx,Below W1.heap.size W1 wx->wx.cell? (O c 1)=some (.slice (some (z rb)) knowns.length ai)/\wx.cell? (O c 4)=some (.slice (some (z fb)) b.length fc)/\wx.cell? (O rb (R*13+1))=some (.bool false)/\wx.cell? (O rb (R*13+11))=some (.slice (some (z ab)) knowns.length knowns.length)/\wx.cell? (O ab src)=some (.int .i64 acked)/\wx.cell? (z w.heap.size)=some (.int .i64 src)/\wx.cell? (O w.heap.size 1)=some (.int .i64 R)/\wx.cell? (O w.heap.size 2)=some (.int .i64 ((m:Int)+1))/\wx.cell? (O fb (m*9+7))=some (.bool IV)/\(∀j,wx.frozen? (O fb j)=false)/\(∀j,wx.frozen? (O ab j)=false)/\Below w.heap.size w wx:=λwx hx=>by have v:Below w.heap.size w wx:=a1.trans (hx.mono a1.size);have kk:=kg.below hx;exact⟨(v.cell (p:=(O c 1)) a6).trans c1,(v.cell (p:=(O c 4)) a6).trans c4,(v.cell (p:=(O rb _)) aa).trans dn,(v.cell (p:=(O rb _)) aa).trans af,(v.cell (p:=(O ab _)) ao).trans a7,(kk.cell 0).trans rfl,(kk.cell 1).trans rfl,(kk.cell 2).trans rfl,(v.cell (p:=(O fb _)) a8).trans y7,λj=>(v.frozen (p:=(O fb j)) a8).trans (b2 j),λj=>(v.frozen (p:=(O ab j)) ao).trans (ax j),v⟩
 have A:J<|∀wx,Below W1.heap.size W1 wx->wx.cell? (O fb (m*9))=some (.int .i64 Y)/\wx.cell? (O fb (m*9+1))=some (.int .i64 Z)/\wx.cell? (O fb (m*9+2))=some (.int .i64 IU)/\wx.cell? (O fb (m*9+3))=some (.slice L X N)/\wx.cell? (O fb (m*9+4))=some (.int .i64 l)/\wx.cell? (O fb (m*9+5))=some (.slice P UK Q)/\wx.cell? (O fb (m*9+6))=some (.int .i64 xU)/\wx.cell? (O fb (m*9+8))=some (.int .i64 xW):=λwx hx=>by have v:Below w.heap.size w wx:=a1.trans (hx.mono a1.size);have G:∀s,wx.cell? (O fb s)=w.cell? (O fb s):=λs=>v.cell (p:=(O fb s)) a8;exact⟨(G _).trans y0,(G _).trans y1,(G _).trans y2,(G _).trans y3,(G _).trans y4,(G _).trans y5,(G _).trans y6,(G _).trans y8⟩
 have b8:J<|w.alloc (.cells #[.int .i64 src,.int .i64 R,.int .i64 ((m:Int)+1),.slice ko ZF kc,.int .i64 made,.slice ho hn hc,.int .i64 ap,.bool an,.int .i64 mo] 233)=W1:=a0.symm;have ba:∀o,(w.alloc o).cell? (O c 1)=some (.slice (some (z rb)) knowns.length ai):=λo=>((bz o).cell (p:=(O c 1)) a6).trans c1;have bc:∀o,(w.alloc o).cell? (O rb (R*13+1))=some (.bool false):=λo=>((bz o).cell (p:=(O rb _)) aa).trans dn;have EX:J<|ab≠c/\ab≠w.heap.size/\ab≠fb:=⟨al,V,ZA⟩;have Tq:J<|IntKind.i64.wrap (m:Int)=(m:Int):=wrap_in _ V V;have bs:=hm;clear bz a0 kg af a7 y0 y1 y2 y3 y4 y5 y6 y7 y8 b2 ax bg bh x1 S ZA az bf al ZB a1 a8 ao a6 aa;go_enter Tryz.func114,Tryz.ntmps114;go_wp2_with fail;clear c1 c4 dn r0 r1 r2 r3 r4 r5 r6 r7 r8 ba bc bi;rw[b8.o];obtain⟨d1,_,ZG,_,_,_,g1,_⟩:=y.o W1 (φ _ _)
 go_quiet (fail)
 clear d1 ZG g1;have r:Below W1.heap.size W1 (W1.drewN nq):=below_drewN (φ _ _) _;generalize W1.drewN nq=d at *;obtain⟨_,d4,_,_,_,_,_,g2,z7,_⟩:=y.o _ r;have a2:=Tq.o;obtain⟨y0,y1,y2,y3,y4,y5,y6,y8⟩:=A.o _ r;have f:J<|Below W1.heap.size W1 d:=r;clear r;have bb:∀o,(d.alloc o).cell? (O c 4)=some (.slice (some (z fb)) b.length fc):=λo=>(y.o (d.alloc o) (f.o.alloc f.o.size o)).2.1;have bd:∀o,(d.alloc o).cell? (O w.heap.size 2)=some (.int .i64 ((m:Int)+1)):=λo=>(y.o (d.alloc o) (f.o.alloc f.o.size o)).2.2.2.2.2.2.2.1;have bp:∀o,(d.alloc o).cell? (O fb (m*9+7))=some (.bool IV):=λo=>(y.o (d.alloc o) (f.o.alloc f.o.size o)).2.2.2.2.2.2.2.2.1;have ZH:∀o,(d.alloc o).cell? (O fb (m*9))=some (.int .i64 Y):=λo=>(A.o (d.alloc o) (f.o.alloc f.o.size o)).1;have ZI:∀o,(d.alloc o).cell? (O fb (m*9+1))=some (.int .i64 Z):=λo=>(A.o (d.alloc o) (f.o.alloc f.o.size o)).2.1;have ZJ:∀o,(d.alloc o).cell? (O fb (m*9+2))=some (.int .i64 IU):=λo=>(A.o (d.alloc o) (f.o.alloc f.o.size o)).2.2.1;have bk:∀o,(d.alloc o).cell? (O fb (m*9+3))=some (.slice L X N):=λo=>(A.o (d.alloc o) (f.o.alloc f.o.size o)).2.2.2.1;have bl:∀o,(d.alloc o).cell? (O fb (m*9+4))=some (.int .i64 l):=λo=>(A.o (d.alloc o) (f.o.alloc f.o.size o)).2.2.2.2.1;have bm:∀o,(d.alloc o).cell? (O fb (m*9+5))=some (.slice P UK Q):=λo=>(A.o (d.alloc o) (f.o.alloc f.o.size o)).2.2.2.2.2.1;have bn:∀o,(d.alloc o).cell? (O fb (m*9+6))=some (.int .i64 xU):=λo=>(A.o (d.alloc o) (f.o.alloc f.o.size o)).2.2.2.2.2.2.1;have bo:∀o,(d.alloc o).cell? (O fb (m*9+8))=some (.int .i64 xW):=λo=>(A.o (d.alloc o) (f.o.alloc f.o.size o)).2.2.2.2.2.2.2;go_wp2_with fail;go_cut [7]from 42 to 51 (λv7 wx=>v7=.pointer (some (z d.heap.size))/\ah wx d.heap.size #[.int .i64 Y,.int .i64 Z,.int .i64 IU,.slice L X N,.int .i64 l,.slice P UK Q,.int .i64 xU,.bool IV,.int .i64 xW] 233/\Below d.heap.size d wx)
 case first =>
  go_region_law (fail)
  all_goals
   go_wp2_with fail;go_meet;refine⟨rfl, ?_, ?_⟩
   .first|exact ah.new d _ _|exact LC (ah.new d _ _)
   .first|exact(φ _ d).alloc (χ _) _|exact((φ _ d).alloc (χ _) _).drew|exact Td ((φ _ d).alloc (χ _) _)
 case rest =>
 obtain⟨rfl,b5,b1⟩:=hcut;clear d4 g2 z7 y0 y1 y2 y3 y4 y5 y6 y8 bb bd bp ZH ZI ZJ bk bl bm bn bo a2;have LH:J<|Below W1.heap.size W1 wc:=f.o.trans (b1.mono f.o.size);have ar:J<|ah wc d.heap.size #[.int .i64 Y,.int .i64 Z,.int .i64 IU,.slice L X N,.int .i64 l,.slice P UK Q,.int .i64 xU,.bool IV,.int .i64 xW] 233:=b5;clear b5 b1;generalize wc=W3 at *;obtain⟨d1,_,_,_,_,_,g1,_⟩:=y.o _ LH.o;go_wp2_with fail
 go_quiet (fail)
 clear d1 g1;have r:Below W3.heap.size W3 (W3.drewN nq):=below_drewN (φ _ _) _;have K:J<|Below W1.heap.size W1 (W3.drewN nq):=LH.o.trans (r.mono LH.o.size);have zu:J<|ah (W3.drewN nq) d.heap.size #[.int .i64 Y,.int .i64 Z,.int .i64 IU,.slice L X N,.int .i64 l,.slice P UK Q,.int .i64 xU,.bool IV,.int .i64 xW] 233:=ar.o.below r;clear r ar LH;generalize W3.drewN nq=c8 at *;obtain⟨_,_,_,d11,Ye,g0,_⟩:=y.o _ K.o;have o4:=(zu.o.cell 4).trans rfl;by_cases b3:acked<l
 .go_wp2_with fail
  go_quiet (fail)
  clear d11 Ye g0 o4;have r:Below c8.heap.size c8 (c8.drewN nq):=below_drewN (φ _ _) _;have Yf:J<|Below W1.heap.size W1 (c8.drewN nq):=K.o.trans (r.mono K.o.size);have Tt:J<|ah (c8.drewN nq) d.heap.size #[.int .i64 Y,.int .i64 Z,.int .i64 IU,.slice L X N,.int .i64 l,.slice P UK Q,.int .i64 xU,.bool IV,.int .i64 xW] 233:=zu.o.below r;clear r zu K;generalize c8.drewN nq=h at *;obtain⟨_,_,_,d11,Ye,g0,_,_,_,_,za,BJ⟩:=y.o _ Yf.o;have o4:=(Tt.o.cell 4).trans rfl;have ac:J<|Below w.heap.size w h:=BJ;clear BJ;go_wp2_with fail;go_cut []from 69 to 78 (λwx=>wx=h.drew.setCell (O ab src) (.int .i64 l))
  case first =>
   go_region_law (fail)
   all_goals
    go_wp2_with fail;go_meet;rfl
  case rest =>
  subst hcut;clear d11 Ye g0 o4 za;have QN:J<|Below w.heap.size w h.drew:=ac.o.drew;have HE:J<|∀s,(h.drew.setCell (O ab src) (.int .i64 l)).cell? (O c s)=h.cell? (O c s)/\(h.drew.setCell (O ab src) (.int .i64 l)).cell? (O w.heap.size s)=h.cell? (O w.heap.size s)/\(h.drew.setCell (O ab src) (.int .i64 l)).cell? (O fb s)=h.cell? (O fb s)/\(h.drew.setCell (O ab src) (.int .i64 l)).frozen? (O fb s)=h.frozen? (O fb s):=λs=>⟨(cs_oth (τ EX.o.1)).trans rfl,(cs_oth (τ EX.o.2.1)).trans rfl,(cs_oth (τ EX.o.2.2)).trans rfl,(World.frozen?_setCell _ _ _ _).trans rfl⟩;obtain⟨_,d4,_,_,_,_,_,g2,z7,zf,_,_⟩:=y.o _ Yf.o;have e4:=(HE.o 4).1.trans d4;have e2:=(HE.o 2).2.1.trans g2;have e7:=(HE.o (m*9+7)).2.2.1.trans z7;have ef:∀j,(h.drew.setCell (O ab src) (.int .i64 l)).frozen? (O fb j)=false:=λj=>(HE.o j).2.2.2.trans (zf j);have Yg:J<|∀U,Below w.heap.size w ((h.drew).drewN U):=λU=>below_drewN QN.o U;have a2:=Tq.o;have bq:=ad;clear d4 g2 z7 zf HE y A;generalize aw:h.drew.setCell (O ab src) (.int .i64 l)=W6 at *;have b9:J<|W6=h.drew.setCell (O ab src) (.int .i64 l):=aw.symm;clear aw;go_wp2_with fail;go_cut []from 78 to 87 (λwx=>wx=W6.drew.setCell (O fb (m*9+7)) (.bool true))
  case first =>
   go_region_law (fail)
   all_goals
    go_wp2_with fail;go_meet;rfl
  case rest =>
  subst hcut;clear e4 e2 e7 ef a2;go_wp2_with fail;go_ret2;have hW:W6.drew.setCell (O fb (m*9+7)) (.bool true)=(IK h.drew.drew ab src (some l)).setCell (O fb (m*9+7)) (.bool true):=by rw[b9.o];(first|done|rfl)
  rw[hW];have hz:=ad.o h.drew.drew (some l) QN.o.drew;rw[show Pz (natsI c7) src (some l)=_ from ae.o.1 b3]at hz;exact⟨rfl,hz⟩
 .go_wp2_with fail
  go_quiet (fail)
  clear d11 Ye g0 o4;have r:Below c8.heap.size c8 (c8.drewN nq):=below_drewN (φ _ _) _;have Yf:J<|Below W1.heap.size W1 (c8.drewN nq):=K.o.trans (r.mono K.o.size);clear r zu K;generalize c8.drewN nq=h at *;obtain⟨_,d4,_,_,_,_,_,g2,z7,zf,_,BJ⟩:=y.o _ Yf.o;have ac:J<|Below w.heap.size w h:=BJ;have a2:=Tq.o;clear BJ;go_wp2_with fail;go_cut []from 78 to 87 (λwx=>wx=h.drew.setCell (O fb (m*9+7)) (.bool true))
  case first =>
   go_region_law (fail)
   all_goals
    go_wp2_with fail;go_meet;rfl
  case rest =>
  subst hcut;clear d4 g2 z7 zf a2;go_wp2_with fail;go_ret2;have hz:=ad.o h.drew none ac.o.drew;rw[show Pz (natsI c7) src none=_ from ae.o.2 b3]at hz;exact⟨rfl,hz⟩
