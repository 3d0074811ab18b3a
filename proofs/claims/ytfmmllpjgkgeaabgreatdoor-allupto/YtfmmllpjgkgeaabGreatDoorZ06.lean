import Derived.Test.YtfmmllpjgkgeaabGreatDoorZ05
set_option linter.all false
set_option maxHeartbeats 0
set_option maxRecDepth 100000
namespace Go.Proofs.YtfmmllpjgkgeaabGreatDoor
section
open Go.Proofs.Tryz Go.RowKit
def Ci(w:World)(c rb:Nat)(aY fv:Value)(av:Nat->Value)(room:Nat)(es:List Ev)(acc:Nat)(ld:Ld)(ah:List (List Bool))(h:bD w c rb aY fv av room es acc ld ah)(k:Nat)(m:k<ah.length)(mv:Value)(more:List Bool)(u:aI 4 w mv (bools more))(ag:more.length<=es.length)(X:(ld.ls k).lost+1<=1048576)(b:Nat)(D:(ld.ls k).arm=some b)(own:Bool):Calls prog 98 #[.pointer (some (z c)),I k,mv,.bool own] w λe w'=>e=.returned (.bool false)/\bD w' c rb aY fv av room es acc ⟨ld.I,aX ld.ls k ((ld.ls k).Ba (E5 es more own b))⟩ ah/\aA (· = rb) w w':=by
 obtain⟨aj,f1,al⟩:=h.f1;have f2:=h.f2;have an:c≠rb:=h.tc.ne h.jr Ψ;have n6:=h.n6;have n5:=h.oH;have ap:=h.kX k m;have Hr:=ω ap;obtain⟨kv,Q,B⟩:=ap.c0;obtain⟨ko,Z,rfl,_⟩:=B.shape;have N:=ω B;have a9:=ω Q;have a7:w.cell? (O rb (k*13+7))=some (.bool true):=by rw[ap.c7,D];(first|done|rfl)
 have a8:=ap.c8 b D;have a1:=ap.c1;have R:=ap.c12;obtain⟨⟨o2,l2,p2,a2⟩,⟨o3,l3,p3,a3⟩,⟨u4,a4⟩,⟨u5,a5⟩,⟨u6,S⟩,_⟩:=ap.z;have af:=h.jr.frozen;obtain⟨M,K,rfl,_⟩:=u.shape;have ab:=ω u;have H:=ω h;have HC:=ω<|h.cells m
 have ad:=pJ es more es.length;have y:J<|∀j,aA (· = rb) w j->Calls prog 61 #[aY,.slice M (bools more).length K] j λe w'=>∃s ar,e=.returned (.slice s (aH es more es.length).length ar)/\ϒ j w':=λj Y=>by have ae:=Kq (h.ae9 Y (λg hg e=>(h.zi g hg).2.ne h.jr Ψ e) (λb f e=>f.ne h.jr Ψ e));refine ψ (zh aY es _ more j V V ae (u.vk Y h.jr Ψ).A8 h.ok) ?_;rintro e w'⟨v,rfl,q,f⟩;obtain⟨s,ar,e1,_⟩:=(fF q).shape;exact⟨s,ar,by rw[e1];simp[xI],f⟩
 obtain⟨lo,A⟩:∃lo,(ld.ls k).lost=lo:=⟨_,rfl⟩;have P:=ω A;rw[A]at R X;obtain⟨n,F⟩:∃n,(aH es more es.length).length=n:=⟨_,rfl⟩;have Hn:=ω F;rw[F]at ad y;clear h u B ap A F;generalize (ld.ls k).dn.isSome=ak at *;go_enter func98,ntmps98;go_wp2_with fail;refine ψ (y.o (kY w rb (k*13) [(5,I b),(4,.bool own),(3,.slice M (bools more).length K),(2,.slice ko (bools ah[k]).length Z),(12,I ((lo:Int)+1)),(1,.bool true),(7,.bool false)]) (mZ _ _ _ _)) ?_;rintro e x⟨s,ar,rfl,l⟩;have aw:=(rM H.o.jr (k*13) [(5,I b),(4,.bool own),(3,.slice M (bools more).length K),(2,.slice ko (bools ah[k]).length Z),(12,I ((lo:Int)+1)),(1,.bool true),(7,.bool false)]);have C:∀i,i<13->x.cell? (O rb (k*13+i))=_:=λi W=>(l.cell (p:=(O rb (k*13+i))) aw.lt).trans (jv HC.o _ i W);have T:∀o,o<k*13\/k*13+13<=o->x.cell? (O rb o)=_:=λo q=>(l.cell (p:=(O rb o)) aw.lt).trans (xU _ rfl o q);have U:=(mZ _ _ _ _).below l;have x6:=(C 6 V).trans S;have G:=aw.below l;have xf:=G.frozen;have HX:J<|_:=C;have HY:J<|_:=T;have aa:=ω U;have ac:=ω G;clear C T U G aw l Q a1 a2 a3 a4 a5 S a7 a8 R f1 f2 y af;go_wp2;go_ret;have aq:aA (· = rb) w (x.setCell (O rb (k*13+6)) (I (200+80*(n:Int)))):=aa.o.setCell (p:=(O rb (k*13+6))) rfl _;have a:∀i,i≠6->i<13->(x.setCell (O rb (k*13+6)) (I (200+80*(n:Int)))).cell? (O rb (k*13+i))=_:=λi W h9=>(aT (υ V)).trans (HX.o i h9);have r:=Hr.o;have ai:∀{b:Nat}{t:TypeId},Tagged w b t->t≠64->¬b=rb:=λf ht e=>f.ne H.o.jr ht e;obtain⟨kp,k1,k2⟩:=r.c10;obtain⟨z1,z2,z3⟩:=H.o.wJ k;have key:=H.o.put m (L:=(ld.ls k).Ba (E5 es more own b)) (more:=ah[k]) aq (ac.o.setCell _ _) (λo q=>(aT (υ V)).trans (HY.o o q)) (H.o.kn _ (κ m))
  ⟨⟨_,(a 0 Ψ Ψ).trans a9.o,N.o.vk aq H.o.jr Ψ⟩,a 1 Ψ Ψ,a 7 Ψ Ψ,(a 9 Ψ Ψ).trans r.c9,⟨kp,(a 10 Ψ Ψ).trans k1,k2.aJ aq (λb f=>ai (H.o.ib b f) Ψ) (λ_ h=>h)⟩,by rw[a 12 Ψ Ψ];show some (Value.int .i64 ((lo:Int)+1))=some (I (((ld.ls k).lost+1:Nat):Int));rw[P.o];rfl,
   ⟨⟨_,_,_,a 2 Ψ Ψ⟩,⟨_,_,_,a 3 Ψ Ψ⟩,⟨_,a 4 Ψ Ψ⟩,⟨_,a 5 Ψ Ψ⟩,⟨_,bV x6⟩,⟨_,(a 8 Ψ Ψ).trans (r.c8 b D)⟩⟩,λ_ h=>(by cases h),λd E=>?_⟩ ⟨z1,by show(ld.ls k).lost+1<=_;rw[P.o];exact X,z3⟩ (λd E=>by cases E;exact ag) ((a 11 Ψ Ψ).trans (H.o.a11 k m))
 .rw[ϑy,Bl]at key;exact⟨rfl,key,aq⟩
 .cases E;exact⟨⟨_,a 2 Ψ Ψ,N.o.vk aq H.o.jr Ψ⟩,⟨_,a 3 Ψ Ψ,ab.o.vk aq H.o.jr Ψ⟩,a 4 Ψ Ψ,a 5 Ψ Ψ,by rw[bV x6];show _=some (Value.int .i64 ((200+80*(aH es more es.length).length:Nat):Int));rw[Hn.o];rfl⟩
def Sv(w:World)(c rb:Nat)(aY fv:Value)(av:Nat->Value)(room:Nat)(es:List Ev)(acc:Nat)(ld:Ld)(ah:List (List Bool))(fs:List lH)(lf:List LF)(h:bD w c rb aY fv av room es acc ld ah)(i:Int)(s:ByteArray)(hs:s.size<=1048576)(hz:∀b,oI ld ah i=0->Thk.read (ay s)=.inr b->acc<500->es.length+1<=1048576/\((ld.ls i.toNat).arm=none->(ld.ls i.toNat).made+1<=1048576)/\(ld.ls i.toNat).lost+1<=1048576):Calls prog 51 #[.pointer (some (z c)),I i,.string s] w λe w' => ∃(r:Int)(K:Value)(es':List Ev)(ba:Nat)(c5:Nat->LR)(QG:List (List Bool))(I':Nat->Prop),e=.returned (I r)/\Oj ⟨⟨es,ah,fs⟩,room,ld.ls,lf,acc⟩ i (ay s) r ⟨⟨es',QG,fs⟩,room,c5,lf,ba⟩/\(∀f,I' f->ld.I f\/w.heap.size<=f)/\(∀f,ld.I f->I' f)/\bD w' c rb K fv av room es' ba ⟨I',c5⟩ QG /\ aA (λx=>x=c\/x=rb\/aY.ownBlock=some x) w w'/\(K.ownBlock=aY.ownBlock\/∃q,K.ownBlock=some q/\w.heap.size<=q):=by
 have H:=ω h;have Hz:J<|_:=hz;clear h hz;by_cases M:oI ld ah i=0
 .obtain⟨k,N,rfl,de⟩:=wK M;have a2:=ω M;go_enter func51,ntmps51;go_wp2_with fail;refine(iG w c rb aY fv av room es _ _ ah H.o (k:Int)).mono ?_;rintro e w1⟨rfl,b1⟩;subst b1;rw[M];clear M;go_wp2_with fail;refine(VJ s _ hs).mono ?_;rintro e n⟨ds,G⟩;have t:=ω<|H.o.below G;cases hr:Thk.read (ay s) with
  | inl m =>
   rw[hr]at ds;have ct:e=.returned (.tuple #[mY,I m]):=ds;subst ct;have bu:=ω<|Thk.JV _ _ hr
   have dn:=bu.o.1;have dp:=bu.o.2;have dq:((m:Int) !=0)=true:=by rw[ϑv];omega
   have W:J<|_:=hr;clear hr ds;go_wp2;go_ret;refine⟨m,aY,es,acc,ld.ls,ah,ld.I,rfl,υ (τ ⟨m,a2.o,W.o,rfl,rfl⟩),λf h=>τ h,λ_ h=>h, ?_, ?_,τ rfl⟩
   .exact t.o.below ((φ _ _).alloc (χ _) _)
   .exact aA.of_below (G.trans (((φ _ _).alloc (χ _) _).mono G.size))
  | inr b =>
   rw[hr]at ds;obtain⟨p,v,rfl,hp,hv⟩:=ds;have W:J<|_:=hr;have Cj:J<|_:=Thk.xM _ _ hr;have Hp:J<|_:=hp;have Hv:J<|_:=hv;clear hr hp hv;have f3:=t.o.f3;obtain⟨dj,f1,dk⟩:=t.o.f1;have Kr:=t.o.oH;have h6:=t.o.n6;have a8:=t.o.tc.lt;have ax:=t.o.jr.lt;have cn:=λL=>(((φ _ n).alloc (χ _) L).cell (p:=(O c 3)) a8).trans f3;have cl:=λL=>(((φ _ n).alloc (χ _) L).cell (p:=(O c 1)) a8).trans f1;have a5:=t.o.Ol;by_cases cw:500<=acc
   .go_wp2;go_ret;refine⟨7,aY,es,acc,ld.ls,ah,ld.I,rfl,υ (υ (τ ⟨b,a2.o,W.o,cw,rfl,rfl⟩)),λf h=>τ h,λ_ h=>h, ?_, ?_,τ rfl⟩
    .exact t.o.below ((φ _ _).alloc (χ _) _)
    .exact aA.of_below (G.trans (((φ _ _).alloc (χ _) _).mono G.size))
   .obtain⟨dl,bv,ap⟩:=Hz.o b a2.o W.o V;rw[ϑE]at bv ap
    go_upto_region 10 with fail
    have aj:J<|ϒ n (n.alloc (.cells #[.string p,.int .u8 (b.act.toNat:Int),.string v,I b.n,.slice none 0 0] 124)):=(φ _ _).alloc (χ _) _;have D:=ω<|t.o.below aj.o
    have Q:J<|qR n.heap.size (.string p) (.int .u8 (b.act.toNat:Int)) (.string v) (I b.n) (.slice none 0 0) (n.alloc (.cells #[.string p,.int .u8 (b.act.toNat:Int),.string v,I b.n,.slice none 0 0] 124)):=Si (φ (n.heap.size+1) _) V;have F:J<|Tagged (n.alloc (.cells #[.string p,.int .u8 (b.act.toNat:Int),.string v,I b.n,.slice none 0 0] 124)) n.heap.size 124:=⟨_,heap_alloc_new n _⟩;have a1:n.heap.size<(n.alloc (.cells #[.string p,.int .u8 (b.act.toNat:Int),.string v,I b.n,.slice none 0 0] 124)).heap.size:=Ω
    have Y9:J<|aA (λx=>x=c\/x=rb\/aY.ownBlock=some x) w1 (n.alloc (.cells #[.string p,.int .u8 (b.act.toNat:Int),.string v,I b.n,.slice none 0 0] 124)):=aA.of_below (G.trans (aj.o.mono G.size));have cc:=ω<|λq hg=>(t.o.zi q hg).1
    have cd:=ω Y9.o.size;have ce:=ω G.size;clear f3 f1 cn cl a8 ax t aj G;generalize n.alloc (.cells #[.string p,.int .u8 (b.act.toNat:Int),.string v,I b.n,.slice none 0 0] 124)=o at *;generalize n.heap.size=e0 at *;obtain⟨⟨kv,a0,X⟩,_⟩:=D.o.kX k N;have af:J<|ah.getD k []=ah[k]:=ω<|by simp[σ N]
    have bt:=D.o.kn _ (κ N);generalize hkn:ah[k]=d at *;obtain⟨i4,a9,bb,Za,bc⟩:=info_parts Tryz.info4;have bo:(bools d).length=d.length:=by simp[bools]
    have al:=Q.o.f;have c4:=D.o.jr.lt;have cf:=D.o.tc.lt;have ca:=λL=>(((φ _ o).alloc (χ _) L).cell (p:=(O rb (k*13))) c4).trans a0;have ck:=λL=>(((φ _ o).alloc (χ _) L).cell (p:=(O e0 4)) a1).trans Q.o.c4;have co:=λL j=>(((φ _ o).alloc (χ _) L).frozen (p:=(O e0 j)) a1).trans (al j);go_cut []from 37 to 43 (λdr=>∃T S,qR e0 (.string p) (.int .u8 (b.act.toNat:Int)) (.string v) (I b.n) (.slice T d.length S) dr/\aA (λx=>x=e0) o dr/\aI 4 dr (.slice T d.length S) (bools d))
    case first =>
     rcases X with⟨rfl,da⟩|⟨B,C,pc,rfl,db,aw,pW⟩
     .have cg:d=[]:=by simpa[bools]using da
      subst cg;have e4:=Q.o.c4;go_wp2_with (at_builtin;refine wpList_append_own_none rfl (.tmp 37) (.tmp 41) 61 rfl o.heap.size 4 i4 1 underlying61 a9 (.slice (some (z _)) 0 0) 0 [] rfl (gq _ _ rfl (χ _)) rfl ?_);go_meet;rw[<- World.setCell_alloc_past _ e0 4 _ a1];have bn:ϒ o (o.alloc (.cells #[] 4)):=(φ _ _).alloc (χ _) _;obtain⟨z1,z2⟩:=al4 Q.o F.o bn (.slice (some (z o.heap.size)) 0 0);exact⟨_,_,z1,z2,aI.vk (s:=124) (fF (gq (e:=4) (base:=0) o _ rfl (Nat.zero_le _))) ((aA.refl (λx=>x=e0) _).setCell (p:=(O e0 4)) rfl _) (F.o.below bn) Ψ⟩
     .have az:J<|∀dr,ϒ o dr->∀j u,(bools d)[j]?=some u->dr.cell? (((O B C):Addr).add j)=some u:=by
       intro dr b3 j u g;have a3:j<(bools d).length:=by
        rcases Nat.lt_or_ge j (bools d).length with h|h
        .exact h
        .rw[ϑq h]at g;cases g
       have ds:((O B C):Addr).add j=(O B (C+j)):=by unfold Addr.add;split<;>simp_all
       rw[ds,b3.cell (p:=(O B (C+j))) aw.lt,pW j a3];rw[σ a3]at g;exact g
      have ar:J<|∀u∈bools d,u.oneCell'=true:=by intro u y;simp[bools]at y;rcases y with⟨_,rfl⟩|⟨_,rfl⟩<;>rfl
      clear pW;rw[bo]at *;go_wp2_with (at_builtin;go_loud (refine wpList_append_own _ rfl (.tmp 37) (.tmp 41) 61 rfl o.heap.size 4 i4 (.bool false) 1 1 underlying61 a9 bb Za bc rfl Ψ (.slice (some (z _)) 0 0) 0 [] rfl (gq _ _ rfl (χ _)) (O B C) d.length pc (bools d) rfl (by simp[bools]) (az.o _ ((φ _ _).alloc (χ _) _)) ar.o (by unfold maxLen;omega) V Ω ?_;intro v5 w5 c2 cx _;have Bj:ϒ o w5:=((φ _ _).alloc (χ _) _).grown cx Ω (λkk ao=>by simp[Value.ownBlock]at ao;omega);obtain⟨ae,ac,rfl,_⟩:=(fF c2).shape;have di:=(Bj.cell (p:=(O e0 4)) a1).trans Q.o.c4;have f45:=λj=>(Bj.frozen (p:=(O e0 j)) a1).trans (al j)));go_meet;have aa:aI 4 w5 (.slice ae (bools d).length ac) (bools d):=by have:=fF c2;simpa using this
      have e:(bools d).length=d.length:=by simp[bools]
      obtain⟨z1,z2⟩:=al4 Q.o F.o Bj (.slice ae (bools d).length ac);have z3:=aI.vk (s:=124) aa ((aA.refl (λx=>x=e0) _).setCell (p:=(O e0 4)) rfl (.slice ae (bools d).length ac)) (F.o.below Bj) Ψ;rw[e]at z1 z2 z3⊢;exact⟨ae,ac,z1,z2,z3⟩
    case rest =>
    obtain⟨T,S,bk,ak,aa⟩:=hcut;have bx:=λq hg=>Nat.ne_of_lt (cc.o q hg);have cs:c≠e0:=D.o.tc.ne F.o Ψ;have dc:rb≠e0:=D.o.jr.ne F.o Ψ;have U:J<|bD wc c rb aY fv av room es acc ld ah:=D.o.aJ ak cs dc bx (λf Z=>Z.ne F.o Ψ) (λf Z=>(D.o.ib f Z).ne F.o Ψ);have ci:=ω bk;have bd:=ω aa;have b2:J<|aA (λx=>x=c\/x=rb\/aY.ownBlock=some x) w1 wc:=Y9.o.trans' ak (λx hx h=>by subst h;have:=ce.o;omega);have be:=ω b2.o.size;clear Q F a1 Y9 cd D a0 X al c4 cf ca ck co ak aa bx bo;generalize wc=W5 at *;obtain⟨jP,dd,c1,Y6⟩:=U.o.evs;have bf:=ω Y6;have Cm:=ω c1;have g2:=U.o.f2;obtain⟨d0,d1,d2,d3,d4,df⟩:=bk;have ab:=U.o.tc;have bp:=ab.frozen;have ag:=ab.lt;have Oo:J<|∀x,aY.ownBlock=some x->x≠c:=λx hx=>(U.o.zi x hx).2.ne ab Ψ;obtain⟨iE,bs,bg,bh,bi⟩:=info_parts Tryz.infoEv;have b7:J<|∀u∈[Value.string p,.int .u8 (b.act.toNat:Int),.string v,I b.n,.slice T d.length S],u.oneCell'=true:=by intro u y;simp at y;rcases y with rfl|rfl|rfl|rfl|rfl<;>rfl
    have m1:J<|es.length+1<=maxLen:=by unfold J maxLen;omega
    have m2:J<|(es.length+1)*72<=140737488355328:=ω V
    clear Y6 c1 ab;go_wp2_with fail;go_cut []from 44 to 53 (λdr=>∃w6 K,dr=w6.setCell (O c 2) K/\aA (λx=>aY.ownBlock=some x) W5 w6/\w6.ownsRow 0 124 5 K (es.length+1) (fA es jP++[.string p,.int .u8 (b.act.toNat:Int),.string v,I b.n,.slice T d.length S])/\(K.ownBlock=aY.ownBlock\/∃q,K.ownBlock=some q/\W5.heap.size<=q))
    case first =>
     go_region_law (refine iU rfl (.tmp 48) (.tmp 50) 35 rfl 124 iE mY 5 72 underlying35 bs bg bh bi rfl Ψ aY es.length (fA es jP) rfl ?_ _ 1 1 [.string p,.int .u8 (b.act.toNat:Int),.string v,I b.n,.slice T d.length S] rfl rfl ?_ b7.o m1.o m2.o (Nat.succ_pos _) ?_;(exact Cm.o.alloc _);(intro j u g;match j,g with|0,g=>(cases g;simp[Addr.add])|1,g=>(cases g;simp[Addr.add])|2,g=>(cases g;simp[Addr.add])|3,g=>(cases g;simp[Addr.add])|4,g=>(cases g;simp[Addr.add]));intro A E w6 a4 eG rP;have R:aA (λx=>aY.ownBlock=some x) W5 w6:=aA.grown (aA.of_below Γ) eG (λk N=>τ N);have k2:=(η (w:=W5) (a:=(O c 2)) (R.block c ag (λh=>Oo.o c h rfl))).trans g2;have kf:=λj=>(World.frozen?_of_block (w:=W5) (a:=(O c j)) (R.block c ag (λh=>Oo.o c h rfl))).trans (bp j))
     all_goals
      go_wp2_with fail;go_meet;refine⟨_,_,rfl,R,a4, ?_⟩;rcases rP with h|h
      .exact τ h.symm
      .refine υ ⟨A,rfl, ?_⟩;simp at h;omega
    case rest =>
    obtain⟨w6,K,rfl,R,a4,bz⟩:=hcut;obtain⟨A,E,rfl⟩:=dK a4 V;have c0:RV ⟨p,b.act,v,b.n,d⟩:=by
     have ho:=Cj.o;have Y:p.size=b.path.length:=by rw[<- aB,Hp.o]
     have h2:v.size=b.val.length:=by rw[<- aB,Hv.o]
     exact⟨by simp only[];omega,by simp only[];omega,ho.2.2.1,ho.2.2.2.1,by simp only[];omega⟩
    have H7:J<|bD (w6.setCell (O c 2) (.slice (some (z A)) (es.length+1) E)) c rb (.slice (some (z A)) (es.length+1) E) fv av room (es++[⟨p,b.act,v,b.n,d⟩]) acc ld ah:=U.o.more R ⟨p,b.act,v,b.n,d⟩ c0 (.slice T d.length S) bd.o jP dd bf.o V a4;have dg:J<|aA (λx=>x=c\/x=rb\/aY.ownBlock=some x) w1 (w6.setCell (O c 2) (.slice (some (z A)) (es.length+1) E)):=(b2.o.trans' R (λx _ hx=>υ (υ hx))).setCell (p:=(O c 2)) (τ rfl) _;have b8:J<|(Value.slice (some (z A)) (es.length+1) E).ownBlock=aY.ownBlock\/∃q,(Value.slice (some (z A)) (es.length+1) E).ownBlock=some q/\w1.heap.size<=q:=by
     rcases bz with h|⟨q,Y,h2⟩
     .exact τ h
     .exact υ ⟨q,Y,ς be.o h2⟩
    clear R a4 bz c0 U ci bd b2 be bf Cm g2 d0 d1 d2 d3 d4 df bp ag Oo b7 m1 m2 bs bg bh bi;generalize w6.setCell (O c 2) (.slice (some (z A)) (es.length+1) E)=l at *;have q2:=H7.o.f2;obtain⟨⟨kv,a0,X⟩,_⟩:=H7.o.kX k N;rw[hkn]at X;have ax:=H7.o.jr.lt;have a8:=H7.o.tc.lt;have b6:∀dr,ϒ l dr->dr.cell? (O rb (k*13))=some kv:=λdr hx=>(hx.cell (p:=(O rb (k*13))) ax).trans a0;have c7:J<|_:=b6;have c8:=ω X;obtain⟨ko,kc,rfl,dm⟩:=X.shape;clear b6;have cj:(bools d).length=d.length:=by simp[bools]
    have az:J<|∀dr,ϒ l dr->0<(bools d).length->∃ad,ko=some ad/\∀j u,(bools d)[j]?=some u->dr.cell? (ad.add j)=some u:=by
     intro dr b3 c3;rcases c8.o with⟨Y,h2⟩|⟨B,C,pc,Y,db,aw,pW⟩
     .rw[h2]at c3;simp at c3
     .simp only[ϑa]at Y;refine⟨(O B C),Y.1,λj u g=>?_⟩;have a3:j<(bools d).length:=by
       rcases Nat.lt_or_ge j (bools d).length with h|h
       .exact h
       .rw[ϑq h]at g;cases g
      have ds:((O B C):Addr).add j=(O B (C+j)):=by unfold Addr.add;split<;>simp_all
      rw[ds,b3.cell (p:=(O B (C+j))) aw.lt,pW j a3];rw[σ a3]at g;exact g
    have ar:J<|∀u∈bools d,u.oneCell'=true:=by intro u y;simp[bools]at y;rcases y with⟨_,rfl⟩|⟨_,rfl⟩<;>rfl
    have cz:J<|(bools d).length=Nat.min d.length (es.length+1):=cj.trans (Nat.min_eq_left V).symm;have cb:J<|(prog.info? 4).map (·.size)=some 1:=ω<|by rw[a9];simp[Za]
    have cq:J<|i4.bytes*(es.length+1)<=281474976710656:=ω<|by rw[bc];omega
    have cy:J<|es.length+1<=maxLen:=by unfold J maxLen;omega
    have cv:J<|0+(bools d).length<=(List.replicate (es.length+1) (Value.bool false)).length:=ω<|Θ
    go_upto_region 13 with(at_make;(refine wpList_make_full _ rfl (.tmp 58) (.tmp 58) 61 rfl l.heap.size 4 i4 (.bool false) 1 underlying61 a9 bb Za .i64 .i64 _ _ (es.length+1) rfl rfl (by first|rfl|omega) (by first|rfl|omega) cq.o cy.o (χ _) ?_;intro w8 b9 bq;have a7:ϒ l w8:=(φ _ _).grown bq (χ _) (λkk ao=>by cases ao);have c9:=c7.o _ a7;have br:J<|w8.heap[l.heap.size]?=some (.cells (List.replicate (es.length+1) (Value.bool false)).toArray 4 (0,0)):=(by have:=VK b9;rw[FV,Nat.mul_one]at this;exact this)))
    go_wp2_with (refine wpList_copy_splice rfl (.tmp 60) (.tmp 64) 61 61 rfl 4 underlying61 cb.o _ _ _ _ _ _ rfl rfl l.heap.size 0 (List.replicate (es.length+1) (Value.bool false)) 4 br.o (bools d) cz.o (λhp=>⟨rfl,az.o _ a7 hp⟩) cv.o ar.o l.heap.size l a7 (χ _) ?_;intro w9 an bj;have aq:=Oh bt an.out;have cr:=aq.2;have cp:J<|Tagged w9 l.heap.size 4:=⟨_,an.out⟩;have cu:=cp.o.frozen);have Zb:ϒ l (w9.setCell (O l.heap.size es.length) (.bool true)):=bj.setCell (p:=(O l.heap.size es.length)) (χ _) _;have a6:=H7.o.below Zb;have b5:J<|aI 4 (w9.setCell (O l.heap.size es.length) (.bool true)) _ (bools (dw d es.length)):=aq.1;have VR:=ω<|dg.o.below Zb
    have a6:=ω a6;have bw:(dw d es.length).length<=(es++[(⟨p,b.act,v,b.n,d⟩:Ev)]).length:=by rw[jD _ _ bt];simp
    have b4:J<|Y4 b (ah.getD k []) ⟨p,b.act,v,b.n,d⟩:=⟨Hp.o,rfl,Hv.o,rfl,af.o.symm⟩;clear aq cr cu bj an br a7 c9 a0 q2 bq b9;generalize w9.setCell (O l.heap.size es.length) (.bool true)=qV at *;cases harm:(ld.ls k).arm with
    | none =>
     have HW:=write_any _ c rb _ fv av room _ _ _ ah a6.o k N _ (dw d es.length) b5.o bw ⟨bv harm,ap⟩ de harm true;refine ψ HW ?_;clear HW;rintro e NM⟨rfl,⟨I',bl,bm,P⟩,VT⟩;have HI:J<|(∀f,I' f->ld.I f\/w1.heap.size<=f)/\(∀f,ld.I f->I' f):=⟨λf Z=>(bl f Z).imp id (λh=>ς VR.o.size h),bm⟩;clear bl bm;have r3:=P.f3;have rf:=P.tc.frozen;have hA:J<|bD (NM.setCell (O c 3) (I ((acc+1:Nat):Int))) c rb (.slice (some (z A)) (es.length+1) E) fv av room (es++[⟨p,b.act,v,b.n,d⟩]) (acc+1) ⟨I',aX ld.ls k ((ld.ls k).write room)⟩ (ah.set k (dw d es.length)):=P.accept (acc+1) V;have ai:=ω<|VR.o.trans' VT (λx _ h=>υ (τ h))
     have Ir:=ω harm;clear VT P VR Zb harm;go_wp2;go_ret;refine⟨0,.slice (some (z A)) (es.length+1) E,es++[(⟨p,b.act,v,b.n,d⟩:Ev)],acc+1,aX ld.ls k ((ld.ls k).write room),ah.set k (dw d es.length),I',rfl, ?_,HI.o.1,HI.o.2,hA.o, ?_,b8.o⟩
     .refine υ (υ (υ ⟨b,_,a2.o,W.o,by show acc<500;omega,b4.o, ?_⟩));simp only[ϑE,Ir.o,af.o];exact⟨trivial,trivial⟩
     .exact ai.o.setCell (p:=(O c 3)) (τ rfl) _
    | some f =>
     have HW:=Ci _ c rb _ fv av room _ _ _ ah a6.o k N _ (dw d es.length) b5.o bw ap f harm true;refine ψ HW ?_;clear HW;rintro e NM⟨rfl,P,VT⟩;have hA:=ω P;have ai:=ω<|VR.o.trans' VT (λx _ h=>υ (τ h))
     have Ir:=ω harm;clear VT P VR Zb harm;go_wp2;go_ret;refine⟨8,_,es++[⟨p,b.act,v,b.n,d⟩],acc,_,ah,ld.I,rfl, ?_,λf h=>τ h,λ_ h=>h,hA.o,ai.o,b8.o⟩;refine υ (υ (υ ⟨b,_,a2.o,W.o,by show acc<500;omega,b4.o, ?_⟩));simp only[ϑE,Ir.o,af.o];exact⟨trivial,trivial⟩
 .go_enter func51,ntmps51;go_wp2_with fail;refine(iG w c rb aY fv av room es _ _ ah H.o i).mono ?_;rintro e w1⟨rfl,b1⟩;subst b1;have Hi:J<|oI ld ah i≠0:=M;obtain⟨u,y⟩:∃u,oI ld ah i=u:=⟨_,rfl⟩;have Hu:=ω y;rw[y]at M⊢;have Z:=ϑv.2 M;clear y M;go_wp2;go_ret;exact⟨u,aY,es,acc,ld.ls,ah,ld.I,rfl,τ ⟨Hi.o,Hu.o.symm,rfl⟩,λf h=>τ h,λ_ h=>h,H.o,aA.refl _ _,τ rfl⟩
end
section
open Go.Proofs.Tryz Go.RowKit Go.Deep
variable{r:Nat}{w:World}
def ES(w:World)(r B:Nat)(v:Value):Prop:=∃b,v=.slice (some (z b)) r r/\B<=b/\aI 3 w v (ints (bW (List.replicate r 0)))
def af8(w:World)(r B:Nat)(oN:List Value):Prop:=∀a∈oN,ES w r B a
def ES.aJ{M:Nat->Prop}{w':World}{B:Nat}{v:Value}(h:ES w r B v)(f:aA M w w')(e:∀b,Tagged w b 3->¬M b):ES w' r B v:=by obtain⟨b,a,c,d⟩:=h;exact⟨b,a,c,d.aJ f e⟩
def ES.of{B g:Nat}(a:w.heap[g]?=some (.cells (madeCells #[I 0] r) 3 (0,0)))(b:B<=g):ES w r B (.slice (some (z g)) r r):=by
 have e:(madeCells #[I 0] r).toList=List.replicate r (I 0):=by
  apply List.ext_getElem
  .simp[madeCells]
  .intro i f h;simp[madeCells,Nat.mod_one]
 refine⟨g,rfl,b,υ ⟨g,0,r,by simp[ints,bW],by simp[ints,bW],⟨_,a⟩,λj c=>?_⟩⟩;have d:j<r:=by simpa[ints,bW]using c
 simp only[World.cell?,a,Nat.zero_add];show(madeCells #[I 0] r)[j]?=_;rw[<- ϑD,e];simp[ints,bW,d]
def ES.new(w:World)(r:Nat)(o:Obj):ES ((w.alloc (.cells (madeCells #[I 0] r) 3)).alloc o) r w.heap.size (.slice (some (z w.heap.size)) r r) :=
 ES.of ((((φ (w.alloc (.cells (madeCells #[I 0] r) 3)).heap.size _).alloc (χ _) o).block w.heap.size Ω).trans (heap_alloc_new w _)) (χ _)
def Oq{c rb room g:Nat}{e:List Value}(d:qR c (I room) (.slice (some (z rb)) r g) (.slice none 0 0) (I 0) (.slice none 0 0) w)(y:Tagged w c 38)(base:Nat)(l:w.ownsRow base 64 13 (.slice (some (z rb)) r g) r (mF e))(C:e.length=r)(x:r<=6)(q:room<=50):bD w c rb (.slice none 0 0) (.slice none 0 0) (λi=>e.getD i .nilFunc) room [] 0 ⟨λ_=>False,λ_=>⟨0,0,[],λ_=>0,none,none⟩⟩ (List.replicate r []):=by
 have a:∀i,i<r->∀j,j<13->w.cell? (O rb (i*13+j))=(jg (e.getD i .nilFunc))[j]?:=by intro i f j u;rw[l.cellAt _ V,J8 e i V j u];congr 2;rw[ξ,σ V];(first|done|rfl)
 obtain⟨D,⟨p,_⟩|⟨B,A,n,m,_,t,s,_⟩⟩:=l
 .cases p
 .simp only[ϑa,ϑb,ϑz,ϑM,ϑN]at m;obtain⟨rfl,rfl⟩:=m;refine⟨y,⟨n,t⟩,q,by simpa using x,Ω,d.c0,⟨g,by simpa using d.c1,by simpa using s⟩,d.c2,by simpa using d.c3,V,λi=>⟨Ω,Ω,Ω⟩,⟨[],rfl,ϑj _ _ _ _,λj h=>by simp at h⟩,Ω, ?_, ?_, ?_, ?_,λ_ h=>h.elim,λ_ _ h=>(by cases h)⟩
  .intro i f;have b:i<r:=by simpa using f
   rw[List.getElem_replicate];have k:=a i b 0 V;rw[Nat.add_zero]at k;exact⟨⟨_,k,τ ⟨rfl,rfl⟩⟩,a i b 1 V,a i b 7 V,a i b 9 V,⟨_,a i b 10 V,τ ⟨rfl,rfl⟩,λ_ _ _ _ o=>(by cases o)⟩,a i b 12 V,⟨⟨_,_,_,a i b 2 V⟩,⟨_,_,_,a i b 3 V⟩,⟨_,a i b 4 V⟩,⟨_,a i b 5 V⟩,⟨_,a i b 6 V⟩,⟨_,a i b 8 V⟩⟩,λ_ h=>(by cases h),λ_ h=>(by cases h)⟩
  .intro E v;have:=List.eq_of_mem_replicate v;rw[this];simp
  .exact d.c4
  .intro i f;exact a i (by simpa using f) 11 V
def Kt(r room:Nat)(w:World)(aj:1<=r)(h6:r<=6)(a6:room<=50):Calls prog 44 #[I r,I room] w λe w'=>∃rb c,e=.returned (.pointer (some (z w.heap.size)))/\bD w' w.heap.size rb (.slice none 0 0) (.slice none 0 0) (λi=>c.getD i .nilFunc) room [] 0 ⟨λ_=>False,λ_=>⟨0,0,[],λ_=>0,none,none⟩⟩ (List.replicate r [])/\af8 w' r w.heap.size c/\c.Nodup/\c.length=r/\ϒ w w'/\w.heap.size<=rb:=by
 obtain⟨iR,VU,Z,CJ,CO⟩:=info_parts Tryz.infoRep;have ah:∀u:World,(Instr.makeSlice 62 (I r) (I r)).run prog u=.ok (.slice (some (z u.heap.size)) r r) (u.alloc (.cells (madeCells #[I 0] r) 3)):=λu=>run_make_row' 62 3 (I 0) 8 underlying62 Tryz.info3 rfl .i64 .i64 r V V u;go_enter func44,ntmps44;go_wp2;go_loopw [6] (λi wr=>∃(k:Nat)(c:List Value)(rv:Value),k<=r/\i=I k/\(c.length=k/\J c.Nodup/\af8 wr r w.heap.size c)/\qR w.heap.size (I room) rv (.slice none 0 0) (I 0) (.slice none 0 0) wr/\Tagged wr w.heap.size 38/\wr.ownsRow (w.heap.size+1) 64 13 rv k (mF c)/\ϒ w wr/\w.heap.size+1<=wr.heap.size) (λi _=>r-(intOf i).toNat);case atStart=>exact⟨0,[],.slice none 0 0,V,rfl,⟨rfl,List.nodup_nil,λa h=>absurd h Ω⟩,Si (φ (w.heap.size+1) _) V,⟨_,heap_alloc_new w _⟩,ϑj _ _ _ _,(φ _ _).alloc (χ _) _,Ω⟩
 case round =>
  obtain⟨k,c,rv,F,rfl,⟨P,T,E⟩,m,C,l,U,ai⟩:=hrel;have K:=ω E;clear E;by_cases ag:k<r
  .have d:=ω l;have a1:=ω m;have v:=ω C;have L:=m.c1;have G:w.heap.size<wr.heap.size:=V
   have ad:=λo=>(((φ _ wr).alloc (χ _) o).cell (p:=(O w.heap.size 1)) G).trans L;have ae:∀o H,((wr.alloc o).alloc H).cell? (O w.heap.size 1)=some rv:=λo H=>((((φ wr.heap.size wr).alloc (χ _) o).alloc Ω H).cell (p:=(O w.heap.size 1)) G).trans L;have m1:J<|k+1<=maxLen:=by unfold J maxLen;omega
   have m2:J<|(k+1)*184<=140737488355328:=ω V
   have aa:J<|∀av:Value,av.oneCell'=true->∀Q∈jg av,Q.oneCell'=true:=by intro av E Q Y;simp only[jg,ϑL,List.mem_nil_iff,ϑO]at Y;rcases Y with rfl|rfl|rfl|rfl|rfl|rfl|rfl|rfl|rfl|rfl|rfl|rfl|rfl<;>first|rfl|exact E
   clear l m C;have a0:=ω<|λo=>ES.new wr r o
   have a2:J<|∀o,ES ((wr.drew.alloc (.cells (madeCells #[I 0] r) 3)).alloc o) r wr.heap.size (.slice (some (z wr.heap.size)) r r):=λo=>ES.new wr.drew r o;have ac:J<|w.heap.size<=wr.heap.size:=ω V
   go_wp2_with fail
   go_region_law (refine jL rfl (.tmp 33) (.tmp 37) 34 rfl (w.heap.size+1) 64 iR (.agg (jg (.slice none 0 0)).toArray) 13 184 underlying34 VU Z CJ CO rfl Ψ rv k (mF c) rfl ?_ _ 1 1 (jg (.slice (some (z wr.heap.size)) r r)) rfl rfl ?_ (aa.o _ rfl) m1.o m2.o ?_ ?_;(first|exact(d.o.alloc _).alloc _|exact d.o.alloc _);(intro j Q b;match j,b with|0,b=>(cases b;simp[Addr.add])|1,b=>(cases b;simp[Addr.add])|2,b=>(cases b;simp[Addr.add])|3,b=>(cases b;simp[Addr.add])|4,b=>(cases b;simp[Addr.add])|5,b=>(cases b;simp[Addr.add])|6,b=>(cases b;simp[Addr.add])|7,b=>(cases b;simp[Addr.add])|8,b=>(cases b;simp[Addr.add])|9,b=>(cases b;simp[Addr.add])|10,b=>(cases b;simp[Addr.add])|11,b=>(cases b;simp[Addr.add])|12,b=>(cases b;simp[Addr.add]));(simp;omega);intro v6 w6 W R;obtain⟨q,n,rfl⟩:=dK W (Nat.succ_pos _);have f:aA (λx=>rv.ownBlock=some x) wr w6:=aA.grown (aA.of_below Γ) R (λk F=>τ F);have a8:ES w6 r wr.heap.size (.slice (some (z wr.heap.size)) r r):=ES.aJ (by first|exact a0.o _|exact a2.o _) (aA.grown (M:=λx=>rv.ownBlock=some x) (aA.refl _ _) R (λk F=>τ F)) (FY (by first|exact(d.o.alloc _).alloc _|exact d.o.alloc _) Ψ);have k1:=(η (w:=wr) (a:=(O w.heap.size 1)) (f.block w.heap.size G (λh=>Tagged.ne (pO d.o _ h) v.o Ψ rfl))).trans L;have kf:∀j,w6.frozen? (O w.heap.size j)=false:=λj=>(World.frozen?_of_block (w:=wr) (a:=(O w.heap.size j)) (f.block w.heap.size G (λh=>Tagged.ne (pO d.o _ h) v.o Ψ rfl))).trans (v.o.frozen j))
   all_goals
    go_wp2;go_roundw;case rel =>
     have y:Below (w.heap.size+1) wr w6:=⟨f.os,f.tape,f.output,f.size,λi hi=>f.block i V (λh=>by have:=(d.o.lt i h).1;omega)⟩;have D:Tagged w6 w.heap.size 38:=by obtain⟨a5,hh⟩:=v.o;exact⟨a5,(y.block w.heap.size V).trans hh⟩
     have a7:=(a1.o.below y V).set1 (.slice (some (z q)) (k+1) n) (λj=>(D.setCell _ _).frozen j);have ET:ϒ w (w6.setCell (O w.heap.size 1) (.slice (some (z q)) (k+1) n)):=(U.trans (y.mono V)).setCell (p:=(O w.heap.size 1)) (χ _) _;have X:aA (λx=>x=w.heap.size) w6 (w6.setCell (O w.heap.size 1) (.slice (some (z q)) (k+1) n)):=(aA.refl (λx=>x=w.heap.size) w6).setCell (p:=(O w.heap.size 1)) rfl _;have a3:af8 (w6.setCell (O w.heap.size 1) (.slice (some (z q)) (k+1) n)) r w.heap.size (c++[.slice (some (z wr.heap.size)) r r]):=by
      intro a N;rcases θ.1 N with aj|aj
      .exact((K.o a aj).aJ f (FY d.o Ψ)).aJ X (λA t e=>Tagged.ne t D Ψ e)
      .have e:a=_:=ϑe.1 aj;rw[e];obtain⟨A,S,B,s⟩:=a8;exact ES.aJ (w:=w6) ⟨A,S,ς ac.o B,s⟩ X (λA t e=>Tagged.ne t D Ψ e)
     have a4:J (c++[Value.slice (some (z wr.heap.size)) r r]).Nodup:=by
      unfold J;rw[List.nodup_append];refine⟨T.o,Ω,λa N A t e=>?_⟩;rw[ϑe.1 t]at e;obtain⟨g,aj,S,B⟩:=K.o a N;rw[aj]at B e;rcases B with⟨s,_⟩|⟨b',H,c',s,_,h5,_⟩
      .cases s
      .simp only[ϑa,ϑb,ϑz]at s e;have:=h5.lt;omega
     exact⟨k+1,c++[.slice (some (z wr.heap.size)) r r],.slice (some (z q)) (k+1) n,V,Λ,⟨by simp[P],a4,a3⟩,a7,D.setCell _ _,by rw[Io];exact ownsRow_setCell_below W (by show w.heap.size<w.heap.size+1;omega) _,ET,by have:=y.size;simp;omega⟩
    case measure=>simp[intOf];omega
  .have a9:k=r:=V
   subst a9;obtain⟨rb,af,rfl⟩:=dK l V;have HF:J<|_:=Oq m C _ l P h6 a6;have ab:w.heap.size<=rb:=by have:=(l.lt rb rfl).1;omega
   clear l m C;go_wp2;go_ret;exact⟨rb,c,rfl,HF.o,K.o,T.o,P,U,ab⟩
end
section
open Go.Proofs.Tryz Go.RowKit
def Zc(ld:Ld)(es:List Ev)(kn:List (List Bool))(i:Int)(p:Thk.Bs):Thk.Bs×Int:=if oI ld kn i=0 then EZ es kn i p else([],oI ld kn i)
def Zd(w:World)(c rb:Nat)(aY fv:Value)(av:Nat->Value)(room:Nat)(es:List Ev)(acc:Nat)(ld:Ld)(ah:List (List Bool))(h:bD w c rb aY fv av room es acc ld ah)(i:Int)(path:ByteArray)(D:path.size<=1048576):Calls prog 23 #[.pointer (some (z c)),I i,.string path] w λe w' => ∃t,e=.returned (.tuple #[.string t,I (Zc ld es ah i (ay path)).2])/\ay t=(Zc ld es ah i (ay path)).1/\ϒ w w':=by
 have H:=ω h;by_cases l:oI ld ah i=0
 .have y:Zc ld es ah i (ay path)=EZ es ah i (ay path):=ώ l;rw[y];obtain⟨k,q,rfl,hu⟩:=wK l;have P:0<=(k:Int)/\(k:Int)<ah.length:=V
  clear y;have j:J<|EZ es ah (k:Int) (ay path)=if Thk.path (ay path) then(zY es (aH es ah[k] es.length) (ay path),0) else([],4):=by unfold J EZ;rw[ώ P];simp[σ q]
  obtain⟨X,f1,a0⟩:=h.f1;have f2:=h.f2;obtain⟨E,x,C⟩:=(h.kX k q).c0;have Y:=h.n6;have K:=ω C;have o:=h.tc.lt;have R:=h.jr.lt;have v:=ω h.VO;have s:=ω h.ok;have W:=h.oH;have a1:=h.kn _ (κ q);clear C h;generalize ah[k]=d at *;go_enter func23,ntmps23;go_wp2_with fail;refine(iG w c rb aY fv av room es acc ld ah H.o (k:Int)).mono ?_;rintro e U⟨rfl,r⟩;subst r;rw[l];go_wp2_with fail;refine(JQ path _ D).mono ?_;rintro e n⟨rfl,b⟩;cases hp:Thk.path (ay path)
  .have g:J<|EZ es ah (k:Int) (ay path)=([],4):=ω<|by rw[j.o,hp];(first|done|rfl)
   clear hp;go_wp2;go_ret2;exact⟨ByteArray.empty,by rw[g.o];rfl,by rw[g.o];rfl,b⟩
  .have g:J<|EZ es ah (k:Int) (ay path)=(zY es (aH es d es.length) (ay path),0):=ω<|by rw[j.o,hp];(first|done|rfl)
   have L:=ω hp;have g1:=(b.cell (p:=(O c 1)) o).trans f1;have g2:=(b.cell (p:=(O c 2)) o).trans f2;have g0:=(b.cell (p:=(O rb (k*13))) R).trans x;clear hp f1 f2 x;go_wp2_with fail;have a2:J<|∀a:World,ϒ n a->Calls prog 61 #[aY,E] a λe w'=>∃F,e=.returned F/\w'.ownsRow a.heap.size 3 1 F (aH es d es.length).length (xI (aH es d es.length))/\ϒ a w':=by intro a T;have f:=b.trans (T.mono b.size);exact zh aY es E d a V V ((v.o.below f).mono f.size) ((K.o.A8.below f).mono f.size) s.o
   go_cut [10]from 21 to 33 (λM a=>aI 3 a M (xI (aH es d es.length))/\ϒ n a);case first =>
    go_region_with (go_at_call 61;refine(a2.o _ ?_).mono ?_;(go_grown);rintro e w3⟨v3,rfl,Q,f⟩);all_goals
     go_wp2_with fail;go_meet;exact⟨fF Q,Below.trans Γ (f.mono Ω)⟩
   case rest =>
   obtain⟨A,B⟩:=hcut;have m:=b.trans (B.mono b.size);have k2:=(B.cell (p:=(O c 2)) (ο o b.size)).trans g2;have G:J<|_:=VE wc.heap.size aY es _ (aH es d es.length) path wc (χ _) V ((v.o.below m).mono m.size) A.A8 (Og _ _ _) (by have:=pJ es d es.length;omega) s.o D L.o;clear g0 g1 g2 A a2;go_wp2_with fail;refine ψ G.o ?_;rintro e w6⟨t,rfl,S,N⟩;go_wp2;go_ret2;exact⟨t,by rw[g.o];rfl,by rw[g.o];exact S,m.trans (N.mono m.size)⟩
 .have j:J<|Zc ld es ah i (ay path)=([],oI ld ah i):=ύ l;have Z:=ϑv.2 l;clear h;go_enter func23,ntmps23;go_wp2_with fail;refine(iG w c rb aY fv av room es acc ld ah H.o i).mono ?_;rintro e U⟨rfl,r⟩;subst r;generalize oI ld ah i=u at *;go_wp2;go_ret2;exact⟨ByteArray.empty,by rw[j.o];rfl,by rw[j.o];rfl,φ _ _⟩
section
variable{w w':World}{c rb:Nat}{aY fv:Value}{av:Nat->Value}{room:Nat}{es:List Ev}{acc:Nat}{ld:Ld}{ah:List (List Bool)}
def Ku(h:bD w c rb aY fv av room es acc ld ah){k:Nat}(b:k<ah.length)(u:(ld.ls k).lost+1<=1048576)(x:(ld.ls k).dn=none):Calls prog 104 #[.pointer (some (z c)),I k] w λj w'=>j=.returned (.tuple #[])/\bD w' c rb aY fv (aX av k (.slice (some (z w.heap.size)) ah.length ah.length)) room es acc ⟨ld.I,aX ld.ls k (ld.ls k).lose⟩ ah/\ES w' ah.length w.heap.size (.slice (some (z w.heap.size)) ah.length ah.length)/\aA (· = rb) w w':=by
 obtain⟨U,f1,E⟩:=h.f1;have Z:c≠rb:=h.tc.ne h.jr Ψ;have Q:=h.n6;have H:=ω h;have q:=h.kX k b;obtain⟨kp,S,-⟩:=q.c10;have T:=h.a11 k b;have A:=q.c12;have a0:=h.jr.lt;have X:=h.jr.frozen;obtain⟨n,v⟩:∃n,ah.length=n:=⟨_,rfl⟩;have hkn:k<n:=V
 have Y:∀e:World,(Instr.makeSlice 62 (I n) (I n)).run prog e=.ok (.slice (some (z e.heap.size)) n n) (e.alloc (.cells (madeCells #[I 0] n) 3)):=λe=>run_make_row' 62 3 (I 0) 8 underlying62 Tryz.info3 rfl .i64 .i64 n V V e;obtain⟨lo,g⟩:∃lo,(ld.ls k).lost=lo:=⟨_,rfl⟩;have t:=ω g;rw[g]at A u;rw[v]at f1 E Q⊢;clear h q g v;go_enter func104,ntmps104;go_wp2;refine bodyPost_end (results_none rfl _ _ _) rfl ?_;have key:∀P:World,P=kY w rb (k*13) [(12,I ((lo:Int)+1)),(11,.slice (some (z w.heap.size)) n n),(10,.slice none 0 0)]->bD (P.alloc (.cells (madeCells #[I 0] n) 3)) c rb aY fv (aX av k (.slice (some (z w.heap.size)) n n)) room es acc ⟨ld.I,aX ld.ls k (ld.ls k).lose⟩ ah/\ES (P.alloc (.cells (madeCells #[I 0] n) 3)) n w.heap.size (.slice (some (z w.heap.size)) n n)/\aA (· = rb) w (P.alloc (.cells (madeCells #[I 0] n) 3)):=λP d=>by
  have G:P.heap.size=w.heap.size:=by rw[d];simp[kY]
  have s:Tagged P rb 64:=by rw[d];exact rM H.o.jr _ _
  have f:ϒ P (P.alloc (.cells (madeCells #[I 0] n) 3)):=(φ _ P).alloc (χ _) _;have l:aA (· = rb) w (P.alloc (.cells (madeCells #[I 0] n) 3)):=by
   have:aA (· = rb) w P:=by rw[d];exact mZ _ _ _ _
   exact this.below f
  have a:∀i,i<13->(P.alloc (.cells (madeCells #[I 0] n) 3)).cell? (O rb (k*13+i))=_:=λi o=>((f.cell (p:=(O rb (k*13+i))) s.lt).trans (congrArg (λW:World=>W.cell? (O rb (k*13+i))) d)).trans (jv (H.o.cells b) _ i o);have r:=H.o.kX k b;obtain⟨N,K,M⟩:=r.c0;obtain⟨R,z2,z3⟩:=H.o.wJ k;have key:=H.o.put b (L:=(ld.ls k).lose) (more:=ah[k]) l (s.below f) (λy F=>(f.cell (p:=(O rb y)) s.lt).trans (by rw[d];exact xU _ rfl y F)) (H.o.kn _ (κ b))
   ⟨⟨N,(a 0 Ψ).trans K,M.vk l H.o.jr Ψ⟩,(a 1 Ψ).trans r.c1,(a 7 Ψ).trans r.c7,(a 9 Ψ).trans r.c9,⟨_,a 10 Ψ,τ ⟨rfl,rfl⟩,λ_ _ _ _ j=>(by cases j)⟩,by rw[a 12 Ψ];show some (Value.int .i64 ((lo:Int)+1))=some (I (((ld.ls k).lost+1:Nat):Int));rw[t.o];rfl,
    r.z.of (λi o=>by rcases o with rfl|rfl|rfl|rfl|rfl|rfl;exact a 2 Ψ;exact a 3 Ψ;exact a 4 Ψ;exact a 5 Ψ;exact a 6 Ψ;exact a 8 Ψ),λB D=>(a 8 Ψ).trans (r.c8 B D),λC m=>absurd (x.symm.trans m) Ω⟩ ⟨R,by show(ld.ls k).lost+1<=_;rw[t.o];exact u,Nat.zero_le _⟩ (λC m=>absurd (x.symm.trans m) Ω) (a 11 Ψ)
  rw[ϑy]at key;exact⟨key,ES.of (by rw[<- G];exact heap_alloc_new P _) (χ _),l⟩
 exact⟨rfl,key _ rfl⟩
def Kv(h:bD w c rb aY fv av room es acc ld ah){k:Nat}(g:k<ah.length)(l:(ld.ls k).lost+1<=1048576)(i:(ld.ls k).dn=none):Calls prog 55 #[.pointer (some (z c)),I k] w λe w'=>e=.returned (I 0)/\bD w' c rb aY fv (aX av k (.slice (some (z w.heap.size)) ah.length ah.length)) room es acc ⟨ld.I,aX ld.ls k (ld.ls k).lose⟩ ah/\ES w' ah.length w.heap.size (.slice (some (z w.heap.size)) ah.length ah.length)/\aA (· = rb) w w':=by have b:J<|_:=Ku h g l i;have a:=iG w c rb aY fv av room es acc ld ah h k;rw[Ce g i]at a;clear h;go_enter func55,ntmps55;go_wp2_with fail;refine ψ a ?_;rintro e m⟨rfl,d⟩;rw[d];clear d m a;go_wp2_with fail;refine ψ b.o ?_;rintro e n⟨rfl,f⟩;have j:J<|_:=f;clear f b;go_wp2;go_ret;exact⟨rfl,j.o⟩
def Kw(h:bD w c rb aY fv av room es acc ld ah)(i:Int)(a:oI ld ah i≠0):Calls prog 55 #[.pointer (some (z c)),I i] w λe w'=>e=.returned (I (oI ld ah i))/\w'=w:=by have b:=iG w c rb aY fv av room es acc ld ah h i;have d:=ϑv.2 a;clear h a;generalize oI ld ah i=u at *;go_enter func55,ntmps55;go_wp2_with fail;refine ψ b ?_;rintro e f⟨rfl,rfl⟩;go_wp2_with fail;go_ret;exact⟨rfl,rfl⟩
def Ot(h:bD w c rb aY fv av room es acc ld ah)(i b:Int)(d:oI ld ah i≠0\/b<0):Calls prog 57 #[.pointer (some (z c)),I i,I b] w λe w'=>e=.returned (I (if oI ld ah i=0 then 1 else oI ld ah i))/\w'=w:=by
 have f:=iG w c rb aY fv av room es acc ld ah h i;clear h;generalize oI ld ah i=u at *;by_cases a:u=0
 .subst a;have g:=d.resolve_left (λh=>h rfl);clear d;go_enter func57,ntmps57;go_wp2_with fail;refine ψ f ?_;rintro e j⟨rfl,rfl⟩;go_wp2;go_ret;exact⟨rfl,rfl⟩
 .have g:=ϑv.2 a;rw[ύ a];clear d a;go_enter func57,ntmps57;go_wp2_with fail;refine ψ f ?_;rintro e j⟨rfl,rfl⟩;go_wp2_with fail;go_ret;exact⟨rfl,rfl⟩
def Ou(h:bD w c rb aY fv av room es acc ld ah){k:Nat}(f:k<ah.length)(q:(ld.ls k).dn=none)(b:Nat):Calls prog 57 #[.pointer (some (z c)),I k,I b] w λe w'=>e=.returned (I 0)/\bD w' c rb aY fv av room es acc ⟨ld.I,aX ld.ls k ⟨(ld.ls k).made,(ld.ls k).lost,(ld.ls k).kept,(ld.ls k).ak,some b,(ld.ls k).dn⟩⟩ ah/\aA (· = rb) w w':=by
 obtain⟨X,f1,Y⟩:=h.f1;have n6:=h.n6;have H:=ω h;have p:=h.kX k f;have R:=p.c7;obtain⟨u8,T⟩:=p.z.c8;have Z:=h.jr.frozen;have n:=iG w c rb aY fv av room es acc ld ah h k;rw[Ce f q]at n;have a0:c≠rb:=h.tc.ne h.jr Ψ;have Q:(k:Int)<(ah.length:Int):=V
 clear h p;generalize (ld.ls k).arm.isSome=S at *;go_enter func57,ntmps57;go_wp2_with fail;refine ψ n ?_;rintro e N⟨rfl,s⟩;rw[s];clear s N n;go_wp2;go_ret;have key:∀P:World,P=kY w rb (k*13) [(8,I b),(7,.bool true)]->bD P c rb aY fv av room es acc ⟨ld.I,aX ld.ls k ⟨(ld.ls k).made,(ld.ls k).lost,(ld.ls k).kept,(ld.ls k).ak,some b,(ld.ls k).dn⟩⟩ ah/\aA (· = rb) w P:=λP l=>by
  have M:Tagged P rb 64:=by rw[l];exact rM H.o.jr _ _
  have m:aA (· = rb) w P:=by rw[l];exact mZ _ _ _ _
  have a:∀j,j<13->P.cell? (O rb (k*13+j))=_:=λj v=>(congrArg (λW:World=>W.cell? (O rb (k*13+j))) l).trans (jv (H.o.cells f) _ j v);have r:=H.o.kX k f;have x:∀{b:Nat}{t:TypeId},Tagged w b t->t≠64->¬b=rb:=λg A e=>g.ne H.o.jr A e;obtain⟨G,B,C⟩:=r.c0;obtain⟨F,D,E⟩:=r.c10;have i:=r.z;have key:=H.o.put f (L:=⟨(ld.ls k).made,(ld.ls k).lost,(ld.ls k).kept,(ld.ls k).ak,some b,(ld.ls k).dn⟩) (more:=ah[k]) m M (λK y=>by rw[l];exact xU _ rfl K y) (H.o.kn _ (κ f))
   ⟨⟨G,(a 0 Ψ).trans B,C.vk m H.o.jr Ψ⟩,(a 1 Ψ).trans r.c1,a 7 Ψ,(a 9 Ψ).trans r.c9,⟨F,(a 10 Ψ).trans D,E.aJ m (λb g=>x (H.o.ib b g) Ψ) (λ_ h=>h)⟩,(a 12 Ψ).trans r.c12,
    ⟨by obtain⟨d,b,c,e⟩:=i.c2;exact⟨d,b,c,(a 2 Ψ).trans e⟩,by obtain⟨d,b,c,e⟩:=i.c3;exact⟨d,b,c,(a 3 Ψ).trans e⟩,by obtain⟨d,e⟩:=i.c4;exact⟨d,(a 4 Ψ).trans e⟩,by obtain⟨d,e⟩:=i.c5;exact⟨d,(a 5 Ψ).trans e⟩,by obtain⟨d,e⟩:=i.c6;exact⟨d,(a 6 Ψ).trans e⟩,⟨_,a 8 Ψ⟩⟩,λU g=>by cases g;exact a 8 Ψ,λu o=>absurd (q.symm.trans o) Ω⟩ (H.o.wJ k) (λu o=>absurd (q.symm.trans o) Ω) ((a 11 Ψ).trans (H.o.a11 k f))
  rw[ϑy,Bl]at key;exact⟨key,m⟩
 exact⟨rfl,key _ rfl⟩
end
def pX(w:World){b a:Nat}(o e:Nat)(u v:Value)(h:b≠a):(w.setCell (O b o) u).setCell (O a e) v=(w.setCell (O a e) v).setCell (O b o) u:=by
 simp only[World.setCell];congr 1;apply Array.ext
 .simp
 .intro i f g;by_cases c:a=i
  .have d:¬b=i:=λd=>h (d.trans c.symm);simp[Array.getElem_modify,c,d]
  .simp[Array.getElem_modify,c]
section
variable{w w':World}{c rb:Nat}{aY fv:Value}{av:Nat->Value}{room:Nat}{es:List Ev}{acc:Nat}{ld:Ld}{ah:List (List Bool)}
def bD.woken(h:bD w c rb aY fv av room es acc ld ah){k:Nat}(g:k<ah.length){d:Dn}(f:(ld.ls k).dn=some d){l:List (Nat×Value)}{b:Bool}(u:l.all (λE=>decide (E.1<13))=true){m:Value}(H:(ld.ls k).made+1<=1048576)(o:(kY w rb (k*13) l).cell? (O rb (k*13))=some m)(D:aI 4 w m (bools (if b then d.xQ else ah[k])))(p:(kY w rb (k*13) l).cell? (O rb (k*13+1))=some (.bool false))(q:(kY w rb (k*13) l).cell? (O rb (k*13+9))=some (I ((if b then(ld.ls k).made+1 else(ld.ls k).made:Nat):Int)))(a:∀i,i<13->i≠0->i≠1->i≠9->(kY w rb (k*13) l).cell? (O rb (k*13+i))=w.cell? (O rb (k*13+i))):bD (kY w rb (k*13) l) c rb aY fv av room es acc ⟨ld.I,aX ld.ls k ⟨if b then(ld.ls k).made+1 else(ld.ls k).made,(ld.ls k).lost,(ld.ls k).kept,(ld.ls k).ak,(ld.ls k).arm,none⟩⟩ (if b then ah.set k d.xQ else ah):=by
 have r:=h.kX k g;have j:=mZ w rb (k*13) l;have x:∀{b:Nat}{t:TypeId},Tagged w b t->t≠64->¬b=rb:=λe y n=>e.ne h.jr y n;obtain⟨C,A,B⟩:=r.c10;obtain⟨K,F,G⟩:=h.wJ k;have v:(if b then d.xQ else ah[k]).length<=es.length:=by
  cases b
  .exact h.kn _ (κ g)
  .exact h.dl k d f
 have key:=h.put g (L:=⟨if b then(ld.ls k).made+1 else(ld.ls k).made,(ld.ls k).lost,(ld.ls k).kept,(ld.ls k).ak,(ld.ls k).arm,none⟩) j (rM h.jr _ _) (xU l u) v
  ⟨⟨m,o,D.vk j h.jr Ψ⟩,p,(a 7 Ψ Ψ Ψ Ψ).trans r.c7,q,⟨C,(a 10 Ψ Ψ Ψ Ψ).trans A,B.aJ j (λb e=>x (h.ib b e) Ψ) (λ_ h=>h)⟩,(a 12 Ψ Ψ Ψ Ψ).trans r.c12,
   r.z.of (λi s=>by rcases s with rfl|rfl|rfl|rfl|rfl|rfl<;>exact a _ Ψ Ψ Ψ Ψ),λb e=>(a 8 Ψ Ψ Ψ Ψ).trans (r.c8 b e),λd f=>by cases f⟩ ⟨by show(if b then _ else _)<=_;split<;>omega,F,G⟩ (λd f=>by cases f) ((a 11 Ψ Ψ Ψ Ψ).trans (h.a11 k g))
 rw[Bl]at key;cases b
 .rw[show(if false=true then d.xQ else ah[k])=ah[k]from rfl,ϑy]at key;exact key
 .exact key
def Ov(h:bD w c rb aY fv av room es acc ld ah){k:Nat}(b0:k<ah.length){d:Dn}(Q:(ld.ls k).dn=some d)(ax:cnt ah[k]<cnt d.xQ)(b:Bool)(y:d.kV=0->b=false)(A:d.most<=d.kV->b=true)(hm:(ld.ls k).made+1<=1048576)(af:(ld.ls k).lost+1<=1048576)(a8:acc+1<=1048576):Calls prog 59 #[.pointer (some (z c)),I k,I ((if b then cnt d.xQ else cnt ah[k]:Nat):Int)] w λe w'=>e=.returned (.tuple #[I 0,.bool true])/\bD w' c rb aY fv (aX av k (.slice (some (z w.heap.size)) ah.length ah.length)) room es (if b&&d.own then acc+1 else acc) ⟨ld.I,aX ld.ls k ((ld.ls k).wake b)⟩ (if b then ah.set k d.xQ else ah)/\ES w' ah.length w.heap.size (.slice (some (z w.heap.size)) ah.length ah.length)/\aA (λx=>x=c\/x=rb) w w':=by
 obtain⟨al,f1,aq⟩:=h.f1;have f3:=h.f3;have n6:=h.n6;have n5:=h.oH;have P:c≠rb:=h.tc.ne h.jr Ψ;have H:=ω h;have B:=h.kX k b0;obtain⟨kv,T,-⟩:=B.c0;have U:w.cell? (O rb (k*13+1))=some (.bool true):=by rw[B.c1,Q];(first|done|rfl)
 have N:=B.c9;obtain⟨⟨v2,L,s2⟩,⟨v3,M,s3⟩,X,Y,Z⟩:=B.dn d Q;obtain⟨r,n,p2,q2⟩:=B.z.c2;obtain⟨m,j,p3,q3⟩:=B.z.c3;obtain rfl:v2=.slice r n p2:=by rw[L]at q2;exact Option.some.inj q2
 obtain rfl:v3=.slice m j p3:=by rw[M]at q3;exact Option.some.inj q3
 clear q2 q3;have ap:=h.dl k d Q;have aw:=h.kn _ (κ b0);have C:J<|Calls prog 25 #[.slice r n p2] w λe w'=>e=.returned (I (cnt ah[k]))/\w'=w:=oQ w.heap.size _ _ _ V s2.A8;have G:J<|Calls prog 25 #[.slice m j p3] w λe w'=>e=.returned (I (cnt d.xQ))/\w'=w:=oQ w.heap.size _ _ _ V s3.A8;have ar:=h.tc.frozen;have az:=h.jr.frozen;have ao:=cnt_le d.xQ;have aa:∀(W:World)(a7:Nat)(l:List (Nat×Value)),W.heap.size=w.heap.size->aA (λx=>x=c\/x=rb) w W->bD W c rb aY fv av room es a7 ld ah->l.all (λx=>decide (x.1<13))=true->(∃v0,(kY W rb (k*13) l).cell? (O rb (k*13))=some v0/\aI 4 W v0 (bools (if b then d.xQ else ah[k])))->(kY W rb (k*13) l).cell? (O rb (k*13+1))=some (.bool false)->(kY W rb (k*13) l).cell? (O rb (k*13+9))=some (I ((if b then(ld.ls k).made+1 else(ld.ls k).made:Nat):Int))->(∀i,i<13->i≠0->i≠1->i≠9->(kY W rb (k*13) l).cell? (O rb (k*13+i))=W.cell? (O rb (k*13+i)))->a7=(if b&&d.own then acc+1 else acc) ->
   Calls prog 104 #[.pointer (some (z c)),I k] (kY W rb (k*13) l) λe w'=>e=.returned (.tuple #[])/\bD w' c rb aY fv (aX av k (.slice (some (z w.heap.size)) ah.length ah.length)) room es (if b&&d.own then acc+1 else acc) ⟨ld.I,aX ld.ls k ((ld.ls k).wake b)⟩ (if b then ah.set k d.xQ else ah)/\ES w' ah.length w.heap.size (.slice (some (z w.heap.size)) ah.length ah.length)/\aA (λx=>x=c\/x=rb) w w':=λW a7 l hW ae hR hl ⟨v0,e0,s0⟩ a e9 ho ha=>by
  have hw:=hR.woken b0 Q (b:=b) hl hm e0 s0 a e9 ho;have ab:(if b then ah.set k d.xQ else ah).length=ah.length:=by cases b<;>simp
  have aj:(kY W rb (k*13) l).heap.size=w.heap.size:=by
   have h9:∀l,(kY W rb (k*13) l).heap.size=W.heap.size:=λl=>by
    induction l with
    | nil=>rfl
    | cons x l ih=>show((kY W rb (k*13) l).setCell _ _).heap.size=_;rw[World.size_setCell,ih]
   rw[h9,hW]
  have hL:=Ku hw (k:=k) (by rw[ab];exact b0) (by show(aX ld.ls k _ k).lost+1<=_;rw[aN];exact af) (by show(aX ld.ls k _ k).dn=_;rw[aN]);refine ψ hL ?_;rintro e w'⟨rfl,g1,g2,g3⟩;rw[ab,aj]at g1 g2;have e5:aX (aX ld.ls k ⟨if b then(ld.ls k).made+1 else(ld.ls k).made,(ld.ls k).lost,(ld.ls k).kept,(ld.ls k).ak,(ld.ls k).arm,none⟩) k (LR.lose (aX ld.ls k ⟨if b then(ld.ls k).made+1 else(ld.ls k).made,(ld.ls k).lost,(ld.ls k).kept,(ld.ls k).ak,(ld.ls k).arm,none⟩ k))=aX ld.ls k ((ld.ls k).wake b):=by
   funext i;rw[aN];by_cases e:i=k
   .rw[e,aN,aN];(first|done|rfl)
   .rw[aS _ _ e,aS _ _ e,aS _ _ e]
  dsimp only at g1;rw[e5,ha]at g1;exact⟨rfl,g1,g2,(ae.trans ((mZ _ _ _ _).mono (λ_ _ h=>υ h))).trans (g3.mono (λ_ _ h=>υ h))⟩
 have E:J<|_:=aa;have S:J<|aI 4 w (.slice r n p2) (bools ah[k])/\aI 4 w (.slice m j p3) (bools d.xQ):=⟨s2,s3⟩;clear h B s2 s3 aa;have v:J<|∀q,ϒ w (w.drewN q):=λq=>below_drewN (φ _ _) q;have F:=ω<|λq=>H.o.below (v.o q)
 have D:=ω<|λq=>(F.o q).cells b0
 have R:=ω<|λq=>((F.o q).accept (acc+1) a8).cells b0
 have ad:J<|∀q,aI 4 ((w.drewN q).setCell (O c 3) (I ((acc+1:Nat):Int))) (.slice m j p3) (bools d.xQ):=λq=>(S.o.2.below (v.o q)).vk ((aA.refl (λx=>x=c) (w.drewN q)).setCell (p:=(O c 3)) rfl _) (F.o q).tc Ψ;have ak:=ω P;obtain⟨xQ,own,kV,ac⟩:=d;simp only at *;generalize ag:cnt ah[k]=u at *;generalize ai:cnt xQ=o at *;clear ag ai;cases b
 .have g1:((u:Int)==(o:Int))=false:=ό.2 V;have g2:¬ac<=kV:=λh=>by cases A h
  have g3:¬(ac:Int)<=(kV:Int):=V
  have g4:((u:Int) !=(u:Int))=false:=bne_self_eq_false _;have g5:((u:Int)==(u:Int))=true:=beq_self_eq_true _;have g:J<|∀q,_:=λq=>E.o (w.drewN q) acc [(1,.bool false),(0,.slice r n p2)] rfl (aA.of_below (v.o q)) (F.o q) rfl ⟨.slice r n p2,jv (D.o q) _ 0 Ψ,S.o.1.below (v.o q)⟩ (jv (D.o q) _ 1 Ψ) ((jv (D.o q) _ 9 Ψ).trans N) (λi _ y A _=>rO _ (λx t=>by simp only[ϑL,List.mem_nil_iff,ϑO]at t;rcases t with rfl|rfl<;>(simp only;omega))) rfl;clear E y A g2;show Calls _ _ #[_,_,I u] _ _;go_enter func59,ntmps59;go_wp2_with fail;refine ψ C.o ?_;rintro e f⟨rfl,a⟩;rw[a];clear a f C;go_wp2_with fail;refine ψ G.o ?_;rintro e f⟨rfl,a⟩;rw[a];clear a f G;go_wp2_with fail
  go_quiet (fail)
  go_wp2_with fail;refine ψ (g.o _) ?_;rintro e w2⟨rfl,s⟩;have K:J<|_:=s;clear s g T U L M X Y Z N f1 f3;go_wp2;go_ret2;exact⟨rfl,K.o⟩
 .have g1:((o:Int)==(u:Int))=false:=ό.2 V;have an:((o:Int) !=(u:Int))=true:=ϑv.2 V;have g2:¬kV=0:=λh=>by cases y h
  have g3:((kV:Int)==0)=false:=ό.2 V;have g4:((o:Int) !=(o:Int))=false:=bne_self_eq_false _;have g5:((o:Int)==(o:Int))=true:=beq_self_eq_true _;cases own
  .have g:J<|∀q,_:=λq=>E.o (w.drewN q) acc [(1,.bool false),(9,I (((ld.ls k).made:Int)+1)),(0,.slice m j p3),(0,.slice r n p2)] rfl (aA.of_below (v.o q)) (F.o q) rfl ⟨.slice m j p3,jv (D.o q) _ 0 Ψ,S.o.2.below (v.o q)⟩ (jv (D.o q) _ 1 Ψ) (jv (D.o q) _ 9 Ψ) (λi _ y A h9=>rO _ (λx t=>by simp only[ϑL,List.mem_nil_iff,ϑO]at t;rcases t with rfl|rfl|rfl|rfl<;>(simp only;omega))) rfl;clear E y A g2;generalize (ld.ls k).made=ma at *;show Calls _ _ #[_,_,I o] _ _;go_enter func59,ntmps59;go_wp2_with fail;refine ψ C.o ?_;rintro e f⟨rfl,a⟩;rw[a];clear a f C;go_wp2_with fail;refine ψ G.o ?_;rintro e f⟨rfl,a⟩;rw[a];clear a f G;go_wp2_with fail
   go_quiet (fail)
   go_wp2_with fail;refine ψ (g.o _) ?_;rintro e w2⟨rfl,s⟩;have K:J<|_:=s;clear s g T U L M X Y Z N f1 f3;go_wp2;go_ret2;exact⟨rfl,K.o⟩
  .have g:J<|∀q,_:=λq=>E.o ((w.drewN q).setCell (O c 3) (I ((acc+1:Nat):Int))) (acc+1) [(1,.bool false),(9,I (((ld.ls k).made:Int)+1)),(0,.slice m j p3),(0,.slice r n p2)] (World.size_setCell _ _ _) ((aA.of_below (v.o q)).setCell (p:=(O c 3)) (τ rfl) _) ((F.o q).accept (acc+1) a8) rfl ⟨.slice m j p3,jv (R.o q) _ 0 Ψ,ad.o q⟩ (jv (R.o q) _ 1 Ψ) (jv (R.o q) _ 9 Ψ) (λi _ y A h9=>rO _ (λx t=>by simp only[ϑL,List.mem_nil_iff,ϑO]at t;rcases t with rfl|rfl|rfl|rfl<;>(simp only;omega))) rfl;have HE:J<|∀q,kY ((w.drewN q).setCell (O c 3) (I ((acc+1:Nat):Int))) rb (k*13) [(1,.bool false),(9,I (((ld.ls k).made:Int)+1)),(0,.slice m j p3),(0,.slice r n p2)]=(((((w.drewN q).setCell (O rb (k*13)) (.slice r n p2)).setCell (O rb (k*13)) (.slice m j p3)).setCell (O rb (k*13+9)) (I (((ld.ls k).made:Int)+1))).setCell (O c 3) (I ((acc:Int)+1))).setCell (O rb (k*13+1)) (.bool false):=by intro q;rw[pX _ _ _ _ _ (Ne.symm P),pX _ _ _ _ _ (Ne.symm P),pX _ _ _ _ _ (Ne.symm P)];rfl
   have g:J<|∀q,_:=λq=>(HE.o q)▸g.o q;clear E y A g2 HE;generalize (ld.ls k).made=ma at *;show Calls _ _ #[_,_,I o] _ _;go_enter func59,ntmps59;go_wp2_with fail;refine ψ C.o ?_;rintro e f⟨rfl,a⟩;rw[a];clear a f C;go_wp2_with fail;refine ψ G.o ?_;rintro e f⟨rfl,a⟩;rw[a];clear a f G;go_wp2_with fail
   go_quiet (fail)
   go_wp2_with fail;refine ψ (g.o _) ?_;rintro e w2⟨rfl,s⟩;have K:J<|_:=s;clear s g T U L M X Y Z N f1 f3;go_wp2;go_ret2;exact⟨rfl,K.o⟩
def Ox(h:bD w c rb aY fv av room es acc ld ah)(i n:Int)(a:oI ld ah i≠3):Calls prog 59 #[.pointer (some (z c)),I i,I n] w λe w'=>e=.returned (.tuple #[I (if oI ld ah i=0 then 10 else 2),.bool true])/\w'=w:=by
 obtain⟨g,f1,l⟩:=h.f1;have o:=h.n6;by_cases j:i<0
 .rw[show oI ld ah i=2 from ύ V];clear h;go_enter func59,ntmps59;go_wp2;go_ret2;exact⟨rfl,rfl⟩
 .obtain⟨k,rfl⟩:=Int.eq_ofNat_of_zero_le (V:0<=i);by_cases f:k<ah.length
  .have m:=(h.kX k f).c1;have b:oI ld ah (k:Int)=if(ld.ls k).dn.isSome then 3 else 0:=by unfold oI;rw[ώ V,ϑE]
   rw[b]at a⊢;clear b;generalize (ld.ls k).dn.isSome=d at *;clear h;cases d
   .go_enter func59,ntmps59;go_wp2;go_ret2;exact⟨rfl,rfl⟩
   .exact absurd rfl a
  .rw[show oI ld ah (k:Int)=2 from ύ V];clear h;go_enter func59,ntmps59;go_wp2;go_ret2;exact⟨rfl,rfl⟩
end
def Iu{w:World}{B n f j:Nat}{b:Option Addr}{a:List ByteArray}(h:w.ownsRow B 9 1 (.slice b n f) n (strs a))(c:j<a.length):∃g,b=some (z g)/\w.cell? (O g j)=some (.string a[j]):=by
 have d:n=a.length:=by have:=h.1;simp[strs]at this;omega
 subst d;obtain⟨g,i,e⟩:=dK h V;simp only[ϑa]at e;obtain⟨rfl,_,rfl⟩:=e;exact⟨g,rfl,by rw[h.cellAt j V];simp[strs,c]⟩
def SA{w:World}{c rb:Nat}{aY fv:Value}{av:Nat->Value}{room:Nat}{es:List Ev}{acc:Nat}{ld:Ld}{ah:List (List Bool)}(h:bD w c rb aY fv av room es acc ld ah):Calls prog 27 #[.pointer (some (z c))] w λx w'=>∃v a,x=.returned v/\w'.ownsRow w.heap.size 9 1 v a.length (strs a)/\(∀t∈a,t.size<=20)/\a.length<=30000000/\ϒ w w':=by
 obtain⟨i0,Z,a2,a3,a4⟩:=info_parts Tryz.info9;have n5:=h.oH;obtain⟨F,s,B,a9,Y⟩:∃F s,aY=.slice F es.length s/\es.length<=s/\∀b,ϒ w b->∀j(d:j<es.length),∃r D,F=some (O r D)/\b.cell? (O r (D+j*5))=some (.string es[j].p):=by
  rcases h.VO with⟨K,A⟩|⟨r,D,s,K,A,h3,h4⟩
  .exact⟨none,0,by rw[K,A];rfl,by rw[A];exact χ _,λ_ _ j d=>by rw[A]at d;simp at d⟩
  .exact⟨_,s,K,A,λb Q j d=>⟨r,D,rfl,by obtain⟨sv,c0,_⟩:=h4 j d;exact(Q.cell (p:=(O r _)) h3).trans c0⟩⟩
 have L:=h.f2;rw[B]at L;have a7:=h.tc.lt;have HC:J<|∀b,ϒ w b->b.cell? (O c 2)=some (.slice F es.length s):=λb Q=>(Q.cell (p:=(O c 2)) a7).trans L;have HE:J<|_:=Y;have HK:=ω<|λx B=>(h.ok x B).p
 clear h Y L B;go_enter func27,ntmps27;go_wp2;go_loopw [3,4,5,6,7,8] (λT U _ _ _ _ b=>∃(l:Nat)(a:List ByteArray),l<=es.length/\U=I l/\b.ownsRow w.heap.size 9 1 T a.length (strs a)/\J (∀t∈a,t.size<=20)/\a.length<=l*21/\ϒ w b) (λ_ U _ _ _ _ _=>es.length-(intOf U).toNat);case atStart=>exact⟨0,[],V,rfl,ϑj _ _ _ _,by simp[J],Ω,φ _ _⟩
 case round =>
  obtain⟨l,a,aa,rfl,u,Hs,a1,n⟩:=hrel;have a5:=HC.o _ n;have m:=ω u;have f:=ω n;clear u;by_cases a0:l<es.length
  .obtain⟨r,D,rfl,hc⟩:=HE.o _ n l a0;have hp:=HK.o _ (κ a0);generalize es[l].p=p at *;clear n;go_wp2_with fail;clear a5 hc;go_loopw [3,6,7,8] (λT E _ _ b=>∃(k:Nat)(a:List ByteArray),k<=p.size+1/\E=I k/\b.ownsRow w.heap.size 9 1 T a.length (strs a)/\J (∀t∈a,t.size<=20)/\a.length<=l*21+k/\ϒ w b) (λ_ E _ _ _=>p.size+1-(intOf E).toNat);case atStart=>exact⟨0,a,V,rfl,m.o,Hs,V,f.o⟩
   case round =>
    clear m Hs f a1 a;obtain⟨k,a,hk,rfl,u,Hs,a1,n⟩:=hrel;have m:=ω u;have f:=ω n;obtain⟨ad,sc,rfl⟩:∃ad sc,u3=.slice ad a.length sc:=by obtain⟨ad,sc,x,_⟩:=(fF u).shape;exact⟨ad,sc,by rw[x];simp[strs]⟩
    clear u n;by_cases ab:k<=p.size
    .by_cases B:k=p.size
     .have e1:((k:Int)==(p.size:Int))=true:=ϑt.2 V;go_wp2_with fail;go_loopw [7,8] (λW q b=>∃(j:Nat)(o:Bool),j<=a.length/\q=I j/\W=.bool o/\ϒ wr b) (λ_ q _=>a.length-(intOf q).toNat);case atStart=>exact⟨0,false,V,rfl,rfl,φ _ _⟩
      case round =>
       obtain⟨j,o,d,rfl,rfl,i⟩:=hrel;have g:=ω<|own_below m.o i;have e:=ω<|f.o.trans (i.mono f.o.size);have G:J<|_:=i;clear i;by_cases N:j<a.length
       .obtain⟨y,rfl,a6⟩:=Iu g.o N;generalize a[j]=sj at *;cases o
        all_goals
         go_wp2_with fail
         go_quiet (fail)
         go_wp2;go_roundw;case rel=>exact⟨j+1,_,V,Λ,rfl,below_drewN G.o _⟩
         case measure=>simp[intOf];omega
       .have a8:=e.o.size;cases o
        .have m1:J<|a.length+1<=maxLen:=by unfold J maxLen;omega
         have m2:J<|(a.length+1)*16<=140737488355328:=ω V
         go_wp2_with (first|(at_builtin;refine wpList_append_own _ rfl (.tmp 61) (.tmp 65) 65 rfl w.heap.size 9 i0 (.string ⟨#[]⟩) 1 16 underlying65 Z a2 a3 a4 rfl Ψ (.slice ad a.length sc) a.length (strs a) rfl (g.o.alloc _) (z _) 1 1 [.string (p)] rfl rfl ?_ ?_ m1.o m2.o ?_ ?_;(intro j S d;match j,d with|0,d=>(cases d;simp[Addr.add]));(intro S C;simp at C;subst C;rfl);(simp;omega);intro E w6 R H _));go_roundw;case rel =>
          refine⟨k+1,a++[p],V,Λ,by rw[ρ];simpa[strs]using R, ?_,by rw[ρ];simp;omega, ?_⟩
          .intro t P;rcases θ.1 P with h|h
           .exact Hs.o t h
           .rw[ϑe.1 h];omega
          .exact(e.o.alloc e.o.size _).grown H (by have:=e.o.size;simp;omega) (λy M=>(g.o.lt y M).1)
         case measure=>simp[intOf];omega
        .go_wp2;go_roundw;case rel=>exact⟨k+1,a,V,Λ,g.o,Hs,V,e.o⟩
         case measure=>simp[intOf];omega
     .have ac:k<p.size:=V
      have e1:((k:Int)==(p.size:Int))=false:=ό.2 V;by_cases X:(p[k].toNat:Int)=47
      .have e2:=ϑt.2 X;go_wp2_with fail;go_loopw [7,8] (λW q b=>∃(j:Nat)(o:Bool),j<=a.length/\q=I j/\W=.bool o/\ϒ wr b) (λ_ q _=>a.length-(intOf q).toNat);case atStart=>exact⟨0,false,V,rfl,rfl,φ _ _⟩
       case round =>
        obtain⟨j,o,d,rfl,rfl,i⟩:=hrel;have g:=ω<|own_below m.o i;have e:=ω<|f.o.trans (i.mono f.o.size);have G:J<|_:=i;clear i;by_cases N:j<a.length
        .obtain⟨y,rfl,a6⟩:=Iu g.o N;generalize a[j]=sj at *;cases o
         all_goals
          go_wp2_with fail
          go_quiet (fail)
          go_wp2;go_roundw;case rel=>exact⟨j+1,_,V,Λ,rfl,below_drewN G.o _⟩
          case measure=>simp[intOf];omega
        .have a8:=e.o.size;cases o
         .have m1:J<|a.length+1<=maxLen:=by unfold J maxLen;omega
          have m2:J<|(a.length+1)*16<=140737488355328:=ω V
          go_wp2_with (first|(at_builtin;refine wpList_append_own _ rfl (.tmp 61) (.tmp 65) 65 rfl w.heap.size 9 i0 (.string ⟨#[]⟩) 1 16 underlying65 Z a2 a3 a4 rfl Ψ (.slice ad a.length sc) a.length (strs a) rfl (g.o.alloc _) (z _) 1 1 [.string (p.extract 0 k)] rfl rfl ?_ ?_ m1.o m2.o ?_ ?_;(intro j S d;match j,d with|0,d=>(cases d;simp[Addr.add]));(intro S C;simp at C;subst C;rfl);(simp;omega);intro E w6 R H _));go_roundw;case rel =>
           refine⟨k+1,a++[p.extract 0 k],V,Λ,by rw[ρ];simpa[strs]using R, ?_,by rw[ρ];simp;omega, ?_⟩
           .intro t P;rcases θ.1 P with h|h
            .exact Hs.o t h
            .rw[ϑe.1 h,ϑo];omega
           .exact(e.o.alloc e.o.size _).grown H (by have:=e.o.size;simp;omega) (λy M=>(g.o.lt y M).1)
          case measure=>simp[intOf];omega
         .go_wp2;go_roundw;case rel=>exact⟨k+1,a,V,Λ,g.o,Hs,V,e.o⟩
          case measure=>simp[intOf];omega
      .have e2:=ό.2 X;go_wp2;go_roundw;case rel=>exact⟨k+1,a,V,Λ,m.o,Hs,V,f.o⟩
       case measure=>simp[intOf];omega
    .go_wp2;go_roundw;case rel=>exact⟨l+1,a,V,Λ,m.o,Hs,V,f.o⟩
     case measure=>simp[intOf];omega
  .go_wp2;go_ret;exact⟨_,a,rfl,m.o,Hs.o,V,f.o⟩
