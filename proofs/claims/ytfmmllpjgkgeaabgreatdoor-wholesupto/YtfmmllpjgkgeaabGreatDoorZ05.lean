import Derived.Test.YtfmmllpjgkgeaabGreatDoorZ04
set_option linter.all false
set_option maxHeartbeats 0
set_option maxRecDepth 100000
namespace Go.Proofs.YtfmmllpjgkgeaabGreatDoor
open Go.Proofs.Tryz Go.RowKit
def LR.xW(a:Nat)(L:LR):(L.write a).dn=L.dn/\(L.write a).arm=L.arm:=by unfold LR.write;split<;>exact⟨rfl,rfl⟩
def LR.Sr(a:Nat)(L:LR)(h:L.kept.length<=50)(b:a<=50):(L.write a).kept.length<=50:=by unfold LR.write;split<;>simp<;>omega
def bD.wrote{w d:World}{c rb:Nat}{D G:Value}{F:Nat->Value}{a:Nat}{q:List Ev}{E:Nat}{ld:Ld}{n:List (List Bool)}(r:bD w c rb D G F a q E ld n){k:Nat}(T:k<n.length){f l:Nat}{e:List Int}(H:(ld.ls k).made=f)(C:(ld.ls k).lost=l)(x:bW (ld.ls k).kept=e)(h9:f+1<=1048576)(a3:l+1<=1048576)(a1:(ld.ls k).dn=none){y:Value}{more:List Bool}(Z:aI 4 w y (bools more))(Y:more.length<=q.length)(R:aA (· = rb) w d)(ht:Tagged d rb 64)(M:d.cell? (O rb (k*13))=some y)(Q:d.cell? (O rb (k*13+9))=some (I ((f:Int)+1)))(j:Value){g:Nat}(S:w.heap.size<=g)(W:∀b B A p,j=.slice (some (O b B)) A p->b=g)(kl':List Int)(N:d.cell? (O rb (k*13+10))=some j)(a2:aI 3 d j (ints kl'))(i:Nat)(P:d.cell? (O rb (k*13+12))=some (I i))(v:(a<e.length+1/\kl'=(e++[(f:Int)+1]).tail/\i=l+1)\/(¬a<e.length+1/\kl'=e++[(f:Int)+1]/\i=l))(a0:∀o,o≠k*13->o≠k*13+9->o≠k*13+10->o≠k*13+12->d.cell? (O rb o)=w.cell? (O rb o)):∃m,(∀b,m b->ld.I b\/w.heap.size<=b)/\(∀b,ld.I b->m b)/\bD d c rb D G F a q E ⟨m,aX ld.ls k ((ld.ls k).write a)⟩ (n.set k more):=by
 obtain⟨z1,z2,z3⟩:=r.wJ k;have X:=LR.Sr a (ld.ls k) z3 r.pV;have U:e.length=(ld.ls k).kept.length:=by rw[<- x];simp[bW]
 have key:((ld.ls k).write a).made=f+1/\((ld.ls k).write a).lost=i/\bW ((ld.ls k).write a).kept=kl':=by
  unfold LR.write;rw[U]at v;rcases v with⟨s,t,h⟩|⟨s,t,h⟩
  .rw[ώ s,t,h,H,C,<- x];exact⟨rfl,rfl,by cases(ld.ls k).kept<;>simp[bW]⟩
  .rw[ύ s,t,h,H,C,<- x];exact⟨rfl,rfl,by simp[bW]⟩
 obtain⟨k1,k2,k3⟩:=key;have a4:i<=1048576:=by rcases v with⟨_,_,h⟩|⟨_,_,h⟩<;>omega
 refine⟨_, ?_, ?_,r.turn (L:=(ld.ls k).write a) k T y more Z Y R ht ⟨V,V,X⟩ a1 (LR.xW a (ld.ls k)) M (by rw[k1,Q];rfl) j N (by rw[k3];exact a2) (by rw[k2];exact P) a0⟩
 .rintro b (u|⟨B,A,p,K⟩)
  .exact τ u
  .rw[W b B A p K];exact υ S
 .exact λb u=>τ u
def write_any(w:World)(c rb:Nat)(aY fv:Value)(av:Nat->Value)(T:Nat)(es:List Ev)(ak:Nat)(ld:Ld)(ah:List (List Bool))(h:bD w c rb aY fv av T es ak ld ah)(k:Nat)(hk:k<ah.length)(mv:Value)(more:List Bool)(a5:aI 4 w mv (bools more))(az:more.length<=es.length)(F5:(ld.ls k).made+1<=1048576/\(ld.ls k).lost+1<=1048576)(b2:(ld.ls k).dn=none)(b6:(ld.ls k).arm=none)(own:Bool):Calls prog 98 #[.pointer (some (z c)),I k,mv,.bool own] w λbt w'=>bt=.returned (.bool true)/\(∃W,(∀b,W b->ld.I b\/w.heap.size<=b)/\(∀b,ld.I b->W b)/\bD w' c rb aY fv av T es ak ⟨W,aX ld.ls k ((ld.ls k).write T)⟩ (ah.set k more))/\aA (· = rb) w w':=by
 obtain⟨aq,f1,bl⟩:=h.f1;have f0:=h.f0;have bb:c≠rb:=h.tc.ne h.jr Ψ;obtain⟨⟨kv,a0,b0⟩,a1,E,a9,⟨kp,aj,a2,_⟩,Z,_⟩:=h.kX k hk;rw[b6]at E;have E:w.cell? (O rb (k*13+7))=some (.bool false):=E;clear a1;have ba:=h.jr.frozen;have h6:=h.n6;obtain⟨b9,b5,d10⟩:=h.wJ k;obtain⟨a4,Y⟩:=F5;obtain⟨l,br,rfl,bm⟩:=a5.shape;have H:=ω h;obtain⟨kl,G⟩:∃kl,bW (ld.ls k).kept=kl:=⟨_,rfl⟩;obtain⟨m9,a3⟩:∃m9,(ld.ls k).made=m9:=⟨_,rfl⟩;obtain⟨m12,C⟩:∃m12,(ld.ls k).lost=m12:=⟨_,rfl⟩;have ax:(ld.ls k).kept.length=kl.length:=by rw[<- G];simp[bW]
 rw[G]at a2;rw[a3]at a9 b9 a4;rw[C]at Z b5 Y;rw[ax]at d10;have ad:=ω G;have af:=ω a3;have an:=ω C;clear G a3 C ax;have ag:=ω a5;have ap:=ω a2;clear h a5 a2 b0;obtain⟨L,F,a8,aa,ab⟩:=info_parts Tryz.info3;go_enter func98,ntmps98;go_wp2_with fail;have t:aA (· = rb) w ((w.setCell (O rb (k*13)) (.slice l (bools more).length br)).setCell (O rb (k*13+9)) (I ((m9:Int)+1))):=aA.setCell (p:=(O rb (k*13+9))) (aA.setCell (p:=(O rb (k*13))) (aA.refl (λA=>A=rb) w) rfl _) rfl _;have q0:((w.setCell (O rb (k*13)) (.slice l (bools more).length br)).setCell (O rb (k*13+9)) (I ((m9:Int)+1))).cell? (O rb (k*13))=some (.slice l (bools more).length br):=by exact(aT (υ V)).trans (bV a0)
 have q9:((w.setCell (O rb (k*13)) (.slice l (bools more).length br)).setCell (O rb (k*13+9)) (I ((m9:Int)+1))).cell? (O rb (k*13+9))=some (I ((m9:Int)+1)):=bV ((aT (υ V)).trans a9);have R:∀o,o≠k*13->o≠k*13+9->((w.setCell (O rb (k*13)) (.slice l (bools more).length br)).setCell (O rb (k*13+9)) (I ((m9:Int)+1))).cell? (O rb o)=w.cell? (O rb o):=λo r s=>by exact(aT (υ V)).trans (aT (υ V))
 have S:Tagged ((w.setCell (O rb (k*13)) (.slice l (bools more).length br)).setCell (O rb (k*13+9)) (I ((m9:Int)+1))) rb 64:=(H.o.jr.setCell _ _).setCell _ _;have qc:∀i,((w.setCell (O rb (k*13)) (.slice l (bools more).length br)).setCell (O rb (k*13+9)) (I ((m9:Int)+1))).cell? (O c i)=w.cell? (O c i):=λi=>η (w:=w) (t.block c H.o.tc.lt bb);generalize ((w.setCell (O rb (k*13)) (.slice l (bools more).length br)).setCell (O rb (k*13+9)) (I ((m9:Int)+1)))=bq at *;have P:=(R (k*13+10) V V).trans aj;have b3:=(R (k*13+12) V V).trans Z;have g0:=(qc 0).trans f0;have Q:=S.frozen;have ai:=ω R;have b8:=H.o.tc.lt;have b7:=ο b8 t.size;have e:=S.lt;have ae:J<|aI 3 bq kp (ints kl):=ap.o.vk t H.o.jr Ψ;have b4:(ints kl).length=kl.length:=by simp[ints]
 clear R qc f0 f1 a0 E a9 aj Z ba ap;go_cut []from 80 to 94 (λy=>∃bs v,y=bs.setCell (O rb (k*13+10)) v/\ϒ bq bs/\bs.ownsRow bq.heap.size 3 1 v (kl.length+1) (ints kl++[I ((m9:Int)+1)]))
 case first =>
  rcases ae.o with⟨rfl,bc⟩|⟨M,N,pc,rfl,bn,be,pW⟩
  .have hkn:kl=[]:=by simpa[ints]using bc
   subst hkn;have X:J<|∀u∈[Value.int .i64 ((m9:Int)+1)],u.oneCell'=true:=by intro u g;simp at g;subst g;rfl
   have q:J<|0+1<=maxLen:=by unfold J maxLen;omega
   have x:J<|(0+1)*8<=140737488355328:=ω V
   go_region_law (first|(refine rE rfl (.tmp 81) (.tmp 85) 62 rfl bq.heap.size 3 L 1 underlying62 F (.slice (some (z _)) 0 0) 0 [] rfl ?_ rfl ?_;(first|(refine gq _ _ ?_ ?_<;>(simp;done))|(refine World.ownsRow.alloc (gq _ _ ?_ ?_) _<;>(simp;done))|(refine gq _ _ ?_ ?_<;>(simp<;>omega))|(refine World.ownsRow.alloc (gq _ _ ?_ ?_) _<;>(simp<;>omega))))|(refine qK rfl (.tmp 86) (.tmp 91) 62 rfl bq.heap.size 3 L (I 0) 1 8 underlying62 F a8 aa ab rfl Ψ (.slice (some (z _)) 0 0) 0 [] rfl ?_ _ 1 1 [I ((m9:Int)+1)] rfl rfl ?_ X.o q.o x.o Nat.one_pos bq ?_ (χ _) ?_;(first|(refine gq _ _ ?_ ?_<;>(simp;done))|(refine World.ownsRow.alloc (gq _ _ ?_ ?_) _<;>(simp;done))|(refine gq _ _ ?_ ?_<;>(simp<;>omega))|(refine World.ownsRow.alloc (gq _ _ ?_ ?_) _<;>(simp<;>omega)));(intro j u d;match j,d with|0,d=>(cases d;first|rfl|(simp[Addr.add];done)|(simp[Addr.add];refine(al _ 0 ?_ ?_).trans ?_;(first|(simp only[World.size_drew,ϊ];omega)|omega);(simp[Value.ownBlock]);(first|rfl|(simp;done)|(simp[go_sem];done)))));(go_grown);intro g6 c6 w6 a6 m;have bh:=(m.cell (p:=(O rb (k*13+10))) e).trans P;have sf:=λj=>(m.frozen (p:=(O rb j)) e).trans (Q j)))
   all_goals go_wp2_with fail
   all_goals go_meet
   all_goals exact⟨_,_,rfl,m,a6⟩
  .have hW:J<|∀y,ϒ bq y->∀j u,(ints kl)[j]?=some u->y.cell? (((O M N):Addr).add j)=some u:=by
    intro y bf j u d;have aw:j<(ints kl).length:=by
     rcases Nat.lt_or_ge j (ints kl).length with h|h
     .exact h
     .rw[ϑq h]at d;cases d
    have he:((O M N):Addr).add j=(O M (N+j)):=by unfold Addr.add;split<;>simp_all
    rw[he,bf.cell (p:=(O M (N+j))) be.lt,pW j aw];rw[σ aw]at d;exact d
   have bd:J<|∀u∈ints kl,u.oneCell'=true:=by intro u g;simp[ints]at g;obtain⟨a,_,rfl⟩:=g;rfl
   clear pW;rw[b4]at *;have X:J<|∀u∈[Value.int .i64 ((m9:Int)+1)],u.oneCell'=true:=by intro u g;simp at g;subst g;rfl
   have q:J<|0+kl.length<=maxLen:=by unfold J maxLen;omega
   have x:J<|(0+kl.length)*8<=140737488355328:=ω V
   have e3:J<|0+kl.length+1<=maxLen:=by unfold J maxLen;omega
   have e4:J<|(0+kl.length+1)*8<=140737488355328:=ω V
   have e5:J<|0<0+kl.length+1:=ω V
   have e6:J<|(ints kl).length=kl.length*1:=ω<|by simp[ints]
   go_region_law (first|(refine xO rfl (.tmp 81) (.tmp 85) 62 rfl bq.heap.size 3 L (I 0) 1 8 underlying62 F a8 aa ab rfl Ψ (.slice (some (z _)) 0 0) 0 [] rfl ?_ _ kl.length _ (ints kl) rfl e6.o bd.o q.o x.o bq ?_ (χ _) hW.o ?_;(first|(refine gq _ _ ?_ ?_<;>(simp;done))|(refine World.ownsRow.alloc (gq _ _ ?_ ?_) _<;>(simp;done))|(refine gq _ _ ?_ ?_<;>(simp<;>omega))|(refine World.ownsRow.alloc (gq _ _ ?_ ?_) _<;>(simp<;>omega)));(go_grown);intro v5 w5 b1 B bo al;have s9:=(B.cell (p:=(O rb (k*13+9))) e).trans q9)|(refine qK rfl (.tmp 86) (.tmp 91) 62 rfl bq.heap.size 3 L (I 0) 1 8 underlying62 F a8 aa ab rfl Ψ _ (0+kl.length) ([]++ints kl) rfl ?_ _ 1 1 [I ((m9:Int)+1)] rfl rfl ?_ X.o e3.o e4.o e5.o bq ?_ (χ _) ?_;(first|exact b1|exact b1.alloc _);(intro j u d;match j,d with|0,d=>(cases d;first|rfl|(simp[Addr.add];done)|(simp[Addr.add];refine(al _ 0 ?_ ?_).trans ?_;(first|(simp only[World.size_drew,ϊ];omega)|omega);(simp[Value.ownBlock]);(first|rfl|(simp;done)|(simp[go_sem];done)))));(first|exact B|exact B.alloc B.size _);intro g6 c6 w6 a6 m;have bh:=(m.cell (p:=(O rb (k*13+10))) e).trans P;have sf:=λj=>(m.frozen (p:=(O rb j)) e).trans (Q j)))
   all_goals go_wp2_with fail
   all_goals go_meet
   all_goals exact⟨_,_,rfl,m,by simpa using a6⟩
 case rest =>
 obtain⟨bs,v,rfl,f,K⟩:=hcut;obtain⟨g2,c2,rfl⟩:=dK K V;have ac:=ω<|ς t.size (K.lt g2 rfl).1;have t10:=(f.cell (p:=(O rb (k*13+10))) e).trans P;have t12:=(f.cell (p:=(O rb (k*13+12))) e).trans b3;have bp:=(f.cell (p:=(z c)) b7).trans g0;have tf:=λj=>(f.frozen (p:=(O rb j)) e).trans (Q j);have u0:=ω<|(f.cell (p:=(O rb (k*13))) e).trans q0;have u9:=ω<|(f.cell (p:=(O rb (k*13+9))) e).trans q9;have uo:=ω<|λo r s=>(f.cell (p:=(O rb o)) e).trans (ai.o o r s);have U:=ω<|S.below f;have D:=ω<|t.below f;have us:J<|aI 3 bs (.slice (some (z g2)) (kl.length+1) c2) (ints (kl++[(m9:Int)+1])):=by have:=fF K;unfold J;simpa[ints]using this
 have bk:kl.length+1<=c2:=by obtain⟨ao,cp,q,x⟩:=us.o.shape;simp only[ϑa]at q;obtain⟨_,_,rfl⟩:=q;simpa[ints]using x
 have pV:=H.o.pV;clear f K ai S q0 q9 P b3 Q g0 t ae;by_cases ar:T<kl.length+1
 .have bi:(bs.setCell (O rb (k*13+10)) (.slice (some (z g2)) (kl.length+1) c2)).cell? (O rb (k*13+10))=some (.slice (some (z g2)) (kl.length+1) c2):=bV t10;have bj:1<=c2:=V
  have C:m12<=1048576:=V
  go_wp2_with fail
  go_quiet (fail)
  go_wp2;all_goals
   go_ret;refine⟨rfl, ?_, ?_⟩
   .refine H.o.wrote hk af.o an.o ad.o a4 Y b2 ag.o az ((((D.o.setCell (p:=(O rb (k*13+10))) rfl _).setCell (p:=(O rb (k*13+10))) rfl _).setCell (p:=(O rb (k*13+12))) rfl _).drewN _) ((((U.o.setCell _ _).setCell _ _).setCell _ _).drewN _) ?_ ?_ _ ac.o (λb bg n aq bt=>by simp only[ϑa,ϑb,ϑz]at bt;omega) (kl++[(m9:Int)+1]).tail ((aT (υ V)).trans (bV (bV t10))) ?_ (m12+1) ?_ (τ ⟨ar,rfl,rfl⟩) ?_
    .exact(aT (υ V)).trans ((aT (υ V)).trans ((aT (υ V)).trans u0.o))
    .exact(aT (υ V)).trans ((aT (υ V)).trans ((aT (υ V)).trans u9.o))
    .refine aI.vk (b:=rb) (w:=bs) ?_ (((((aA.refl (λA=>A=rb) _).setCell (p:=(O rb (k*13+10))) rfl _).setCell (p:=(O rb (k*13+10))) rfl _).setCell (p:=(O rb (k*13+12))) rfl _).drewN _) U.o Ψ;rw[show ints (kl++[(m9:Int)+1]).tail=(ints (kl++[(m9:Int)+1])).tail from by cases kl<;>rfl];refine us.o.al3 kl.length _ ?_ ?_ ?_
     .simp[ints]
     .first|(right;rfl)|(left;exact⟨rfl,V⟩)
     .omega
    .refine(bV ((aT (υ V)).trans ((aT (υ V)).trans t12))).trans ?_;simp
    .intro o r s h3 h4;exact(aT (υ V)).trans ((aT (υ V)).trans ((aT (υ V)).trans (uo.o o r s)))
   .exact(((D.o.setCell (p:=(O rb (k*13+10))) rfl _).setCell (p:=(O rb (k*13+10))) rfl _).setCell (p:=(O rb (k*13+12))) rfl _).drewN _
 .go_wp2_with fail
  go_quiet (fail)
  go_wp2;go_ret;refine⟨rfl, ?_, ?_⟩
  .refine H.o.wrote hk af.o an.o ad.o a4 Y b2 ag.o az ((D.o.setCell (p:=(O rb (k*13+10))) rfl _).drewN _) ((U.o.setCell _ _).drewN _) ?_ ?_ _ ac.o (λb bg n aq bt=>by simp only[ϑa,ϑb,ϑz]at bt;omega) (kl++[(m9:Int)+1]) (bV t10) ?_ m12 ?_ (υ ⟨ar,rfl,rfl⟩) ?_
   .exact(aT (υ V)).trans u0.o
   .exact(aT (υ V)).trans u9.o
   .exact us.o.vk (b:=rb) (((aA.refl (λA=>A=rb) _).setCell (p:=(O rb (k*13+10))) rfl _).drewN _) U.o Ψ
   .exact(aT (υ V)).trans t12
   .intro o r s h3 h4;exact(aT (υ V)).trans (uo.o o r s)
  .exact(D.o.setCell (p:=(O rb (k*13+10))) rfl _).drewN _
