import Derived.Test.YtfmmllpjgkgeaaaGreatDoorPartS04
set_option linter.unusedVariables false
set_option linter.unusedSimpArgs false
set_option maxHeartbeats 16000000
set_option maxRecDepth 100000
namespace Go.Proofs.YtfmmllpjgkgeaaaGreatDoor
open Go.Proofs.Tryz Go.RowKit
theorem LR.Ig(a:Nat)(L:LR)(h:L.kept.length<=50)(b:a<=50):(L.write a).kept.length<=50:=by unfold LR.write;split<;>simp<;>omega
theorem RefL.wrote{w e:World}{c rb:Nat}{F G:Value}{E:Nat->Value}{d:Nat}{es:List Ev}{D:Nat}{a:Ld}{knowns:List (List Bool)}(r:RefL w c rb F G E d es D a knowns){k:Nat}(T:k<knowns.length){h m:Nat}{f:List Int}(C:(a.ls k).made=h)(H:(a.ls k).lost=m)(x:natsI (a.ls k).kept=f)(h9:h+1<=1000)(a2:m+1<=1000){y:Value}{n:List Bool}(Z:SliceT 4 w y (bools n))(Y:n.length<=es.length)(R:Chg (· = rb) w e)(ht:Tagged e rb 165)(M:e.cell? (O rb (k*13))=some y)(Q:e.cell? (O rb (k*13+9))=some (.int .i64 ((h:Int)+1)))(l:Value){g:Nat}(S:w.heap.size<=g)(W:∀b B A q,l=.slice (some (O b B)) A q->b=g)(kl':List Int)(N:e.cell? (O rb (k*13+10))=some l)(a1:SliceT 3 e l (ints kl'))(j:Nat)(P:e.cell? (O rb (k*13+12))=some (.int .i64 j))(v:(d<f.length+1/\kl'=(f++[(h:Int)+1]).tail/\j=m+1)\/(¬d<f.length+1/\kl'=f++[(h:Int)+1]/\j=m))(a0:∀o,o≠k*13->o≠k*13+9->o≠k*13+10->o≠k*13+12->e.cell? (O rb o)=w.cell? (O rb o)):∃p,(∀b,p b->a.I b\/w.heap.size<=b)/\(∀b,a.I b->p b)/\RefL e c rb F G E d es D ⟨p,updN a.ls k ((a.ls k).write d)⟩ (knowns.set k n):=by
 obtain⟨z1,z2,z3⟩:=r.m500 k;have X:=LR.Ig d (a.ls k) z3 r.room50;have U:f.length=(a.ls k).kept.length:=by rw[<- x];simp[natsI]
 have key:((a.ls k).write d).made=h+1/\((a.ls k).write d).lost=j/\natsI ((a.ls k).write d).kept=kl':=by
  unfold LR.write;rw[U]at v;rcases v with⟨s,t,i⟩|⟨s,t,i⟩
  .rw[ώ s,t,i,C,H,<- x];exact⟨rfl,rfl,by cases(a.ls k).kept<;>simp[natsI]⟩
  .rw[ύ s,t,i,C,H,<- x];exact⟨rfl,rfl,by simp[natsI]⟩
 obtain⟨k1,k2,k3⟩:=key;have a3:j<=1000:=by rcases v with⟨_,_,i⟩|⟨_,_,i⟩<;>omega
 refine⟨_, ?_, ?_,r.turn (L:=(a.ls k).write d) k T y n Z Y R ht ⟨V,V,X⟩ M (by rw[k1,Q];rfl) l N (by rw[k3];exact a1) (by rw[k2];exact P) a0⟩
 .rintro b (u|⟨B,A,q,K⟩)
  .exact τ u
  .rw[W b B A q K];exact υ S
 .exact λb u=>τ u
theorem write_any(w:World)(c rb:Nat)(a5 fv:Value)(av:Nat->Value)(C:Nat)(es:List Ev)(a3:Nat)(d:Ld)(knowns:List (List Bool))(h:RefL w c rb a5 fv av C es a3 d knowns)(k:Nat)(hk:k<knowns.length)(mv:Value)(e:List Bool)(a8:SliceT 4 w mv (bools e))(aw:e.length<=es.length)(xH:(d.ls k).made+1<=1000/\(d.ls k).lost+1<=1000)(own:Bool):Calls prog 177 #[.pointer (some (z c)),.int .i64 k,mv,.bool own] w λA w'=>A=.returned (.bool true)/\(∃X,(∀b,X b->d.I b\/w.heap.size<=b)/\(∀b,d.I b->X b)/\RefL w' c rb a5 fv av C es a3 ⟨X,updN d.ls k ((d.ls k).write C)⟩ (knowns.set k e))/\Chg (· = rb) w w':=by
 obtain⟨an,f1,bf⟩:=h.f1;have f0:=h.f0;have b5:c≠rb:=h.tc.ne h.trb Ψ;obtain⟨⟨kv,a0,b0⟩,a1,a7,a9,⟨kp,al,a4,_⟩,a2,_⟩:=h.reps k hk;have b4:∀j,w.frozen? (O rb j)=false:=h.trb.frozen;have h6:=h.n6;obtain⟨b9,b1,d10⟩:=h.m500 k;obtain⟨a6,Z⟩:=xH;obtain⟨bn,m,rfl,bg⟩:=a8.shape;have H:J<|RefL w c rb a5 fv av C es a3 d knowns:=h;obtain⟨kl,K⟩:∃kl,natsI (d.ls k).kept=kl:=⟨_,rfl⟩;obtain⟨m9,QG⟩:∃m9,(d.ls k).made=m9:=⟨_,rfl⟩;obtain⟨m12,W⟩:∃m12,(d.ls k).lost=m12:=⟨_,rfl⟩;have ar:(d.ls k).kept.length=kl.length:=by rw[<- K];simp[natsI]
 rw[K]at a4;rw[QG]at a9 b9 a6;rw[W]at a2 b1 Z;rw[ar]at d10;have af:J<|natsI (d.ls k).kept=kl:=K;have ai:J<|(d.ls k).made=m9:=QG;have Vl:J<|(d.ls k).lost=m12:=W;clear K QG W ar;have aj:J<|SliceT 4 w (.slice bn (bools e).length m) (bools e):=a8;have Vm:J<|SliceT 3 w kp (ints kl):=a4;clear h a8 a4 b0;obtain⟨M,G,ab,ac,ad⟩:=info_parts Tryz.info3;go_enter func177,ntmps177;go_wp2_with fail;have y:Chg (· = rb) w ((w.setCell (O rb (k*13)) (.slice bn (bools e).length m)).setCell (O rb (k*13+9)) (.int .i64 ((m9:Int)+1))):=Chg.setCell (p:=(O rb (k*13+9))) (Chg.setCell (p:=(O rb (k*13))) (Chg.refl (λx=>x=rb) w) rfl _) rfl _;have q0:((w.setCell (O rb (k*13)) (.slice bn (bools e).length m)).setCell (O rb (k*13+9)) (.int .i64 ((m9:Int)+1))).cell? (O rb (k*13))=some (.slice bn (bools e).length m):=by exact(cs_oth (υ V)).trans (cs_same a0)
 have q9:((w.setCell (O rb (k*13)) (.slice bn (bools e).length m)).setCell (O rb (k*13+9)) (.int .i64 ((m9:Int)+1))).cell? (O rb (k*13+9))=some (.int .i64 ((m9:Int)+1)):=cs_same ((cs_oth (υ V)).trans a9);have S:∀o,o≠k*13->o≠k*13+9->((w.setCell (O rb (k*13)) (.slice bn (bools e).length m)).setCell (O rb (k*13+9)) (.int .i64 ((m9:Int)+1))).cell? (O rb o)=w.cell? (O rb o):=λo t bo=>by exact(cs_oth (υ V)).trans (cs_oth (υ V))
 have T:Tagged ((w.setCell (O rb (k*13)) (.slice bn (bools e).length m)).setCell (O rb (k*13+9)) (.int .i64 ((m9:Int)+1))) rb 165:=(H.o.trb.setCell _ _).setCell _ _;have qc:∀i,((w.setCell (O rb (k*13)) (.slice bn (bools e).length m)).setCell (O rb (k*13+9)) (.int .i64 ((m9:Int)+1))).cell? (O c i)=w.cell? (O c i):=λi=>η (w:=w) (y.block c H.o.tc.lt b5);generalize ((w.setCell (O rb (k*13)) (.slice bn (bools e).length m)).setCell (O rb (k*13+9)) (.int .i64 ((m9:Int)+1)))=bl at *;have Q:=(S (k*13+10) V V).trans al;have az:=(S (k*13+12) V V).trans a2;have g0:=(qc 0).trans f0;have R:=T.frozen;have ak:J<|∀o,o≠k*13->o≠k*13+9->bl.cell? (O rb o)=w.cell? (O rb o):=S;have b3:=H.o.tc.lt;have b2:c<bl.heap.size:=ο b3 y.size;have bm:rb<bl.heap.size:=T.lt;have ag:J<|SliceT 3 bl kp (ints kl):=Vm.o.chgT y H.o.trb Ψ;have YO:(ints kl).length=kl.length:=by simp[ints]
 clear S qc f0 f1 a0 a7 a9 al a2 b4 Vm;go_cut []from 80 to 94 (λD=>∃f v,D=f.setCell (O rb (k*13+10)) v/\ϑ bl f/\f.ownsRow bl.heap.size 3 1 v (kl.length+1) (ints kl++[.int .i64 ((m9:Int)+1)]))
 case first =>
  rcases ag.o with⟨rfl,b6⟩|⟨N,P,pc,rfl,bh,b8,jS⟩
  .have hkn:kl=[]:=by simpa[ints]using b6
   subst hkn;have Y:J<|∀u∈[Value.int .i64 ((m9:Int)+1)],u.oneCell'=true:=by intro u q;simp at q;subst q;rfl
   have s:J<|0+1<=maxLen:=by unfold J maxLen;omega
   have B:J<|(0+1)*8<=140737488355328:=ω V
   go_region_law (first|(refine kY rfl (.tmp 81) (.tmp 85) 42 rfl bl.heap.size 3 M 1 underlying42 G (.slice (some (z _)) 0 0) 0 [] rfl ?_ rfl ?_;(first|(refine dw _ _ ?_ ?_<;>(simp;done))|(refine World.ownsRow.alloc (dw _ _ ?_ ?_) _<;>(simp;done))|(refine dw _ _ ?_ ?_<;>(simp<;>omega))|(refine World.ownsRow.alloc (dw _ _ ?_ ?_) _<;>(simp<;>omega))))|(refine kK rfl (.tmp 86) (.tmp 91) 42 rfl bl.heap.size 3 M (.int .i64 0) 1 8 underlying42 G ab ac ad rfl Ψ (.slice (some (z _)) 0 0) 0 [] rfl ?_ _ 1 1 [.int .i64 ((m9:Int)+1)] rfl rfl ?_ Y.o s.o B.o Nat.one_pos bl ?_ (χ _) ?_;(first|(refine dw _ _ ?_ ?_<;>(simp;done))|(refine World.ownsRow.alloc (dw _ _ ?_ ?_) _<;>(simp;done))|(refine dw _ _ ?_ ?_<;>(simp<;>omega))|(refine World.ownsRow.alloc (dw _ _ ?_ ?_) _<;>(simp<;>omega)));(intro j u g;match j,g with|0,g=>(cases g;first|rfl|(simp[Addr.add];done)|(simp[Addr.add];refine(RQ _ 0 ?_ ?_).trans ?_;(first|(simp only[World.size_drew,ϊ];omega)|omega);(simp[Value.ownBlock]);(first|rfl|(simp;done)|(simp[go_sem];done)))));(go_grown);intro g6 c6 w6 aa r;have bc:=(r.cell (p:=(O rb (k*13+10))) bm).trans Q;have sf:=λj=>(r.frozen (p:=(O rb j)) bm).trans (R j)))
   all_goals go_wp2_with fail
   all_goals go_meet
   all_goals exact⟨_,_,rfl,r,aa⟩
  .have hW:J<|∀D,ϑ bl D->∀j u,(ints kl)[j]?=some u->D.cell? (((O N P):Addr).add j)=some u:=by
    intro D ba j u g;have aq:j<(ints kl).length:=by
     rcases Nat.lt_or_ge j (ints kl).length with h|h
     .exact h
     .rw[List.getElem?_eq_none h]at g;cases g
    have he:((O N P):Addr).add j=(O N (P+j)):=by unfold Addr.add;split<;>simp_all
    rw[he,ba.cell (p:=(O N (P+j))) b8.lt,jS j aq];rw[σ aq]at g;exact g
   have b7:J<|∀u∈ints kl,u.oneCell'=true:=by intro u q;simp[ints]at q;obtain⟨a,_,rfl⟩:=q;rfl
   clear jS;rw[YO]at *;have Y:J<|∀u∈[Value.int .i64 ((m9:Int)+1)],u.oneCell'=true:=by intro u q;simp at q;subst q;rfl
   have s:J<|0+kl.length<=maxLen:=by unfold J maxLen;omega
   have B:J<|(0+kl.length)*8<=140737488355328:=ω V
   have e3:J<|0+kl.length+1<=maxLen:=by unfold J maxLen;omega
   have e4:J<|(0+kl.length+1)*8<=140737488355328:=ω V
   have e5:J<|0<0+kl.length+1:=ω V
   have e6:J<|(ints kl).length=kl.length*1:=ω<|by simp[ints]
   go_region_law (first|(refine oP rfl (.tmp 81) (.tmp 85) 42 rfl bl.heap.size 3 M (.int .i64 0) 1 8 underlying42 G ab ac ad rfl Ψ (.slice (some (z _)) 0 0) 0 [] rfl ?_ _ kl.length _ (ints kl) rfl e6.o b7.o s.o B.o bl ?_ (χ _) hW.o ?_;(first|(refine dw _ _ ?_ ?_<;>(simp;done))|(refine World.ownsRow.alloc (dw _ _ ?_ ?_) _<;>(simp;done))|(refine dw _ _ ?_ ?_<;>(simp<;>omega))|(refine World.ownsRow.alloc (dw _ _ ?_ ?_) _<;>(simp<;>omega)));(go_grown);intro v5 w5 ax F bi RQ;have s9:=(F.cell (p:=(O rb (k*13+9))) bm).trans q9)|(refine kK rfl (.tmp 86) (.tmp 91) 42 rfl bl.heap.size 3 M (.int .i64 0) 1 8 underlying42 G ab ac ad rfl Ψ _ (0+kl.length) ([]++ints kl) rfl ?_ _ 1 1 [.int .i64 ((m9:Int)+1)] rfl rfl ?_ Y.o e3.o e4.o e5.o bl ?_ (χ _) ?_;(first|exact ax|exact ax.alloc _);(intro j u g;match j,g with|0,g=>(cases g;first|rfl|(simp[Addr.add];done)|(simp[Addr.add];refine(RQ _ 0 ?_ ?_).trans ?_;(first|(simp only[World.size_drew,ϊ];omega)|omega);(simp[Value.ownBlock]);(first|rfl|(simp;done)|(simp[go_sem];done)))));(first|exact F|exact F.alloc F.size _);intro g6 c6 w6 aa r;have bc:=(r.cell (p:=(O rb (k*13+10))) bm).trans Q;have sf:=λj=>(r.frozen (p:=(O rb j)) bm).trans (R j)))
   all_goals go_wp2_with fail
   all_goals go_meet
   all_goals exact⟨_,_,rfl,r,by simpa using aa⟩
 case rest =>
 obtain⟨f,v,rfl,l,L⟩:=hcut;obtain⟨g2,c2,rfl⟩:=own_some L V;have ae:J<|w.heap.size<=g2:=ς y.size (L.lt g2 rfl).1;have t10:=(l.cell (p:=(O rb (k*13+10))) bm).trans Q;have t12:=(l.cell (p:=(O rb (k*13+12))) bm).trans az;have bk:=(l.cell (p:=(z c)) b2).trans g0;have tf:∀j,f.frozen? (O rb j)=false:=λj=>(l.frozen (p:=(O rb j)) bm).trans (R j);have u0:J<|f.cell? (O rb (k*13))=some (.slice bn (bools e).length m):=(l.cell (p:=(O rb (k*13))) bm).trans q0;have u9:J<|f.cell? (O rb (k*13+9))=some (.int .i64 ((m9:Int)+1)):=(l.cell (p:=(O rb (k*13+9))) bm).trans q9;have uo:J<|∀o,o≠k*13->o≠k*13+9->f.cell? (O rb o)=w.cell? (O rb o):=λo t bo=>(l.cell (p:=(O rb o)) bm).trans (ak.o o t bo);have U:J<|Tagged f rb 165:=T.below l;have E:J<|Chg (λx=>x=rb) w f:=y.below l;have us:J<|SliceT 3 f (.slice (some (z g2)) (kl.length+1) c2) (ints (kl++[(m9:Int)+1])):=by have:=own_sliceT L;unfold J;simpa[ints]using this
 have be:kl.length+1<=c2:=by obtain⟨ao,cp,s,B⟩:=us.o.shape;simp only[Value.slice.injEq]at s;obtain⟨_,_,rfl⟩:=s;simpa[ints]using B
 have bj:=H.o.room50;clear l L ak T q0 q9 Q az R g0 y ag;by_cases ap:C<kl.length+1
 .have XZ:(f.setCell (O rb (k*13+10)) (.slice (some (z g2)) (kl.length+1) c2)).cell? (O rb (k*13+10))=some (.slice (some (z g2)) (kl.length+1) c2):=cs_same t10;have bd:1<=c2:=V
  have W:m12<=1000:=V
  go_wp2_with fail
  go_quiet (fail)
  go_wp2;all_goals
   go_ret;refine⟨rfl, ?_, ?_⟩
   .refine H.o.wrote hk ai.o Vl.o af.o a6 Z aj.o aw ((((E.o.setCell (p:=(O rb (k*13+10))) rfl _).setCell (p:=(O rb (k*13+10))) rfl _).setCell (p:=(O rb (k*13+12))) rfl _).drewN _) ((((U.o.setCell _ _).setCell _ _).setCell _ _).drewN _) ?_ ?_ _ ae.o (λb bb n an A=>by simp only[Value.slice.injEq,Option.some.injEq,Addr.mk.injEq]at A;omega) (kl++[(m9:Int)+1]).tail ((cs_oth (υ V)).trans (cs_same (cs_same t10))) ?_ (m12+1) ?_ (τ ⟨ap,rfl,rfl⟩) ?_
    .exact(cs_oth (υ V)).trans ((cs_oth (υ V)).trans ((cs_oth (υ V)).trans u0.o))
    .exact(cs_oth (υ V)).trans ((cs_oth (υ V)).trans ((cs_oth (υ V)).trans u9.o))
    .refine SliceT.chgT (b:=rb) (w:=f) ?_ (((((Chg.refl (λx=>x=rb) _).setCell (p:=(O rb (k*13+10))) rfl _).setCell (p:=(O rb (k*13+10))) rfl _).setCell (p:=(O rb (k*13+12))) rfl _).drewN _) U.o Ψ;rw[show ints (kl++[(m9:Int)+1]).tail=(ints (kl++[(m9:Int)+1])).tail from by cases kl<;>rfl];refine us.o.Vh kl.length _ ?_ ?_ ?_
     .simp[ints]
     .first|(right;rfl)|(left;exact⟨rfl,V⟩)
     .omega
    .refine(cs_same ((cs_oth (υ V)).trans ((cs_oth (υ V)).trans t12))).trans ?_;simp
    .intro o t bo h3 h4;exact(cs_oth (υ V)).trans ((cs_oth (υ V)).trans ((cs_oth (υ V)).trans (uo.o o t bo)))
   .exact(((E.o.setCell (p:=(O rb (k*13+10))) rfl _).setCell (p:=(O rb (k*13+10))) rfl _).setCell (p:=(O rb (k*13+12))) rfl _).drewN _
 .go_wp2_with fail
  go_quiet (fail)
  go_wp2;go_ret;refine⟨rfl, ?_, ?_⟩
  .refine H.o.wrote hk ai.o Vl.o af.o a6 Z aj.o aw ((E.o.setCell (p:=(O rb (k*13+10))) rfl _).drewN _) ((U.o.setCell _ _).drewN _) ?_ ?_ _ ae.o (λb bb n an A=>by simp only[Value.slice.injEq,Option.some.injEq,Addr.mk.injEq]at A;omega) (kl++[(m9:Int)+1]) (cs_same t10) ?_ m12 ?_ (υ ⟨ap,rfl,rfl⟩) ?_
   .exact(cs_oth (υ V)).trans u0.o
   .exact(cs_oth (υ V)).trans u9.o
   .exact us.o.chgT (b:=rb) (((Chg.refl (λx=>x=rb) _).setCell (p:=(O rb (k*13+10))) rfl _).drewN _) U.o Ψ
   .exact(cs_oth (υ V)).trans t12
   .intro o t bo h3 h4;exact(cs_oth (υ V)).trans (uo.o o t bo)
  .exact(E.o.setCell (p:=(O rb (k*13+10))) rfl _).drewN _
