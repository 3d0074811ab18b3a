import Derived.Test.YtfmmllpjgkgeaaaGreatDoorPartS09
set_option linter.unusedVariables false
set_option linter.unusedSimpArgs false
set_option maxHeartbeats 16000000
set_option maxRecDepth 100000
namespace Go.Proofs.YtfmmllpjgkgeaaaGreatDoor
section
open Go.Proofs.Tryz Go.RowKit Go.Maps Go.WideMaps
variable{B N cb d ib lb:Nat}{L Lo:Nat->Bool}{c co:Nat->Nat}{It:Nat->Option Value}{M S S':Nat->Prop}{cv iv lv v:Value}{m:Value->Option Value}{w w' wx wy:World}
theorem CG.drop(h:CG w B cb lb c L wx)(a:wx.grownBy wy (some lb))(e:aP prog 134 wy lb N (era (lm L) (aA d))):CG w B cb lb c (λk=>L k&&k !=d) wy:=by obtain⟨f,i⟩:=h.ctx.cs;refine h.grown a (υ rfl) ⟨⟨f,i.kept a (λg=>h.ctx.ne (by cases g;rfl))⟩,⟨N,by rw[Sz]at e;exact e⟩,h.ctx.ne,h.ctx.nI,h.ctx.c5,λk b=>h.ctx.ug k (by simp at b;exact b.1)⟩
theorem CG.inc{a:Nat}(h:CG w B cb lb c L wx)(d:wx.grownBy wy (some cb))(f:aP prog 3 wy cb N (upd (cm c) (.int .i64 a) (.int .i64 ((c a+1:Nat):Int))))(p:a<=5)(l:c a+1<=501)(m:L (mkD a (c a+1))=false):CG w B cb lb (Go.Proofs.YtfmmllpjgkgeaaaGreatDoor.inc c a) L wy:=by
 obtain⟨i,n⟩:=h.ctx.ls;refine h.grown d (τ rfl) ⟨⟨N,by rw[Sr]at f;exact f⟩,⟨i,n.kept d (λe=>h.ctx.ne (by cases e;rfl))⟩,h.ctx.ne,λx=>?_,λx g=>?_,λk b=>?_⟩
 .by_cases e:x=a
  .subst e;rw[bP];exact l
  .rw[eY e];exact h.ctx.nI x
 .by_cases e:x=a
  .subst e;exact p
  .rw[eY e]at g;exact h.ctx.c5 x g
 .have:=h.ctx.ug k b;refine⟨this.1, ?_⟩;by_cases e:who k=a
  .rw[e,bP];have o:=this.2;rw[e]at o;rcases Nat.lt_or_ge (c a+1) (nth k)with h|h
   .exact h
   .have j:k=mkD a (c a+1):=(jl (by rw[bW V,e]) (by rw[aZ V];omega));rw[j,m]at b;cases b
  .rw[eY e];exact this.2
theorem CG.put(h:CG w B cb lb c L wx)(b:wx.grownBy wy (some lb))(e:aP prog 134 wy lb N (upd (lm L) (aA d) lI))(i:c (who d)<nth d)(j:okD d):CG w B cb lb c (λk=>L k||k==d) wy:=by
 obtain⟨f,l⟩:=h.ctx.cs;refine h.grown b (υ rfl) ⟨⟨f,l.kept b (λg=>h.ctx.ne (by cases g;rfl))⟩,⟨N,by rw[Sv]at e;exact e⟩,h.ctx.ne,h.ctx.nI,h.ctx.c5,λk a=>?_⟩;simp at a;rcases a with a|a
 .exact h.ctx.ug k a
 .subst a;exact⟨j,i⟩
def iP(c:Nat->Nat)(L:Nat->Bool)(d:Nat):Prop:=nth d<=c (who d)\/L d=true
structure nV(a:Nat)(c:Nat->Nat)(L:Nat->Bool)(c':Nat->Nat)(L':Nat->Bool):Prop where
 same:∀d,iP c' L' d↔iP c L d
 oc:∀x,x≠a->c' x=c x
 ol:∀d,who d≠a->L' d=L d
theorem nV.refl(a:Nat)(c:Nat->Nat)(L:Nat->Bool):nV a c L c L:=⟨λ_=>Iff.rfl,λ_ _=>rfl,λ_ _=>rfl⟩
theorem nV.step{a:Nat}{b:Nat->Nat}{i:Nat->Bool}(h:nV a c L b i)(n:i (mkD a (b a+1))=true)(f:b a+1<512):nV a c L (inc b a) (λk=>i k&&k !=mkD a (b a+1)):=by
 refine⟨λd=>?_,λx m=>by rw[eY m];exact h.oc x m,λd l=>?_⟩
 .rw[<- h.same d];unfold iP;simp only[γ,bne_iff_ne,ne_eq];by_cases g:who d=a
  .rw[g,bP];constructor
   .rintro(h|⟨h,_⟩)
    .by_cases e:nth d=b a+1
     .right;rw[<- n];congr 1;exact jl (by rw[bW f,g]) (by rw[aZ f,e])
     .left;omega
    .exact υ h
   .rintro(h|h)
    .left;omega
    .by_cases e:d=mkD a (b a+1)
     .left;rw[e,aZ f];omega
     .exact υ ⟨h,e⟩
  .rw[eY g];have j:d≠mkD a (b a+1):=λe=>g (by rw[e,bW f]);constructor
   .rintro(h|⟨h,_⟩)
    .exact τ h
    .exact υ h
   .rintro(h|h)
    .exact τ h
    .exact υ ⟨h,j⟩
 .have j:d≠mkD a (b a+1):=λe=>l (by rw[e,bW f]);simp[j,h.ol d l]
theorem yX(w:World)(cb lb a:Nat)(c:Nat->Nat)(L:Nat->Bool)(t:oz w cb lb c L)(M:a<=5):Calls prog 248 #[.agg #[.map (some cb),.map (some lb)],.int .i64 a] w λQ w'=>Q=.returned (.tuple #[])/\∃b d,oz w' cb lb b d/\d (mkD a (b a+1))=false/\nV a c L b d/\Chg (λk=>k=cb\/k=lb) w w':=by
 have T:=qw a V;have F:J<|∀C,C=.cells #[.map (some cb),.map (some lb)] 100->CG w w.heap.size cb lb c L (w.alloc C):=λC a7=>by subst a7;have h:Below w.heap.size w (w.alloc (.cells #[.map (some cb),.map (some lb)] 100)):=(φ _ w).alloc (χ _) _;exact⟨t.below h,World.cell?_alloc_at _ _ _ _ rfl,World.cell?_alloc_at _ _ _ _ rfl,t.lt,χ _,Ω,Chg.of_below h⟩
 clear t;go_enter func248,ntmps248;go_wp2;go_loopg [6] (501-c a) (λg v6 wx=>∃(b:Nat->Nat)(d:Nat->Bool),g=501-b a/\CG w w.heap.size cb lb b d wx/\nV a c L b d);case atStart=>exact⟨c,L,rfl,F.o _ rfl,nV.refl a c L⟩
 case round =>
  obtain⟨b,d,a2,j,R⟩:=hrel;have D:J<|CG w w.heap.size cb lb b d wr:=j;have G:J<|nV a c L b d:=R;have P:=j.b0;have b1:=j.b1;have nI:=j.ctx.nI a;have r:J<|_:=next_any wr _ _ a b d j.ctx.X6 M;obtain⟨ca,v⟩:∃ca,b a=ca:=⟨_,rfl⟩;have f:J<|b a=ca:=v;rw[v]at r nI a2;clear j R F v;go_wp2_with fail;refine ψ r.o ?_;rintro Q i⟨rfl,S⟩;have ad:J<|CG w w.heap.size cb lb b d i:=D.o.below S;have P:=ad.o.b0;have b1:=ad.o.b1;have aa:=ad.o.lt;have hw:=ad.o.new;have A:ca+1<512:=V
  have E:J<|ou (a:Int) ((ca+1:Nat):Int)=aA (mkD a (ca+1)):=Gq A;obtain⟨B,y⟩:=KR a (ca+1) V V;have W:=Gs d (ou a (ca+1:Nat));have o:(lm d (ou a (ca+1:Nat))).isSome=d (mkD a (ca+1)):=by rw[E.o];exact mY _ _
  have U:=ED a b;rw[f.o]at U;clear r S D;obtain⟨K,ae⟩:=ad.o.ctx.ls;have a8:K<=3072:=lK ae (λn hn=>(ad.o.ctx.ug n hn).1);have p:J<|∀wy,Below i.heap.size i wy->aP prog 134 wy lb K (lm d):=λwy h=>ae.block (h.block _ ae.lt);have s:J<|∀wy,Below i.heap.size i wy->CG w w.heap.size cb lb b d wy:=λwy h=>ad.o.below h;clear ae;cases hl:d (mkD a (ca+1)) with
  | false =>
   have q:J<|d (mkD a (b a+1))=false:=ω<|by rw[f.o];exact hl
   rw[hl]at o;clear hl;go_wp2_with (first|(at_lookup;refine lH rfl (.tmp 12) (.tmp 13) 98 rfl 69 fG underlying98 (KQ _) rfl (p.o _ ?_) (ou a ((ca+1:Nat):Int)) B rfl y _ W _ o ?_;(go_grown)));refine ϐ (results_none rfl _ _ _) rfl ?_;refine⟨rfl,b,d,(s.o _ ?_).ctx,q.o,G.o,(s.o _ ?_).chg⟩<;>go_grown
  | true =>
   have q:J<|d (mkD a (b a+1))=true:=ω<|by rw[f.o];exact hl
   have gB:ca+1<=501:=by have:=(ad.o.ctx.ug _ hl).1.2.2;rw[aZ A]at this;exact this
   rw[hl]at o;clear hl;have Z:J<|∀wy e N,Below i.heap.size i wy->wy.grownBy e (some lb)->aP prog 134 e lb N (era (lm d) (ou a (ca+1:Nat)))->CG w w.heap.size cb lb b (λk=>d k&&k !=mkD a (b a+1)) e:=λwy e N h x m=>by rw[E.o,<- f.o]at m;exact CG.drop (s.o wy h) x m
   have Y0:J<|∀wy e N,CG w w.heap.size cb lb b (λk=>d k&&k !=mkD a (b a+1)) wy->wy.grownBy e (some cb)->aP prog 3 e cb N (upd (cm b) (.int .i64 a) (.int .i64 ((ca+1:Nat):Int)))->CG w w.heap.size cb lb (inc b a) (λk=>d k&&k !=mkD a (b a+1)) e:=λwy e N hc x m=>by rw[<- f.o]at m;exact CG.inc hc x m M (by rw[f.o];exact gB) Ω
   go_wp2_with (first|(at_lookup;refine lH rfl (.tmp 12) (.tmp 13) 98 rfl 69 fG underlying98 (KQ _) rfl (p.o _ ?_) (ou a ((ca+1:Nat):Int)) B rfl y _ W _ o ?_;(go_grown))|(at_delete;refine Bg rfl (.tmp 20) (.tmp 21) 98 rfl 69 fG underlying98 rfl (p.o _ ?_) (ou a ((ca+1:Nat):Int)) B rfl y ?_;(go_grown);intro w2 a3 a0 ab;have l:CG w w.heap.size cb lb b (λk=>d k&&k !=mkD a (b a+1)) w2:=(by refine Z.o _ _ _ ?_ a0 a3;go_grown);have Y:J<|CG w w.heap.size cb lb b (λk=>d k&&k !=mkD a (b a+1)) w2:=l;have P:=l.b0;obtain⟨H,u⟩:=l.ctx.cs;have a9:H<=6:=yV u l.ctx.c5;have a6:H<maxLen:=(by unfold maxLen;omega);clear l)|(at_lookup;refine lG rfl (.tmp 23) (.tmp 24) 97 rfl 3 jd underlying97 (Ey _) rfl u (.int .i64 a) _ rfl T _ U ?_)|(at_mapUpdate;refine dO rfl (.tmp 23) (.tmp 24) (.tmp 26) 97 rfl 3 jd underlying97 rfl u a6 (.int .i64 a) (.int .i64 ((ca+1:Nat):Int)) _ rfl (by first|rfl|simp) T ?_;intro w3 a4 a1 ac;have X:CG w w.heap.size cb lb (inc b a) (λk=>d k&&k !=mkD a (b a+1)) w3:=(Y0.o _ _ _ Y.o a1 a4);go_frame));all_goals
    go_roundg (501-(ca+1));case measure=>omega
    case rel=>exact⟨inc b a,_,by rw[bP,f.o],X,G.o.step q.o (by rw[f.o];exact A)⟩
def fJ(w:World)(cb lb:Nat)(S:Nat->Prop):Prop:=∃c L,oz w cb lb c L/\(∀a,L (mkD a (c a+1))=false)/\∀d,1<=nth d->(S d↔iP c L d)
def yY(w:World)(cv lv:Value)(S:Nat->Prop):Prop:=∃c L,iI w cv lv c L/\(∀a,L (mkD a (c a+1))=false)/\∀d,1<=nth d->(S d↔iP c L d)
theorem fJ.toR(h:fJ w cb lb S):yY w (.map (some cb)) (.map (some lb)) S:=by obtain⟨c,L,a,b,d⟩:=h;exact⟨c,L,a.X6,b,d⟩
theorem fJ.chg(h:fJ w cb lb S)(d:Chg M w w')(a:¬M cb)(b:¬M lb):fJ w' cb lb S:=by obtain⟨c,L,g1,g2,g3⟩:=h;exact⟨c,L,g1.chg d a b,g2,g3⟩
theorem fJ.below(h:fJ w cb lb S)(a:Below w.heap.size w w'):fJ w' cb lb S:=by obtain⟨c,L,g1,g2,g3⟩:=h;exact⟨c,L,g1.below a,g2,g3⟩
theorem fJ.lt(h:fJ w cb lb S):cb<w.heap.size/\lb<w.heap.size:=by obtain⟨c,L,g1,g2,g3⟩:=h;exact g1.lt
theorem fJ.iff(h:fJ w cb lb S)(b:∀n,1<=nth n->(S' n↔S n)):fJ w cb lb S':=by obtain⟨c,L,g1,g2,g3⟩:=h;exact⟨c,L,g1,g2,λn a=>(b n a).trans (g3 n a)⟩
theorem Pe{k:Nat}:iP c (λx=>L x||x==d) k↔iP c L k\/k=d:=by unfold iP;simp only[Bool.or_eq_true,beq_iff_eq];exact⟨λh=>h.elim (λh=>τ (τ h)) (λh=>h.elim (λh=>τ (υ h)) υ),λh=>h.elim (λh=>h.elim τ (λh=>υ (τ h))) (λh=>υ (υ h))⟩
theorem KU{f:Nat->Nat}{b:Nat->Bool}(m:∀a,L (mkD a (c a+1))=false)(g:nV (who d) c (λk=>L k||k==d) f b)(l:b (mkD (who d) (f (who d)+1))=false)(i:∀a,c a<=501):∀a,b (mkD a (f a+1))=false:=by
 intro a;by_cases e:a=who d
 .subst e;exact l
 .have h:who (mkD a (c a+1))=a:=bW (by have:=i a;omega);rw[g.oc a e,g.ol _ (by rw[h];exact e),m a];have:mkD a (c a+1)≠d:=λj=>e (by rw[<- j,h]);simp[this]
theorem add_any(w:World)(cb lb d:Nat)(S:Nat->Prop)(h:fJ w cb lb S)(M:okD d):Calls prog 201 #[.agg #[.map (some cb),.map (some lb)],aA d] w λe w'=>e=.returned (.tuple #[])/\fJ w' cb lb (λk=>S k\/k=d)/\Chg (λk=>k=cb\/k=lb) w w':=by
 obtain⟨c,L,h,K,G⟩:=h;have y:J<|∀k,1<=nth k->(S k↔iP c L k):=G;have C:=M.1;have Q:=h.nI;have A:J<|∀a,L (mkD a (c a+1))=false:=K;have qy:J<|∀a,c a<=501:=Q;have x:J<|∀f,f=.cells #[.map (some cb),.map (some lb)] 100->∀g,CG w w.heap.size cb lb c L ((w.alloc f).alloc g):=λf s g=>by subst s;have H:Below w.heap.size w (w.alloc (.cells #[.map (some cb),.map (some lb)] 100)):=(φ _ w).alloc (χ _) _;refine CG.below (wx:=w.alloc (.cells #[.map (some cb),.map (some lb)] 100)) ?_ ((φ _ _).alloc (χ _) _);exact⟨h.below H,World.cell?_alloc_at _ _ _ _ rfl,World.cell?_alloc_at _ _ _ _ rfl,h.lt,χ _,Ω,Chg.of_below H⟩
 have v:J<|∀f,f=.cells #[.int .i64 (who d),.int .i64 (nth d)] 134->∀g,((w.alloc g).alloc f).cell? (z (w.heap.size+1))=some (.int .i64 (who d))/\((w.alloc g).alloc f).cell? (O (w.heap.size+1) 1)=some (.int .i64 (nth d)):=λf s g=>by
  subst s;have e:(w.alloc g).heap.size=w.heap.size+1:=Ω
  exact⟨by rw[<- e];exact World.cell?_alloc_at _ _ _ _ rfl,by rw[<- e];exact World.cell?_alloc_at _ _ _ _ rfl⟩
 clear h G K Q;go_enter func201,ntmps201;go_wp2_with fail;have a9:=x.o _ rfl (.cells #[.int .i64 (who d),.int .i64 (nth d)] 134);have o:=v.o _ rfl (.cells #[.map (some cb),.map (some lb)] 100);clear x v;generalize P:(w.alloc (.cells #[.map (some cb),.map (some lb)] 100)).alloc (.cells #[.int .i64 (who d),.int .i64 (nth d)] 134)=R at *;have a3:R.heap.size=w.heap.size+2:=by rw[<- P];simp
 clear P;refine ψ (yU R _ _ c d L a9.ctx.X6 C) ?_;rintro e i⟨rfl,l⟩;have b:=a9.below l;have d0:i.cell? (z (w.heap.size+1))=some (.int .i64 (who d)):=(l.cell (p:=(z (w.heap.size+1))) (by show w.heap.size+1<_;omega)).trans o.1;have d1:i.cell? (O (w.heap.size+1) 1)=some (.int .i64 (nth d)):=(l.cell (p:=(O (w.heap.size+1) 1)) (by show w.heap.size+1<_;omega)).trans o.2;have a4:w.heap.size+1<i.heap.size:=by have:=l.size;omega
 have D:=b.b0;have E:=b.b1;have u:J<|CG w w.heap.size cb lb c L i:=b;clear a9 o l a3;cases hh:(decide (nth d<=c (who d))||L d) with
 | true =>
  have X:J<|iP c L d:=by unfold J iP;simpa using hh
  clear b hh;go_wp2;refine ϐ (results_none rfl _ _ _) rfl ?_;exact⟨rfl,⟨c,L,u.o.ctx,A.o,λk r=>by
   show(S k\/k=d)↔_;rw[y.o k r];constructor
   .rintro(h|rfl)
    .exact h
    .exact X.o
   .exact τ⟩,u.o.chg⟩
 | false =>
  have Y1:c (who d)<nth d:=by simp at hh;omega
  clear hh;obtain⟨kl,a0⟩:=keyE d V;obtain⟨m,q⟩:=b.ctx.ls;have a6:m<=3072:=lK q (λn hn=>(b.ctx.ug n hn).1);have a2:m<maxLen:=by unfold maxLen;omega
  have a7:=b.old;have W:J<|aP prog 134 i lb m (lm L):=q;clear b q;go_wp2_with (first|(at_mapUpdate;refine dO rfl (.tmp 8) (.tmp 9) (.tmp 10) 98 rfl 69 fG underlying98 rfl W.o a2 (aA d) lI _ rfl rfl a0 ?_;intro w4 a1 N a8;have j:CG w w.heap.size cb lb c (λk=>L k||k==d) w4:=(CG.put u.o N a1 Y1 M);have D:=j.b0;have E:=j.b1;have d0:w4.cell? (z (w.heap.size+1))=some (.int .i64 (who d)):=(η (w:=i) (N.block (w.heap.size+1) a4 (λe=>by cases e;omega))).trans d0));refine ψ (yX w4 cb lb (who d) c _ j.ctx C) ?_;rintro e T⟨rfl,c',Y,F,Z,t,B⟩;have U:J<|fJ T cb lb (λk=>S k\/k=d):=⟨c',Y,F,KU A.o t Z qy.o,λk r=>by show(S k\/k=d)↔_;rw[t.same k,y.o k r,Pe]⟩;have Y2:J<|Chg (λk=>k=cb\/k=lb) w T:=j.chg.trans B;clear F t B j D E d0;go_wp2
  go_end0
  exact⟨rfl,U.o,Y2.o⟩
def aB(P:Program)(k:TypeId)(w:World)(v:Value)(r N:Nat)(m:Value->Option Value)(left:Value->Prop)(cnt:Nat):Prop :=
 (v=.map none/\(∃s seen c,w.heap[r]?=some (.mapIter none s seen c))/\cnt=0/\m=(λ_=>none)/\∀key,¬left key)\/∃b,v=.map (some b)/\dW P k w b r N m left cnt
section
variable{P:Program}{k:TypeId}{w:World}{v:Value}{r N cnt:Nat}{m:Value->Option Value}{left:Value->Prop}
theorem aW.chg{M:Nat->Prop}{w':World}(h:aW P k w v N m)(d:Chg M w w')(e:∀b,v=.map (some b)->¬M b):aW P k w' v N m:=by
 rcases h with h|⟨b,a,c⟩
 .exact τ h
 .exact υ ⟨b,a,c.block (d.block b c.lt (e b a))⟩
theorem aB.chg{M:Nat->Prop}{w':World}(h:aB P k w v r N m left cnt)(e:Chg M w w')(i:∀b,v=.map (some b)->¬M b)(f:¬M r):aB P k w' v r N m left cnt:=by
 rcases h with⟨d,⟨s,seen,c,a⟩,g⟩|⟨b,d,a⟩
 .exact τ ⟨d,⟨s,seen,c,(e.block r (Array.getElem?_eq_some_iff.1 a).1 f).trans a⟩,g⟩
 .exact υ ⟨b,d,a.block (e.block b a.map.lt (i b d)) (e.block r a.lt f)⟩
theorem aB.lt(h:aB P k w v r N m left cnt):r<w.heap.size:=by
 rcases h with⟨b,⟨s,seen,c,a⟩,e⟩|⟨d,b,a⟩
 .exact(Array.getElem?_eq_some_iff.1 a).1
 .exact a.lt
theorem aB.map{t:TypeId}(h:aB P t w v r N m left cnt):∃N,aW P t w v N m:=by
 rcases h with⟨a,_,_,b,_⟩|⟨c,a,b⟩
 .exact⟨0,τ ⟨a,rfl,b⟩⟩
 .exact⟨N,υ ⟨c,a,b.map⟩⟩
theorem oW{a:TypeId}{s c:Nat}{seen:Array Nat}(h:w.heap[r]?=some (.mapIter none s seen c)):(Instr.next (.pointer (some (z r))) false a).run P w=.ok (.tuple #[.bool false]) w:=by simp only[Instr.next,getObj,Sem.run_bind,Sem.run,h,Result.andThen];rfl
variable{ops:Array Oper}{rest:List Oper}{o:Oper}{a:Act}{Q:Exit->Act->World->Prop}
theorem cO(n:o.guard=none)(i:Operand)(t:TypeId)(f:o.op=Op.range t i)(e:TypeId)(K:Keyed P k)(g:P.underlying t=some (.map k e))(d:a.eval i=v)(h:aW P k w v N m)(b:∀w',aB P k w' v w.heap.size N m (λkey=>(m key).isSome=true) N->w.grownBy w' none->w'.heap.size=w.heap.size+1->wpList P ops Q rest (a.put o.dst (.pointer (some (z w.heap.size)))) w'):wpList P ops Q (o::rest) a w:=by
 refine wpList_plain n λu c=>?_;rcases h with⟨rfl,rfl,rfl⟩|⟨j,rfl,l⟩
 .unfold Oper.wp;simp[execOp,f,d,run_range_nilMap w t k e g,Result.andThen];exact c _ _ (b _ (τ ⟨rfl,⟨0,#[],0,heap_alloc_new w _⟩,rfl,rfl,λkey h=>by cases h⟩) (World.grownBy_alloc w _ none) Ω)
 .obtain⟨w',p,q,r,s⟩:=l.range K g;unfold Oper.wp;simp[execOp,f,d,p,Result.andThen];exact c _ _ (b w' (υ ⟨j,rfl,q⟩) r s)
theorem dG{n : Type}(i:o.guard=none)(f:Operand)(l:o.op=Op.next f false)(K:Keyed P k)(mk b:n->Value)(j:a.eval f=.pointer (some (z r)))(A:aB P k w v r N m left cnt)(E:∀key v,left key->m key=some v->∃x,key=mk x/\v=b x)(h:(∀key,¬left key)->wpList P ops Q rest (a.put o.dst (.tuple #[.bool false])) w)(D:∀(x:n)(w':World)(d:Nat),left (mk x)->m (mk x)=some (b x)->aB P k w' v r N m (λy=>left y/\y≠mk x) d->d<cnt->w.grownBy w' (some r)->w'.heap.size=w.heap.size -> (Instr.entry (.pointer (some (z r)))).run P w'=.ok (.tuple #[mk x,b x]) w'->wpList P ops Q rest (a.put o.dst (.tuple #[.bool true,mk x,b x])) w'):wpList P ops Q (o::rest) a w:=by
 rcases A with⟨g,⟨L,seen,c,e⟩,G,H,B⟩|⟨p,g,e⟩
 .refine wpList_plain i λF C=>?_;unfold Oper.wp;simp[execOp,l,j,oW e,Result.andThen];exact C _ _ (h B)
 .exact Bh i f l K mk b j e E (λ_=>h) (λx w' d g1 g2 g3 q s t u=>D x w' d g1 g2 (υ ⟨p,g,g3⟩) q s t u)
end
theorem uh(w:World):Calls prog 200 #[] w λe w'=>∃cb lb,e=.returned (.agg #[.map (some cb),.map (some lb)])/\fJ w' cb lb (λ_=>False)/\w.heap.size<=cb/\w.heap.size<=lb/\Below w.heap.size w w':=by
 have j:=@run_makeMap prog;have c:J<|∀b,Below w.heap.size w (w.alloc b)/\fJ (((w.alloc b).alloc (.map #[] 0)).alloc (.map #[] 0)) (w.heap.size+1) (w.heap.size+2) (λ_=>False):=λb=>⟨(φ _ w).alloc (χ _) _,by
  have d:(w.alloc b).heap.size=w.heap.size+1:=Ω
  have f:((w.alloc b).alloc (.map #[] 0)).heap.size=w.heap.size+2:=Ω
  have m1:=aP.made (w.alloc b) prog 3;have m2:=aP.made ((w.alloc b).alloc (.map #[] 0)) prog 134;rw[d]at m1;rw[f]at m2;have g:cm (λ_=>0)=λ_=>none:=(EC (λa=>rfl) (λkey _=>rfl)).symm;have i:lm (λ_=>false)=λ_=>none:=by funext key;simp[lm]
  refine⟨λ_=>0,λ_=>false,⟨⟨0,by rw[g];exact m1.block (((φ _ ((w.alloc b).alloc (.map #[] 0))).alloc (χ _) _).block _ m1.lt)⟩,⟨0,by rw[i];exact m2⟩,V,λ_=>V,λ_ h=>absurd rfl h,λn h=>(by cases h)⟩,λ_=>rfl,λn l=>?_⟩;simp[iP];omega⟩
 go_enter func200,ntmps200;go_wp2;refine ϐ (v:=.agg #[.map (some (w.heap.size+1)),.map (some (w.heap.size+2))]) (by simp[results,Tryz.results200,go_sem]) rfl ⟨_,_,rfl, ?_,V,V, ?_⟩
 .first
   | exact(c.o _).2
   | (refine fJ.chg (M:=λk=>k=w.heap.size) (c.o _).2 (((Chg.refl _ _).setCell (p:=(z w.heap.size)) rfl _).setCell (p:=(O w.heap.size 1)) rfl _) V V)
   | trace_state
 .go_grown
theorem Gt(x y:Int)(w:World):(Instr.field 134 (.agg #[.int .i64 x,.int .i64 y]) 1).run prog w=.ok (.int .i64 y) w:=by kernel_rfl
structure AA(w:World)(cb lb:Nat)(cv lv:Value)(co:Nat->Nat)(Lo:Nat->Bool)(S:Nat->Prop)(wx:World):Prop where
 ctx:fJ wx cb lb S
 b0:wx.cell? (z w.heap.size)=some (.map (some cb))
 b1:wx.cell? (O w.heap.size 1)=some (.map (some lb))
 o0:wx.cell? (z (w.heap.size+1))=some cv
 o1:wx.cell? (O (w.heap.size+1) 1)=some lv
 oc:∃N,aW prog 3 wx cv N (cm co)
 ol:∃N,aW prog 134 wx lv N (lm Lo)
 old:cb<w.heap.size/\lb<w.heap.size
 ne:(∀b,cv=.map (some b)->b≠cb/\b≠lb/\b<w.heap.size)/\(∀b,lv=.map (some b)->b≠cb/\b≠lb/\b<w.heap.size)
 lt:w.heap.size+2<=wx.heap.size
 chg:Chg (λk=>k=cb\/k=lb) w wx
theorem AA.step(h:AA w cb lb cv lv co Lo S wx)(l:fJ wy cb lb S')(a:Chg (λk=>k=cb\/k=lb) wx wy):AA w cb lb cv lv co Lo S' wy:=by obtain⟨N,f⟩:=h.oc;obtain⟨e,g⟩:=h.ol;have m:=h.lt;have o:=h.old;have c:∀b i,w.heap.size<=b->b<wx.heap.size->wy.cell? (O b i)=wx.cell? (O b i):=λb i n j=>η (w:=wx) (a.block b j V);exact⟨l,(c _ 0 V V).trans h.b0,(c _ 1 V V).trans h.b1,(c _ 0 V V).trans h.o0,(c _ 1 V V).trans h.o1,⟨N,f.chg a (λb d=>by have:=h.ne.1 b d;omega)⟩,⟨e,g.chg a (λb d=>by have:=h.ne.2 b d;omega)⟩,h.old,h.ne,ς m a.size,h.chg.trans a⟩
theorem AA.below(h:AA w cb lb cv lv co Lo S wx)(a:Below wx.heap.size wx wy):AA w cb lb cv lv co Lo S wy:=h.step (h.ctx.below a) (Chg.of_below a)
theorem AA.turn{r:Nat}(h:AA w cb lb cv lv co Lo S wx)(p:w.heap.size+2<=r)(c:wx.grownBy wy (some r)):AA w cb lb cv lv co Lo S wy:=by have m:=h.lt;have o:=h.old;have a:∀b i,b<w.heap.size+2->wy.cell? (O b i)=wx.cell? (O b i):=λb i n=>η (w:=wx) (c.block b V (λe=>by cases e;omega));have f:Chg (λk=>k=r) wx wy:=(Chg.refl _ wx).grown c (λk e=>by cases e;exact τ rfl);obtain⟨N,j⟩:=h.oc;obtain⟨g,l⟩:=h.ol;exact⟨h.ctx.chg f V V,(a _ 0 V).trans h.b0,(a _ 1 V).trans h.b1,(a _ 0 V).trans h.o0,(a _ 1 V).trans h.o1,⟨N,j.chg f (λb d=>by have:=h.ne.1 b d;omega)⟩,⟨g,l.chg f (λb d=>by have:=h.ne.2 b d;omega)⟩,h.old,h.ne,ς m c.size,h.chg.grown c (λk e=>by cases e;right;omega)⟩
theorem AA.iff(h:AA w cb lb cv lv co Lo S wx)(a:∀n,1<=nth n->(S' n↔S n)):AA w cb lb cv lv co Lo S' wx:=h.step (h.ctx.iff a) (Chg.refl _ _)
theorem fJ.r(h:fJ w cb lb S):∃c L,iI w (.map (some cb)) (.map (some lb)) c L/\(∀d,1<=nth d->nth d<=c (who d)->S d)/\∀a,c a<=501:=by obtain⟨c,L,b,e,f⟩:=h;exact⟨c,L,b.X6,λd b e=>(f d b).2 (τ e),b.nI⟩
theorem EF(w:World)(cb lb:Nat)(S X:Nat->Prop)(cv lv:Value)(h:fJ w cb lb S)(C:yY w cv lv X)(aw:(∀c,cv=.map (some c)->c≠cb/\c≠lb/\c<w.heap.size)/\(∀c,lv=.map (some c)->c≠cb/\c≠lb/\c<w.heap.size)):Calls prog 207 #[.agg #[.map (some cb),.map (some lb)],.agg #[cv,lv]] w λe w'=>e=.returned (.tuple #[])/\fJ w' cb lb (λk=>S k\/X k)/\Chg (λk=>k=cb\/k=lb) w w':=by
 obtain⟨co,Lo,C,_,al⟩:=C;have X7:J<|∀d,1<=nth d->(X d↔iP co Lo d):=al;have b2:J<|∀a,co a<=501:=C.nI;have VH:J<|∀a,co a≠0->a<=5:=C.c5;have az:J<|∀d,Lo d=true->okD d:=λd hd=>(C.ug d hd).1;have a8:J<|∀ob a7,ob=.cells #[.map (some cb),.map (some lb)] 100->a7=.cells #[cv,lv] 100->AA w cb lb cv lv co Lo S ((w.alloc ob).alloc a7):=λob a7 e1 P=>by
  subst e1;subst P;have b4:Below w.heap.size w (w.alloc (.cells #[.map (some cb),.map (some lb)] 100)):=(φ _ w).alloc (χ _) _;have j:Below w.heap.size w ((w.alloc (.cells #[.map (some cb),.map (some lb)] 100)).alloc (.cells #[cv,lv] 100)):=b4.alloc Ω _;have an:=(φ (w.alloc (.cells #[.map (some cb),.map (some lb)] 100)).heap.size (w.alloc (.cells #[.map (some cb),.map (some lb)] 100))).alloc (χ _) (.cells #[cv,lv] 100);have e:(w.alloc (.cells #[.map (some cb),.map (some lb)] 100)).heap.size=w.heap.size+1:=Ω
  have R:=C.below j;refine⟨h.below j,(an.cell (p:=(z w.heap.size)) Ω).trans (World.cell?_alloc_at _ _ _ _ rfl),(an.cell (p:=(O w.heap.size 1)) Ω).trans (World.cell?_alloc_at _ _ _ _ rfl), ?_, ?_,R.cs,R.ls,h.lt,aw,Ω,Chg.of_below j⟩
  .rw[<- e];exact World.cell?_alloc_at _ _ _ _ rfl
  .rw[<- e];exact World.cell?_alloc_at _ _ _ _ rfl
 clear h C al aw;go_enter func207,ntmps207;have r:=a8.o _ _ rfl rfl;clear a8;obtain⟨t,ai⟩:=r.oc;have o0:=r.o0;have ba:((w.alloc (.cells #[.map (some cb),.map (some lb)] 100)).alloc (.cells #[cv,lv] 100)).heap.size=w.heap.size+2:=Ω
 have s:J<|AA w cb lb cv lv co Lo S _:=r;clear r;go_wp2_with (first|(at_range;refine cO rfl (.tmp 9) 97 rfl 3 jd underlying97 rfl ai ?_;intro w3 a6 ap bb;have ad:AA w cb lb cv lv co Lo S w3:=(s.o.below ((φ _ _).grown ap (χ _) (λk e=>by cases e)));rw[ba]at a6⊢;clear s o0 ai ap bb;go_frame));go_loopg [4] t (λQ v4 wx=>∃(left:Value->Prop)(cnt:Nat),Q=cnt/\aB prog 3 wx cv (w.heap.size+2) t (cm co) left cnt/\AA w cb lb cv lv co Lo (λk=>S k\/(nth k<=co (who k)/\¬left (.int .i64 (who k)))) wx);case atStart =>
  refine⟨_,_,rfl,a6,ad.iff (λn l=>?_)⟩;have:¬(nth n<=co (who n)/\¬(cm co (.int .i64 (who n))).isSome=true):=by rintro⟨g,b⟩;exact b (by rw[lJ,ύ V];rfl)
  simp only[this,or_false]
 case round =>
  obtain⟨left,q,hq,R,r⟩:=hrel;have HR:J<|aB prog 3 wr cv (w.heap.size+2) t (cm co) left q:=R;have s:J<|AA w cb lb cv lv co Lo (λk=>S k\/(nth k<=co (who k)/\¬left (.int .i64 (who k)))) wr:=r;have mZ:J<|∀key v,left key->cm co key=some v->∃x:Nat,key=(λx:Nat=>Value.int .i64 x) x/\v=(λx:Nat=>Value.int .i64 (co x)) x:=λkey v _ hk=>by obtain⟨x,g,b,_⟩:=jI hk;exact⟨x,g,b⟩
  have o1:=r.o1;obtain⟨F,a2⟩:=r.ol;clear R r a6 ad;go_wp2_with (first|(at_next;refine dG rfl (.tmp 10) rfl jd (λx:Nat=>.int .i64 x) (λx:Nat=>.int .i64 (co x)) (by first|rfl|(simp;rfl)) HR.o mZ.o ?_ ?_))
  .intro b7;go_wp2_with (first|(at_range;refine cO rfl (.tmp 31) 98 rfl 69 fG underlying98 rfl a2 ?_;intro w5 VI ar bc;have ae:AA w cb lb cv lv co Lo (λk=>S k\/nth k<=co (who k)) w5:=((s.o.below ((φ _ _).grown ar (χ _) (λk e=>by cases e))).iff (λn l=>by simp[b7]));have b9:w.heap.size+2<=wr.heap.size:=s.o.lt;clear s o1 a2 ar bc HR mZ;go_frame));go_loopg [7] F (λQ v7 wx=>∃(f:Value->Prop)(q2:Nat),Q=q2/\aB prog 134 wx lv wr.heap.size F (lm Lo) f q2/\AA w cb lb cv lv co Lo (λk=>(S k\/nth k<=co (who k))\/(Lo k=true/\¬f (aA k))) wx);case atStart =>
    refine⟨_,_,rfl,VI,ae.iff (λn l=>?_)⟩;have:¬(Lo n=true/\¬(lm Lo (aA n)).isSome=true):=by rintro⟨g,b⟩;exact b (by rw[mY];exact g)
    simp only[this,or_false]
   case round =>
    obtain⟨f,q2,bp,aj,ac⟩:=hrel;have a1:J<|aB prog 134 wr lv _ F (lm Lo) f q2:=aj;have H:J<|AA w cb lb cv lv co Lo (λk=>(S k\/nth k<=co (who k))\/(Lo k=true/\¬f (aA k))) wr:=ac;have KX:J<|∀key v,f key->lm Lo key=some v->∃x:Nat,key=(λn:Nat=>aA n) x/\v=(λ_=>lI) x:=λkey v _ hk=>by obtain⟨n,g,b,A⟩:=KT hk;exact⟨n,b,A⟩
    clear aj ac VI ae;go_wp2_with (first|(at_next;refine dG rfl (.tmp 32) rfl fG (λn:Nat=>aA n) (λ_=>lI) rfl a1.o KX.o ?_ ?_))
    .intro b8;have HF:J<|fJ wr cb lb (λk=>S k\/X k):=H.o.ctx.iff (λn l=>by rw[X7.o n l];unfold iP;simp only[b8,not_false_eq_true,and_true];exact⟨λh=>h.elim (λh=>τ (τ h)) (λh=>h.elim (λh=>τ (υ h)) υ),λh=>h.elim (λh=>h.elim τ (λh=>υ (τ h))) (λh=>υ (υ h))⟩);have Y2:J<|Chg (λk=>k=cb\/k=lb) w wr:=H.o.chg;clear a1 H KX;go_wp2
     go_end0
     exact⟨rfl,HF.o,Y2.o⟩
    .intro n u U be Y3 K bf b6 br Y4;have ag:Lo n=true:=by rw[<- mY n Lo,Y3];(first|done|rfl)
     have l:=az.o n ag;have i:=H.o.turn b9 b6;have bs:J<|AA w cb lb cv lv co Lo (λk=>(S k\/nth k<=co (who k))\/(Lo k=true/\¬f (aA k))) u:=i;have L:=i.b0;have N:=i.b1;have bk:=i.lt;have b3:∀o,(u.alloc o).cell? (z w.heap.size)=some (.map (some cb)):=λo=>(bs.o.below ((φ _ u).alloc (χ _) o)).b0;have Y5:∀o,(u.alloc o).cell? (O w.heap.size 1)=some (.map (some lb)):=λo=>(bs.o.below ((φ _ u).alloc (χ _) o)).b1;have G:J<|aB prog 134 u lv _ F (lm Lo) (λy=>f y/\¬y=aA n) U:=K;have E:J<|∀wx,Below u.heap.size u wx->Calls prog 201 #[.agg #[.map (some cb),.map (some lb)],aA n] wx λe w'=>e=.returned (.tuple #[])/\AA w cb lb cv lv co Lo (λk=>((S k\/nth k<=co (who k))\/(Lo k=true/\¬f (aA k)))\/k=n) w'/\aB prog 134 w' lv _ F (lm Lo) (λy=>f y/\¬y=aA n) U:=λwx j=>by have a0:=bs.o.below j;refine ψ (add_any wx cb lb n _ a0.ctx l) ?_;rintro e w'⟨rfl,g,b⟩;have bn:=a0.old;exact⟨rfl,a0.step g b,(G.o.chg (M:=λ_=>False) (Chg.of_below j) (λ_ _ h=>h) (λh=>h)).chg b (λc j=>by have:=a0.ne.2 c j;omega) V⟩
     clear K i a1 H KX bs G;go_wp2_with fail;refine ψ (E.o _ ?_) ?_
     .go_grown
     rintro e W⟨rfl,af,ak⟩;have Y6:J<|AA w cb lb cv lv co Lo (λk=>(S k\/nth k<=co (who k))\/(Lo k=true/\¬(f (aA k)/\¬aA k=aA n))) W:=af.iff (λk hk=>by
      constructor
      .rintro(h|⟨g,b⟩)
       .exact τ (τ h)
       .by_cases e:k=n
        .exact υ e
        .exact τ (υ ⟨g,λA=>b ⟨A,λP=>e (dR P)⟩⟩)
      .rintro((h|⟨g,b⟩)|rfl)
       .exact τ h
       .exact υ ⟨g,λA=>b A.1⟩
       .exact υ ⟨ag,λA=>A.2 rfl⟩)
     have Y7:J<|aB prog 134 W lv _ F (lm Lo) (λy=>f y/\¬y=aA n) U:=ak;clear af ak E L N b3 Y5 Y4;go_wp2_with fail;go_roundg U;case measure=>omega
     case rel=>exact⟨_,U,rfl,Y7.o,Y6.o⟩
  .intro a w4 D bi av jo bj aq bq ao;have VJ:co a≠0:=by intro h0;rw[lJ,ώ h0]at av;cases av
   have a5:=VH.o a VJ;have VK:=b2.o a;obtain⟨ca,T⟩:∃ca,co a=ca:=⟨_,rfl⟩;have Gj:J<|co a=ca:=T;rw[T]at VK;try rw[T]at ao
   try rw[T]
   clear T VJ;have B:=s.o.turn (χ _) aq;obtain⟨Y,L1,hV,ax,a4⟩:=B.ctx.r;have a9:J<|AA w cb lb cv lv co Lo (λk=>S k\/(nth k<=co (who k)/\¬left (.int .i64 (who k)))) w4:=B;have ab:J<|aB prog 3 w4 cv (w.heap.size+2) t (cm co) (λy=>left y/\¬y=Value.int IntKind.i64 (a:Int)) D:=jo;have Y8:J<|∀d,1<=nth d->nth d<=Y (who d)->(S d\/(nth d<=co (who d)/\¬left (.int .i64 (who d)))):=ax;have L:=B.b0;have N:=B.b1;have Hn:J<|_:=next_any w4 _ _ a Y L1 hV a5;have a4:=a4 a;obtain⟨c1,SA⟩:∃c1,Y a=c1:=⟨_,rfl⟩;have Ii:J<|Y a=c1:=SA;rw[SA]at Hn a4;clear SA;have bd:=B.ne.1;have bo:=B.old;clear B hV jo HR s ax o1 a2 mZ aq;go_wp2_with fail;refine ψ Hn.o ?_;rintro e w5⟨rfl,a3⟩;have aa:J<|AA w cb lb cv lv co Lo (λk=>S k\/(nth k<=co (who k)/\¬left (.int .i64 (who k)))) w5:=a9.o.below a3;have uj:J<|aB prog 3 w5 cv (w.heap.size+2) t (cm co) (λy=>left y/\¬y=Value.int IntKind.i64 (a:Int)) D:=ab.o.chg (M:=λ_=>False) (Chg.of_below a3) (λ_ _ h=>h) (λh=>h);have b5:=Gt (a:Int) ((c1:Int)+1);clear a9 ab Hn L N a3 ao;go_wp2_with fail;clear b5;go_loopg [6] (ca+1-(c1+1)) (λQ v6 wx=>∃nt:Nat,c1+1<=nt/\(nt<=ca+1\/nt=c1+1)/\v6=.int .i64 nt/\Q=ca+1-nt/\aB prog 3 wx cv (w.heap.size+2) t (cm co) (λy=>left y/\¬y=Value.int IntKind.i64 (a:Int)) D/\AA w cb lb cv lv co Lo (λk=>(S k\/(nth k<=co (who k)/\¬left (.int .i64 (who k))))\/(who k=a/\c1<nth k/\nth k<nt)) wx);case atStart=>exact⟨c1+1,V,V,rfl,rfl,uj.o,aa.o.iff (λn l=>by constructor;(rintro(h|h);exact h;omega);exact τ)⟩
   case round =>
    obtain⟨nt,bl,bm,rfl,hg,K,i⟩:=hrel;have G:J<|aB prog 3 wr cv (w.heap.size+2) t (cm co) (λy=>left y/\¬y=Value.int IntKind.i64 (a:Int)) D:=K;have bs:J<|AA w cb lb cv lv co Lo (λk=>(S k\/(nth k<=co (who k)/\¬left (.int .i64 (who k))))\/(who k=a/\c1<nth k/\nth k<nt)) wr:=i;have L:=i.b0;have N:=i.b1;clear K i aa uj;by_cases bg:nt<=ca
    .have m:nt<512:=V
     have E:J<|_:=add_any wr cb lb (mkD a nt) _ bs.o.ctx ⟨by rw[bW m];exact a5,by rw[aZ m];omega,by rw[aZ m];omega⟩;unfold aA at E;rw[bW m,aZ m]at E;go_wp2_with fail;refine ψ E.o ?_;rintro e W⟨rfl,SB,qA⟩;have Y6:J<|AA w cb lb cv lv co Lo (λk=>(S k\/(nth k<=co (who k)/\¬left (.int .i64 (who k))))\/(who k=a/\c1<nth k/\nth k<nt+1)) W:=(bs.o.step SB qA).iff (λn l=>by
      constructor
      .rintro(h|h)
       .exact τ (τ h)
       .by_cases e:nth n=nt
        .exact υ (jl (by rw[bW m];exact h.1) (by rw[aZ m];exact e))
        .exact τ (υ V)
      .rintro((h|h)|h)
       .exact τ h
       .exact υ V
       .refine υ ⟨by rw[h,bW m],by rw[h,aZ m];omega,by rw[h,aZ m];omega⟩)
     have Y7:J<|aB prog 3 W cv (w.heap.size+2) t (cm co) (λy=>left y/\¬y=Value.int IntKind.i64 (a:Int)) D:=G.o.chg qA (λc j=>by have:=bd c j;omega) V;clear E SB qA bs G L N;go_wp2_with fail;go_roundg (ca+1-(nt+1));case measure=>omega
     case rel=>exact⟨nt+1,V,V,Λ,rfl,Y7.o,Y6.o⟩
    .go_wp2_with fail;go_roundg D;case measure=>omega
     case rel=>exact⟨_,D,rfl,G.o,bs.o.iff (λn l=>by
      have bh:ca<nt:=V
      constructor
      .rintro(h|⟨h,h'⟩)
       .exact τ (τ h)
       .by_cases Z:who n=a
        .by_cases e:nth n<=c1
         .exact τ (Y8.o n l (by rw[Z,Ii.o];exact e))
         .exact υ ⟨Z,V,by rw[Z,Gj.o]at h;omega⟩
        .refine τ (υ ⟨h,λhl=>h' ⟨hl,λP=>Z ?_⟩⟩);simp at P;omega
      .rintro((h|h)|h)
       .exact τ h
       .exact υ ⟨h.1,λhh=>h.2 hh.1⟩
       .exact υ ⟨by rw[h.1,Gj.o];omega,λhh=>hh.2 (by rw[h.1])⟩)⟩
noncomputable def im(It:Nat->Option Value):Value->Option Value:=λkey=>@dite _ (∃n:Nat,key=aA n) (Classical.propDecidable _) (λh=>It (Classical.choose h)) (λ_=>none)
theorem eP(It:Nat->Option Value)(n:Nat):im It (aA n)=It n:=by unfold im;have h:∃m:Nat,aA n=aA m:=⟨n,rfl⟩;rw[dif_pos h];have:=Classical.choose_spec h;rw[<- dR this]
theorem jJ{key:Value}(h:im It key=some v):∃n:Nat,key=aA n/\It n=some v:=by
 unfold im at h;split at h
 .rename_i hh;exact⟨_,Classical.choose_spec hh,h⟩
 .cases h
theorem EG(a:∀n:Nat,m (aA n)=It n)(b:∀key,(∀n:Nat,key≠aA n)->m key=none):m=im It:=by
 funext key;by_cases h:∃n:Nat,key=aA n
 .obtain⟨n,rfl⟩:=h;rw[a,eP]
 .rw[b key (λn e=>h ⟨n,e⟩)];unfold im;rw[dif_neg h]
theorem yZ(It:Nat->Option Value)(n:Nat)(v:Value):upd (im It) (aA n) v=im (λk=>if k=n then some v else It k):=by
 apply EG
 .intro k;by_cases e:k=n
  .subst e;rw[upd_same,ώ rfl]
  .rw[eX (λb=>e (dR b)),eP,ύ e]
 .intro key a;rw[eX (a n)];unfold im;rw[dif_neg (λ⟨n,e⟩=>a n e)]
theorem oZ:im (λ_=>none)=λ_=>none:=by symm;apply EG<;>intros<;>rfl
structure ay(w:World)(ib cb lb:Nat)(S:Nat->Prop)(It:Nat->Option Value):Prop where
 ctx:fJ w cb lb S
 its:∃N,aP prog 134 w ib N (im It)
 ne:ib≠cb/\ib≠lb
 ok:∀n,It n≠none->okD n/\S n
structure eU(w:World)(iv cv lv:Value)(S:Nat->Prop)(It:Nat->Option Value):Prop where
 ctx:yY w cv lv S
 its:∃N,aW prog 134 w iv N (im It)
 ok:∀n,It n≠none->okD n/\S n
theorem ay.toR(h:ay w ib cb lb S It):eU w (.map (some ib)) (.map (some cb)) (.map (some lb)) S It :=
 ⟨h.ctx.toR,h.its.imp λN h=>υ ⟨ib,rfl,h⟩,h.ok⟩
theorem yY.chg(h:yY w cv lv S)(a:Chg M w w')(g:∀b,cv=.map (some b)->¬M b)(i:∀b,lv=.map (some b)->¬M b):yY w' cv lv S:=by obtain⟨c,L,⟨⟨N,g1⟩,⟨d,g2⟩,g3,e,f⟩,r⟩:=h;exact⟨c,L,⟨⟨N,g1.chg a g⟩,⟨d,g2.chg a i⟩,g3,e,f⟩,r⟩
theorem eU.chg(h:eU w iv cv lv S It)(d:Chg M w w')(c:∀b,iv=.map (some b)\/cv=.map (some b)\/lv=.map (some b)->¬M b):eU w' iv cv lv S It :=
 ⟨h.ctx.chg d (λb a=>c b (υ (τ a))) (λb a=>c b (υ (υ a))),h.its.imp λN g=>g.chg d (λb a=>c b (τ a)),h.ok⟩
theorem eU.below(h:eU w iv cv lv S It)(a:Below w.heap.size w w'):eU w' iv cv lv S It:=h.chg (M:=λ_=>False) (Chg.of_below a) (λ_ _ h=>h)
theorem ay.chg(h:ay w ib cb lb S It)(a:Chg M w w')(b:¬M ib)(c:¬M cb)(d:¬M lb):ay w' ib cb lb S It :=
 ⟨h.ctx.chg a c d,h.its.imp λN g=>g.block (a.block _ g.lt b),h.ne,h.ok⟩
theorem ay.below(h:ay w ib cb lb S It)(a:Below w.heap.size w w'):ay w' ib cb lb S It:=h.chg (M:=λ_=>False) (Chg.of_below a) (λh=>h) (λh=>h) (λh=>h)
theorem ay.lt(h:ay w ib cb lb S It):ib<w.heap.size/\cb<w.heap.size/\lb<w.heap.size:=⟨h.its.elim λ_ g=>g.lt,h.ctx.lt⟩
theorem aW.lt{P:Program}{k:TypeId}(h:aW P k w v N m):∀b,v=.map (some b)->b<w.heap.size:=by
 intro b a;rcases h with⟨h,_⟩|⟨d,h,c⟩
 .rw[h]at a;cases a
 .rw[h]at a;cases a;exact c.lt
theorem eU.lt(h:eU w iv cv lv S It):∀b,iv=.map (some b)\/cv=.map (some b)\/lv=.map (some b)->b<w.heap.size:=by
 obtain⟨⟨c,L,⟨⟨N,g1⟩,⟨d,g2⟩,_⟩,_⟩,⟨e,g3⟩,_⟩:=h;rintro b (a|a|a)
 .exact g3.lt b a
 .exact g1.lt b a
 .exact g2.lt b a
def aU(w:World)(v:Value)(ns:List Nat):Prop :=
 (v=.slice none 0 0/\ns=[])\/∃b off cap,v=.slice (some (O b off)) ns.length cap/\ns.length<=cap/\b<w.heap.size/\∀j(h:j<ns.length),w.cell? (O b (off+j*2))=some (.int .i64 (who ns[j]))/\w.cell? (O b (off+j*2+1))=some (.int .i64 (nth ns[j]))
theorem aU.chg{ns:List Nat}(h:aU w v ns)(d:Chg M w w')(l:∀b,v.ownBlock=some b->¬M b):aU w' v ns:=by
 rcases h with h|⟨b,m,g,rfl,k,a,c⟩
 .exact τ h
 .have e:∀i,w'.cell? (O b i)=w.cell? (O b i):=λi=>η (w:=w) (d.block b a (l b rfl));exact υ ⟨b,m,g,rfl,k,ο a d.size,λj f=>⟨(e _).trans (c j f).1,(e _).trans (c j f).2⟩⟩
theorem aU.below{ns:List Nat}(h:aU w v ns)(a:Below w.heap.size w w'):aU w' v ns:=h.chg (M:=λ_=>False) (Chg.of_below a) (λ_ _ h=>h)
theorem VL(w:World):(zeroValue 86).run prog w=.ok (.agg #[.string ⟨#[]⟩,.int .u8 0,.string ⟨#[]⟩,.int .i64 0]) w:=by kernel_rfl
theorem fM(h:aP prog 134 w ib N (im It))(d:∀n,It n≠none->okD n):N<=3072:=by refine h.bound fG (λn=>aA n) ?_;intro key c;obtain⟨v,e⟩:=Option.isSome_iff_exists.1 c;obtain⟨n,a,b⟩:=jJ e;exact⟨n,iV (d n (by rw[b];simp)),a⟩
theorem ay.put{n:Nat}(h:ay w ib cb lb S It)(f:w.grownBy w' (some ib))(a:aP prog 134 w' ib N (upd (im It) (aA n) v))(b:okD n)(c:S n):ay w' ib cb lb S (λk=>if k=n then some v else It k):=by
 have d:Chg (λk=>k=ib) w w':=(Chg.refl _ w).grown f (λk e=>by cases e;exact τ rfl);refine⟨h.ctx.chg d (λe=>h.ne.1 e.symm) (λe=>h.ne.2 e.symm),⟨N,by rw[yZ]at a;exact a⟩,h.ne,λk g=>?_⟩;by_cases e:k=n
 .subst e;exact⟨b,c⟩
 .exact h.ok k (by simpa[e]using g)
def nX(v:Value):Prop:=∃s0 x1 s2 x3,v=.agg #[.string s0,.int .u8 x1,.string s2,.int .i64 x3]
structure OM(w:World)(iv dv:Value)(dY:Nat->Option Value)(ns:List Nat)(ib cb lb B:Nat)(S:Nat->Prop)(It:Nat->Option Value)(wx:World):Prop where
 st:ay wx ib cb lb S It
 new:w.heap.size<ib/\w.heap.size<cb/\w.heap.size<lb/\w.heap.size<B
 apart:B≠ib/\B≠cb/\B≠lb
 bx:ah wx B #[.map (some ib),.map (some cb),.map (some lb)] 102
 r0:∃u0 u1 u2,ah wx w.heap.size #[u0,u1,u2] 102
 ds:aU wx dv ns
 src:∃N,aW prog 134 wx iv N (im dY)
 old:(∀b,dv.ownBlock=some b->b<w.heap.size)/\∀b,iv=.map (some b)->b<w.heap.size
 below:Below w.heap.size w wx
section
variable{w:World}{iv dv:Value}{dY:Nat->Option Value}{ns:List Nat}{ib cb lb B:Nat}{S S':Nat->Prop}{It:Nat->Option Value}{wx wy:World}
theorem OM.mono(h:OM w iv dv dY ns ib cb lb B S It wx)(a:Below wx.heap.size wx wy):OM w iv dv dY ns ib cb lb B S It wy:=by obtain⟨d,e,f,c⟩:=h.r0;obtain⟨N,b⟩:=h.src;exact⟨h.st.below a,h.new,h.apart,h.bx.below a,⟨d,e,f,c.below a⟩,h.ds.below a,⟨N,b.below a⟩,h.old,h.below.trans (a.mono h.below.size)⟩
theorem OM.VN{M:Nat->Prop}(h:OM w iv dv dY ns ib cb lb B S It wx)(b:∀k,M k->w.heap.size<k/\k≠B)(i:ay wy ib cb lb S' It)(a:Chg M wx wy):OM w iv dv dY ns ib cb lb B S' It wy:=by obtain⟨j,l,n,g⟩:=h.r0;obtain⟨N,e⟩:=h.src;refine⟨i,h.new,h.apart,h.bx.chg a (λm=>(b _ m).2 rfl),⟨j,l,n,g.chg a (λm=>by have:=b _ m;omega)⟩,h.ds.chg a (λc d m=>by have:=b _ m;have:=h.old.1 c d;omega),⟨N,e.chg a (λc d m=>by have:=b _ m;have:=h.old.2 c d;omega)⟩,h.old, ?_⟩;exact h.below.trans ⟨a.os,a.tape,a.output,a.size,λk f=>a.block k (ο f h.below.size) (λm=>by have:=b _ m;omega)⟩
theorem OM.turn{r:Nat}(h:OM w iv dv dY ns ib cb lb B S It wx)(c:wx.grownBy wy (some r))(a:w.heap.size<r/\r≠ib/\r≠cb/\r≠lb/\r≠B):OM w iv dv dY ns ib cb lb B S It wy:=by have b:Chg (λk=>k=r) wx wy:=(Chg.refl _ wx).grown c (λk e=>by cases e;exact τ rfl);exact h.VN (λk m=>by subst m;exact⟨a.1,a.2.2.2.2⟩) (h.st.chg b (λe=>a.2.1 e.symm) (λe=>a.2.2.1 e.symm) (λe=>a.2.2.2.1 e.symm)) b
theorem OM.iff(h:OM w iv dv dY ns ib cb lb B S It wx)(a:∀n,1<=nth n->(S' n↔S n)):OM w iv dv dY ns ib cb lb B S' It wx :=
 ⟨⟨h.st.ctx.iff a,h.st.its,h.st.ne,λn b=>by have:=h.st.ok n b;exact⟨this.1,(a n this.1.2.1).2 this.2⟩⟩,h.new,h.apart,h.bx,h.r0,h.ds,h.src,h.old,h.below⟩
theorem OM.add{n:Nat}(h:OM w iv dv dY ns ib cb lb B S It wx)(b:fJ wy cb lb (λk=>S k\/k=n))(a:Chg (λk=>k=cb\/k=lb) wx wy):OM w iv dv dY ns ib cb lb B (λk=>S k\/k=n) It wy:=by have f:=h.new;have e:=h.apart;have c:=h.st.ne;exact h.VN (M:=λk=>k=cb\/k=lb) (λk m=>V) ⟨b,h.st.its.imp λN g=>g.block (a.block _ g.lt V),c,λk d=>by have:=h.st.ok k d;exact⟨this.1,τ this.2⟩⟩ a
end
open Classical in
noncomputable def iJ(It:Nat->Option Value)(left:Value->Prop):Nat->Option Value:=λk=>if left (aA k)then none else It k
theorem EH(It:Nat->Option Value):iJ It (λkey=>(im It key).isSome=true)=λ_=>none:=by
 funext k;unfold iJ;by_cases h:(im It (aA k)).isSome=true
 .exact ώ h
 .refine(ύ h).trans ?_;rw[eP]at h;cases hk:It k with
  | none=>rfl
  | some v=>rw[hk]at h;exact absurd rfl h
theorem Ik{left:Value->Prop}(h:∀key,¬left key):iJ It left=It:=by funext k;unfold iJ;rw[ύ (h _)]
theorem Il{left:Value->Prop}{n:Nat}(b:It n=some v):iJ It (λy=>left y/\¬y=aA n)=λk=>if k=n then some v else iJ It left k:=by
 funext k;unfold iJ;by_cases e:k=n
 .subst e;rw[ύ (λh=>h.2 rfl),ώ rfl,b]
 .have:¬(aA k=aA n):=λh=>e (dR h);rw[ύ e];by_cases a:left (aA k)
  .rw[ώ ⟨a,this⟩,ώ a]
  .rw[ύ (λh=>a h.1),ύ a]
theorem EI(w:World)(io:Option Nat)(dv:Value)(dY:Nat->Option Value)(ns:List Nat)(N0:Nat)(hI:aW prog 134 w (.map io) N0 (im dY))(ae:∀n v,dY n=some v->nX v)(ad:∀n,dY n≠none->okD n)(hd:aU w dv ns)(hl:ns.length<=1000000)(ap:∀n∈ns,okD n):Calls prog 147 #[.map io,dv] w λe w'=>∃ib cb lb,e=.returned (.agg #[.map (some ib),.map (some cb),.map (some lb)])/\ay w' ib cb lb (λn=>dY n≠none\/n∈ns) dY/\(w.heap.size<=ib/\w.heap.size<=cb/\w.heap.size<=lb)/\Below w.heap.size w w':=by
 have bb:=@run_makeMap prog;have HD:J<|aU w dv ns:=hd;have HI:J<|aW prog 134 w (.map io) N0 (im dY):=hI;have az:J<|∀b,dv.ownBlock=some b->b<w.heap.size:=by
  rcases hd with⟨rfl,_⟩|⟨b,a1,cap,rfl,_,h3,_⟩
  .intro b h;cases h
  .intro b' h;cases h;exact h3
 have bh:∃c0 cap,dv=.slice c0 ns.length cap/\ns.length<=cap:=by
  rcases hd with⟨rfl,rfl⟩|⟨b,a1,cap,rfl,T,_⟩
  .exact⟨none,0,rfl,χ _⟩
  .exact⟨_,cap,rfl,T⟩
 obtain⟨c0,cap,b7,bp⟩:=bh;have QK:J<|∀n∈ns,okD n:=ap;have Y9:J<|∀n v,dY n=some v->nX v:=ae;have b3:J<|∀n,dY n≠none->okD n:=ad;clear hd ap hI ae ad;subst b7;go_enter func147,ntmps147;go_wp2_with fail;refine ψ (uh _) ?_;rintro e w1⟨cb,lb,rfl,a2,ai,an,L⟩;have a6:J<|∀l,l=.cells #[.map (some (w.heap.size+1)),.map (some cb),.map (some lb)] 102->OM w (.map io) (.slice c0 ns.length cap) dY ns (w.heap.size+1) cb lb w1.heap.size (λ_=>False) (λ_=>none) (w1.alloc l):=λl be=>by
  subst be;have e1:(w.alloc (.cells #[.map none,.map none,.map none] 102)).heap.size=w.heap.size+1:=Ω
  have e2:((w.alloc (.cells #[.map none,.map none,.map none] 102)).alloc (.map #[] 0)).heap.size=w.heap.size+2:=Ω
  have m1:=aP.made (w.alloc (.cells #[.map none,.map none,.map none] 102)) prog 134;rw[e1]at m1;rw[e2]at ai an L;have hs:=L.size;have ar:aP prog 134 w1 (w.heap.size+1) 0 (λ_=>none):=m1.block (L.block _ V);have u:ah w1 w.heap.size #[.map none,.map none,.map none] 102:=(L.block _ V).trans ((ah.new w _ _).alloc _);have P:Below w.heap.size w w1:=(((φ _ w).alloc (χ _) _).alloc Ω _).trans (L.mono V);have R:=(φ _ w1).alloc (χ _) (.cells #[.map (some (w.heap.size+1)),.map (some cb),.map (some lb)] 102);have hx:=a2.below R;have bu:=a2.lt;refine⟨⟨hx,⟨0,by rw[oZ];exact ar.block (R.block _ ar.lt)⟩,V,λn hn=>absurd rfl hn⟩,V,V,ah.new w1 _ _,⟨_,_,_,u.below R⟩,HD.o.below (P.trans (R.mono P.size)),⟨N0,HI.o.below (P.trans (R.mono P.size))⟩,⟨az.o,HI.o.lt⟩,P.trans (R.mono P.size)⟩
 clear HD HI a2 ai an L bb;have f:=a6.o _ rfl;have B:J<|OM w (.map io) (.slice c0 ns.length cap) dY ns (w.heap.size+1) cb lb w1.heap.size (λ_=>False) (λ_=>none) _:=f;obtain⟨K,ag⟩:=f.src;have bj:w1.heap.size<(w1.alloc (.cells #[.map (some (w.heap.size+1)),.map (some cb),.map (some lb)] 102)).heap.size:=Ω
 have br:=f.new;have Za:=f.st.lt;clear a6 f;simp only[ϊ]at Za;go_wp2_with (first|(at_range;refine cO rfl (.tmp 13) 96 rfl 86 fG underlying96 rfl ag ?_;intro w3 a5 aj bf;have af:OM w (.map io) (.slice c0 ns.length cap) dY ns (w.heap.size+1) cb lb w1.heap.size (λ_=>False) (λ_=>none) w3:=(B.o.mono ((φ _ _).grown aj (χ _) (λk e=>by cases e)));rw[ϊ]at a5⊢;clear B ag aj bf;go_frame));go_loopg [6] K (λg v6 wx=>∃(left:Value->Prop)(q:Nat),g=q/\aB prog 134 wx (.map io) (w1.heap.size+1) K (im dY) left q/\OM w (.map io) (.slice c0 ns.length cap) dY ns (w.heap.size+1) cb lb w1.heap.size (λk=>iJ dY left k≠none) (iJ dY left) wx);case atStart =>refine⟨_,_,rfl,a5, ?_⟩;rw[EH];exact af.iff (λn _=>Ω)
 case round =>
  obtain⟨left,q,hq,hR,hJ⟩:=hrel;have Y:J<|aB prog 134 wr (.map io) (w1.heap.size+1) K (im dY) left q:=hR;have X:J<|OM w (.map io) (.slice c0 ns.length cap) dY ns (w.heap.size+1) cb lb w1.heap.size (λk=>iJ dY left k≠none) (iJ dY left) wr:=hJ;have mZ:J<|∀key v,left key->im dY key=some v->∃x:Nat×ByteArray×Int×ByteArray×Int,key=(λx:Nat×ByteArray×Int×ByteArray×Int=>aA x.1) x/\v=(λx:Nat×ByteArray×Int×ByteArray×Int=>Value.agg #[.string x.2.1,.int .u8 x.2.2.1,.string x.2.2.2.1,.int .i64 x.2.2.2.2]) x:=λkey v _ j=>by obtain⟨n,h1,T⟩:=jJ j;obtain⟨E,G,F,H,h3⟩:=Y9.o n v T;exact⟨(n,E,G,F,H),h1,h3⟩
  clear hR hJ a5 af;go_wp2_with (first|(at_next;(refine dG rfl (.tmp 14) rfl fG (λx:Nat×ByteArray×Int×ByteArray×Int=>aA x.1) (λx:Nat×ByteArray×Int×ByteArray×Int=>Value.agg #[.string x.2.1,.int .u8 x.2.2.1,.string x.2.2.2.1,.int .i64 x.2.2.2.2]) rfl Y.o mZ.o ?_ ?_)))
  .intro b9;have hK:OM w (.map io) (.slice c0 ns.length cap) dY ns (w.heap.size+1) cb lb w1.heap.size (λk=>dY k≠none\/k∈ns.take 0) dY wr:=by have:=X.o;rw[Ik b9]at this;exact this.iff (λn _=>Ω)
   have HK:J<|OM w (.map io) (.slice c0 ns.length cap) dY ns (w.heap.size+1) cb lb w1.heap.size (λk=>dY k≠none\/k∈ns.take 0) dY wr:=hK;clear Y X mZ hK;go_wp2_with fail;go_loopg [30] ns.length (λg bi wx=>∃i:Nat,i+g=ns.length/\bi=.int .i64 i/\OM w (.map io) (.slice c0 ns.length cap) dY ns (w.heap.size+1) cb lb w1.heap.size (λk=>dY k≠none\/k∈ns.take i) dY wx);case atStart=>exact⟨0,V,rfl,HK.o⟩
   case round =>
    obtain⟨i,bs,rfl,f⟩:=hrel;have B:J<|OM w (.map io) (.slice c0 ns.length cap) dY ns (w.heap.size+1) cb lb w1.heap.size (λk=>dY k≠none\/k∈ns.take i) dY wr:=f;clear HK;by_cases Q:i<ns.length
    .obtain⟨b,a1,bn,hv,bq,h,a3⟩:=f.ds.resolve_left (λC=>by rw[C.2]at Q;simp at Q);simp only[Value.slice.injEq]at hv;obtain⟨rfl,_,rfl⟩:=hv;have k0:=(a3 i Q).1;have k1:=(a3 i Q).2;have bd:=QK.o _ (κ Q);have b5:ns.take (i+1)=ns.take i++[ns[i]]:=ν Q;have Y5:∀o,(wr.alloc o).cell? (O w1.heap.size 1)=some (.map (some cb)):=λo=>((B.o.bx.alloc o).cell 1).trans rfl;have b4:∀o,(wr.alloc o).cell? (O w1.heap.size 2)=some (.map (some lb)):=λo=>((B.o.bx.alloc o).cell 2).trans rfl;have wL:J<|∀wx,Below wr.heap.size wr wx->Calls prog 201 #[.agg #[.map (some cb),.map (some lb)],aA ns[i]] wx λe w'=>e=.returned (.tuple #[])/\OM w (.map io) (.slice (some (O b a1)) ns.length cap) dY ns (w.heap.size+1) cb lb w1.heap.size (λk=>dY k≠none\/k∈ns.take (i+1)) dY w':=λwx h=>by have aa:=B.o.mono h;refine ψ (add_any wx cb lb ns[i] _ aa.st.ctx bd) ?_;rintro e w'⟨rfl,h1,T⟩;exact⟨rfl,(aa.add h1 T).iff (λn _=>by rw[b5,θ,List.mem_singleton,or_assoc])⟩
     generalize ns[i]=n at *;clear f a3;go_wp2_with fail;refine ψ (wL.o _ ?_) ?_
     .go_grown
     rintro e w7⟨rfl,ab⟩;have av:J<|OM w (.map io) (.slice (some (O b a1)) ns.length cap) dY ns (w.heap.size+1) cb lb w1.heap.size (λk=>dY k≠none\/k∈ns.take (i+1)) dY w7:=ab;clear ab wL Y5 b4 k0 k1;go_wp2_with fail;go_roundg (ns.length-(i+1));case measure=>omega
     case rel=>exact⟨i+1,V,Λ,av.o⟩
    .have b0:=(f.bx.cell 0).trans rfl;have b1:=(f.bx.cell 1).trans rfl;have b2:=(f.bx.cell 2).trans rfl;obtain⟨u0,u1,u2,u⟩:=f.r0;have r0:=(u.cell 0).trans rfl;have r1:=(u.cell 1).trans rfl;have r2:=(u.cell 2).trans rfl;have f0:=u.frozen;have hw:=f.below.size;have hn:=f.new;have HF:J<|∀wx,Chg (λk=>k=w.heap.size) wr wx->ay wx (w.heap.size+1) cb lb (λn=>dY n≠none\/n∈ns) dY:=λwx hc=>by have C:=B.o.st.chg hc V V V;rw[List.take_of_length_le V]at C;exact C
     have HB:J<|Below w.heap.size w wr:=B.o.below;clear f u;go_wp2_with fail;refine ϐ (v:=.agg #[.map (some (w.heap.size+1)),.map (some cb),.map (some lb)]) (by simp[results,Tryz.results147,go_sem,r0,r1,r2,cs_same,cs_oth,World.cell?_setCell_other]) rfl ⟨_,_,_,rfl,HF.o _ ?_,V, ?_⟩
     .exact(((Chg.refl (λk=>k=w.heap.size) wr).setCell (p:=(z w.heap.size)) rfl _).setCell (p:=(O w.heap.size 1)) rfl _).setCell (p:=(O w.heap.size 2)) rfl _
     .exact((HB.o.setCell (p:=(z w.heap.size)) (χ _) _).setCell (p:=(O w.heap.size 1)) (χ _) _).setCell (p:=(O w.heap.size 2)) (χ _) _
  .intro n E G F H c W bt ba jo bv ak bg SC;have ac:dY n=some (.agg #[.string E,.int .u8 G,.string F,.int .i64 H]):=by rw[<- eP dY n];exact ba
   have a4:=b3.o n (by rw[ac];simp);obtain⟨kl,b8⟩:=keyE n (by have:=a4.1;omega);have bx:w1.heap.size+1<c.heap.size:=by have:=Y.o.lt;omega
   have t:J<|OM w (.map io) (.slice c0 ns.length cap) dY ns (w.heap.size+1) cb lb w1.heap.size (λk=>iJ dY left k≠none) (iJ dY left) c:=X.o.turn ak V;have a8:J<|aB prog 134 c (.map io) (w1.heap.size+1) K (im dY) (λy=>left y/\¬y=aA n) W:=jo;have S:J<|iJ dY (λy=>left y/\¬y=aA n)=λk=>if k=n then some (.agg #[.string E,.int .u8 G,.string F,.int .i64 H])else iJ dY left k:=Il ac;have b6:Below c.heap.size c ((c.alloc (.cells #[.int .i64 (who n),.int .i64 (nth n)] 134)).alloc (.cells #[.string E,.int .u8 G,.string F,.int .i64 H] 86)):=Γ
   have Zb:J<|∀l s,OM w (.map io) (.slice c0 ns.length cap) dY ns (w.heap.size+1) cb lb w1.heap.size (λk=>iJ dY left k≠none) (iJ dY left) ((c.alloc l).alloc s):=λl s=>t.o.mono (((φ _ c).alloc (χ _) l).alloc Ω s);have a9:J<|∀l s,aB prog 134 ((c.alloc l).alloc s) (.map io) (w1.heap.size+1) K (im dY) (λy=>left y/\¬y=aA n) W:=λl s=>a8.o.chg (M:=λ_=>False) (Chg.of_below (((φ _ c).alloc (χ _) l).alloc Ω s)) (λ_ _ C=>C) (λC=>C);have aq:J<|∀s,ah ((c.alloc (.cells #[.int .i64 (who n),.int .i64 (nth n)] 134)).alloc s) c.heap.size #[.int .i64 (who n),.int .i64 (nth n)] 134:=λs=>(ah.new c _ _).alloc _;have bm:∀o a,((c.alloc o).alloc a).cell? (z w1.heap.size)=some (.map (some (w.heap.size+1))):=λo a=>(((t.o.bx.alloc o).alloc a).cell 0).trans rfl;obtain⟨Nj,Z⟩:=t.o.st.its;have bo:Nj<=3072:=fM Z (λk j=>(t.o.st.ok k j).1);have bc:Nj<maxLen:=by unfold maxLen;omega
   have ax:J<|∀o a,aP prog 134 ((c.alloc o).alloc a) (w.heap.size+1) Nj (im (iJ dY left)):=λo a=>Z.block ((((φ _ c).alloc (χ _) o).alloc Ω a).block _ Z.lt);clear jo ak Y X mZ Z b6;have bk:=t.o.st.ne;have bl:=t.o.apart;have bw:=t.o.new;have Zc:=t.o.old.2;have HP:J<|∀o a w6 N6,((c.alloc o).alloc a).grownBy w6 (some (w.heap.size+1))->aP prog 134 w6 (w.heap.size+1) N6 (upd (im (iJ dY left)) (aA n) (.agg #[.string E,.int .u8 G,.string F,.int .i64 H]))->∀w7,fJ w7 cb lb (λk=>iJ dY left k≠none\/k=n)->Chg (λk=>k=cb\/k=lb) w6 w7 ->
     OM w (.map io) (.slice c0 ns.length cap) dY ns (w.heap.size+1) cb lb w1.heap.size (λk=>iJ dY (λy=>left y/\¬y=aA n) k≠none) (iJ dY (λy=>left y/\¬y=aA n)) w7/\aB prog 134 w7 (.map io) (w1.heap.size+1) K (im dY) (λy=>left y/\¬y=aA n) W:=λo a w6 N6 r sF w7 SB A=>by
    have d:=Zb.o o a;have D:Chg (λk=>k=w.heap.size+1) ((c.alloc o).alloc a) w6:=(Chg.refl _ _).grown r (λk e=>by cases e;exact τ rfl);have c1:Chg (λk=>k=w.heap.size+1\/k=cb\/k=lb) ((c.alloc o).alloc a) w7:=Chg.trans (b:=w6) ⟨D.os,D.tape,D.output,D.size,λk j hm=>D.block k j (λe=>hm (τ e))⟩ ⟨A.os,A.tape,A.output,A.size,λk j hm=>A.block k j (λe=>hm (υ e))⟩;constructor
    .obtain⟨u0,u1,u2,u⟩:=d.r0;obtain⟨N,hN⟩:=d.src;have U:∀k,(k=w.heap.size+1\/k=cb\/k=lb)->w.heap.size<k/\k≠w1.heap.size:=λk m=>V
     refine⟨⟨SB.iff (λk _=>?_),⟨N6, ?_⟩,d.st.ne,λk j=>?_⟩,d.new,d.apart,d.bx.chg c1 (λm=>(U _ m).2 rfl),⟨u0,u1,u2,u.chg c1 (λm=>by have:=U _ m;omega)⟩,d.ds.chg c1 (λb h m=>by have:=U _ m;have:=d.old.1 b h;omega),⟨N,hN.chg c1 (λb h m=>by have:=U _ m;have:=d.old.2 b h;omega)⟩,d.old, ?_⟩
     .rw[S.o];by_cases e:k=n
      .subst e;simp
      .simp[e]
     .rw[S.o,<- yZ];exact sF.block (A.block _ sF.lt V)
     .rw[S.o]at j;by_cases e:k=n
      .subst e;exact⟨a4,by rw[S.o];simp⟩
      .have al:iJ dY left k≠none:=by simpa[e]using j
       exact⟨(d.st.ok k al).1,by rw[S.o];simpa[e]using al⟩
     .exact d.below.trans ⟨c1.os,c1.tape,c1.output,c1.size,λk j=>c1.block k (ο j d.below.size) (λm=>by have:=U _ m;omega)⟩
    .exact(a9.o o a).chg c1 (λb h m=>by have:=Zc b h;omega) V
   have HC:J<|∀o a w6,((c.alloc o).alloc a).grownBy w6 (some (w.heap.size+1))->fJ w6 cb lb (λk=>iJ dY left k≠none)/\ah w6 w1.heap.size #[.map (some (w.heap.size+1)),.map (some cb),.map (some lb)] 102:=λo a w6 r=>by have d:=Zb.o o a;have D:Chg (λk=>k=w.heap.size+1) ((c.alloc o).alloc a) w6:=(Chg.refl _ _).grown r (λk e=>by cases e;exact τ rfl);exact⟨d.st.ctx.chg D V V,d.bx.grown r V⟩
   have aw:J<|∀a w6,((c.alloc (.cells #[.int .i64 (who n),.int .i64 (nth n)] 134)).alloc a).grownBy w6 (some (w.heap.size+1))->ah w6 wr.heap.size #[.int .i64 (who n),.int .i64 (nth n)] 134:=λa w6 r=>by rw[<- bg];exact(aq.o a).grown r V
   clear Zb a9 aq t a8;go_wp2_with (first|(at_mapUpdate;(refine dO rfl (.tmp 21) (.tmp 22) (.tmp 23) 96 rfl 86 fG underlying96 rfl (ax.o _ _) bc (aA n) (.agg #[.string E,.int .u8 G,.string F,.int .i64 H]) _ rfl rfl b8 ?_;intro w6 sF r bz;have hP:=HP.o _ _ _ _ r sF;have a0:=HC.o _ _ _ r;have Zd:=aw.o _ _ r;have b1:=(a0.2.cell 1).trans rfl;have b2:=(a0.2.cell 2).trans rfl;have d0:=(Zd.cell 0).trans rfl;have d1:=(Zd.cell 1).trans rfl;have a7:J<|_:=hP;clear hP)));refine ψ (add_any w6 cb lb n _ a0.1 a4) ?_;rintro e w7⟨rfl,SB,A⟩;have HQ:J<|_:=a7.o w7 SB A;clear a0 Zd b1 b2 d0 d1 a7 SB A;go_wp2_with fail;go_roundg W;case measure=>omega
   case rel=>exact⟨_,W,rfl,HQ.o.2,HQ.o.1⟩
theorem EJ{P:Program}{k:TypeId}{b:Nat}{ops:Array Oper}{rest:List Oper}{o:Oper}{a:Act}{Q:Exit->Act->World->Prop}(g:o.guard=none)(c x v:Operand)(t:TypeId)(n:o.op=Op.insert t c x v)(e:TypeId)(K:Keyed P k)(q:P.underlying t=some (.map k e))(j:a.eval c=.map (some b))(h:aP P k w b N m)(l:N<maxLen)(key val:Value)(u:Lit)(s:a.eval x=key)(r:a.eval v=val)(i:keyOf P k key=some u)(d:∀w',aP P k w' b (if(m key).isSome then N else N+1) (upd m key val)->w.grownBy w' (some b)->w'.heap.size=w.heap.size->wpList P ops Q rest (a.put o.dst undef) w'):wpList P ops Q (o::rest) a w:=by refine wpList_plain g λC f=>?_;obtain⟨w',p,y,A,B⟩:=h.store K q l val i;unfold Oper.wp;simp[execOp,n,j,s,r,p,Result.andThen];exact f _ _ (d w' y A B)
theorem lM(w:World)(dv:Value)(ns:List Nat)(i:aU w dv ns)(x:ns.length<=1000000)(q:∀n∈ns,okD n):Calls prog 88 #[dv] w λe w'=>∃ib cb lb,e=.returned (.agg #[.map (some ib),.map (some cb),.map (some lb)])/\ay w' ib cb lb (λn=>n∈ns) (λ_=>none)/\(w.heap.size<=ib/\w.heap.size<=cb/\w.heap.size<=lb)/\Below w.heap.size w w':=by
 have y:∃d cap,dv=.slice d ns.length cap:=by
  rcases i with⟨rfl,rfl⟩|⟨D,E,cap,rfl,l,_⟩
  .exact⟨none,0,rfl⟩
  .exact⟨_,cap,rfl⟩
 obtain⟨d,cap,u⟩:=y;subst u;have j:J<|∀c,Calls prog 147 #[.map none,.slice d ns.length cap] (w.alloc c) λe w'=>∃ib cb lb,e=.returned (.agg #[.map (some ib),.map (some cb),.map (some lb)])/\ay w' ib cb lb (λn=>n∈ns) (λ_=>none)/\(w.heap.size<ib/\w.heap.size<cb/\w.heap.size<lb)/\Below (w.heap.size+1) (w.alloc c) w':=λc=>by have a:Below w.heap.size w (w.alloc c):=(φ _ w).alloc (χ _) _;refine ψ (EI (w.alloc c) none (.slice d ns.length cap) (λ_=>none) ns 0 (τ ⟨rfl,rfl,oZ⟩) (λn v h=>by cases h) (λn h=>absurd rfl h) (i.below a) x q) ?_;rintro e w'⟨ib,cb,lb,rfl,g,l,m⟩;simp only[ϊ]at l m;refine⟨ib,cb,lb,rfl,⟨g.ctx.iff (λn _=>Ω),g.its,g.ne,λn o=>absurd rfl o⟩,V,m⟩
 clear i q;go_enter func88,ntmps88;go_wp2_with fail;refine ψ (j.o _) ?_;rintro e f⟨ib,cb,lb,rfl,r,o,a⟩;have b:ah f w.heap.size #[.map none,.map none,.map none] 102:=(a.block _ V).trans (ah.new w _ _);have A:=(b.cell 0).trans rfl;have B:=(b.cell 1).trans rfl;have C:=(b.cell 2).trans rfl;have f0:=b.frozen;have s:J<|Below w.heap.size w f:=((φ _ w).alloc (χ _) _).trans (a.mono V);have t:J<|ay f ib cb lb (λn=>n∈ns) (λ_=>none):=r;clear r a b j;go_wp2_with fail;refine ϐ (v:=.agg #[.map (some ib),.map (some cb),.map (some lb)]) (by simp[results,Tryz.results88,go_sem,A,B,C,cs_same,cs_oth,World.cell?_setCell_other]) rfl ⟨_,_,_,rfl,t.o.chg (M:=λk=>k=w.heap.size) ?_ V V V,V, ?_⟩
 .exact(((Chg.refl (λk=>k=w.heap.size) f).setCell (p:=(z w.heap.size)) rfl _).setCell (p:=(O w.heap.size 1)) rfl _).setCell (p:=(O w.heap.size 2)) rfl _
 .exact((s.o.setCell (p:=(z w.heap.size)) (χ _) _).setCell (p:=(O w.heap.size 1)) (χ _) _).setCell (p:=(O w.heap.size 2)) (χ _) _
theorem Pj(w:World)(n:Nat)(l o c2 q:Value)(x:okD n)(U:∃c f d g,l=.string c/\o=.int .u8 f/\c2=.string d/\q=.int .i64 g):Calls prog 91 #[aA n,.agg #[l,o,c2,q]] w λe w'=>∃ib cb lb,e=.returned (.agg #[.map (some ib),.map (some cb),.map (some lb)])/\ay w' ib cb lb (λk=>k=n) (λk=>if k=n then some (.agg #[l,o,c2,q])else none)/\(w.heap.size<=ib/\w.heap.size<=cb/\w.heap.size<=lb)/\Below w.heap.size w w':=by
 obtain⟨c,f,d,g,rfl,rfl,rfl,rfl⟩:=U;obtain⟨kl,S⟩:=keyE n (by have:=x.1;omega);have Z:=@run_makeMap prog;have C:J<|∀a b y,aP prog 134 ((((w.alloc a).alloc b).alloc y).alloc (.map #[] 0)) (w.heap.size+1+1+1) 0 (λ_=>none):=λa b y=>by have:=aP.made (((w.alloc a).alloc b).alloc y) prog 134;simpa using this
 have D:J<|∀wx N m,aP prog 134 wx (w.heap.size+1+1+1) N m->m=upd (λ_=>none) (aA n) (.agg #[.string c,.int .u8 f,.string d,.int .i64 g])->Calls prog 147 #[.map (some (w.heap.size+1+1+1)),.slice none 0 0] wx λe w'=>∃ib cb lb,e=.returned (.agg #[.map (some ib),.map (some cb),.map (some lb)])/\ay w' ib cb lb (λk=>k=n) (λk=>if k=n then some (.agg #[.string c,.int .u8 f,.string d,.int .i64 g])else none)/\(wx.heap.size<=ib/\wx.heap.size<=cb/\wx.heap.size<=lb)/\Below wx.heap.size wx w':=λwx N m E R=>by
  have T:m=im (λk=>if k=n then some (.agg #[.string c,.int .u8 f,.string d,.int .i64 g])else none):=by rw[R,<- oZ,yZ]
  rw[T]at E;refine ψ (EI wx (some (w.heap.size+1+1+1)) (.slice none 0 0) _ [] N (υ ⟨_,rfl,E⟩) (λk v h=>?_) (λk h=>?_) (τ ⟨rfl,rfl⟩) Ω (λk j=>by cases j)) ?_
  .split at h
   .cases h;exact⟨_,_,_,_,rfl⟩
   .cases h
  .by_cases e:k=n
   .subst e;exact x
   .rw[ύ e]at h;exact absurd rfl h
  .rintro e w'⟨ib,cb,lb,rfl,r,P,Q⟩;refine⟨ib,cb,lb,rfl,⟨r.ctx.iff (λk _=>?_),r.its,r.ne,λk j=>?_⟩,P,Q⟩
   .by_cases e:k=n<;>simp[e]
   .by_cases e:k=n
    .subst e;exact⟨x,rfl⟩
    .rw[ύ e]at j;exact absurd rfl j
 have G:J<|∀a b,ah ((w.alloc a).alloc b |>.alloc (.cells #[.map none,.map none,.map none] 102)) (w.heap.size+1+1) #[.map none,.map none,.map none] 102:=λa b=>by have:=ah.new ((w.alloc a).alloc b) #[.map none,.map none,.map none] 102;simpa using this
 go_enter func91,ntmps91;go_wp2_with (first|(refine EJ rfl (.tmp 5) (.tmp 6) (.tmp 7) 96 rfl 86 fG underlying96 rfl (C.o _ _ _) (by unfold maxLen;omega) (aA n) (.agg #[.string c,.int .u8 f,.string d,.int .i64 g]) _ rfl rfl S ?_;intro w6 A u a1;have H:=((G.o _ _).alloc (.map #[] 0)).grown u V;have s:Below w.heap.size w w6:=(Below.grown (w:=((((w.alloc _).alloc _).alloc _).alloc (.map #[] 0))) Γ u Θ (λk e=>by cases e;omega))));refine ψ (D.o w6 _ _ A rfl) ?_;rintro e B⟨ib,cb,lb,rfl,F,a0,t⟩;have i:=H.below t;have a2:w.heap.size+1+1+1<w6.heap.size:=A.lt;have W:=(i.cell 0).trans rfl;have X:=(i.cell 1).trans rfl;have Y:=(i.cell 2).trans rfl;have f0:=i.frozen;have K:J<|Below w.heap.size w B:=s.trans (t.mono s.size);have L:J<|ay B ib cb lb (λk=>k=n) (λk=>if k=n then some (.agg #[.string c,.int .u8 f,.string d,.int .i64 g])else none):=F;clear F t H i D A u s G C;go_wp2_with fail;refine ϐ (v:=.agg #[.map (some ib),.map (some cb),.map (some lb)]) (by simp[results,Tryz.results91,go_sem,W,X,Y,cs_same,cs_oth,World.cell?_setCell_other]) rfl ⟨_,_,_,rfl,L.o.chg (M:=λk=>k=w.heap.size+1+1) ?_ V V V,V, ?_⟩
 .exact(((Chg.refl (λk=>k=w.heap.size+1+1) B).setCell (p:=(z (w.heap.size+1+1))) rfl _).setCell (p:=(O (w.heap.size+1+1) 1)) rfl _).setCell (p:=(O (w.heap.size+1+1) 2)) rfl _
 .exact((K.o.setCell (p:=(z (w.heap.size+1+1))) (by show w.heap.size<=w.heap.size+1+1;omega) _).setCell (p:=(O (w.heap.size+1+1) 1)) (by show w.heap.size<=w.heap.size+1+1;omega) _).setCell (p:=(O (w.heap.size+1+1) 2)) (by show w.heap.size<=w.heap.size+1+1;omega) _
