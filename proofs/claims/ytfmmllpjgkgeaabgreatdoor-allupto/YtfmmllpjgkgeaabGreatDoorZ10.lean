import Derived.Test.YtfmmllpjgkgeaabGreatDoorZ09
set_option linter.all false
set_option maxHeartbeats 0
set_option maxRecDepth 100000
namespace Go.Proofs.YtfmmllpjgkgeaabGreatDoor
section
open Go.Proofs.Tryz Go.RowKit Go.Maps Go.WideMaps
variable{B N cb d ib lb:Nat}{L Lo:Nat->Bool}{c co:Nat->Nat}{It:Nat->Option Value}{M S S':Nat->Prop}{cv iv lv v:Value}{m:Value->Option Value}{w w' wx wy:World}
def CG.drop(h:CG w B cb lb c L wx)(a:wx.grownBy wy (some lb))(e:dB prog 140 wy lb N (era (lm L) (aW d))):CG w B cb lb c (λk=>L k&&k !=d) wy:=by obtain⟨f,i⟩:=h.ctx.cs;refine h.grown a (υ rfl) ⟨⟨f,i.kept a (λg=>h.ctx.ne (by cases g;rfl))⟩,⟨N,by rw[ag1]at e;exact e⟩,h.ctx.ne,h.ctx.vC,h.ctx.c5,λk b=>h.ctx.CV k (by simp at b;exact b.1)⟩
def CG.inc{a:Nat}(h:CG w B cb lb c L wx)(d:wx.grownBy wy (some cb))(f:dB prog 3 wy cb N (upd (cm c) (I a) (I ((c a+1:Nat):Int))))(p:a<=5)(l:c a+1<=501)(m:L (dX a (c a+1))=false):CG w B cb lb (Go.Proofs.YtfmmllpjgkgeaabGreatDoor.inc c a) L wy:=by
 obtain⟨i,n⟩:=h.ctx.ls;refine h.grown d (τ rfl) ⟨⟨N,by rw[af9]at f;exact f⟩,⟨i,n.kept d (λe=>h.ctx.ne (by cases e;rfl))⟩,h.ctx.ne,λx=>?_,λx g=>?_,λk b=>?_⟩
 .by_cases e:x=a
  .subst e;rw[dU];exact l
  .rw[gQ e];exact h.ctx.vC x
 .by_cases e:x=a
  .subst e;exact p
  .rw[gQ e]at g;exact h.ctx.c5 x g
 .have:=h.ctx.CV k b;refine⟨this.1, ?_⟩;by_cases e:who k=a
  .rw[e,dU];have o:=this.2;rw[e]at o;rcases Nat.lt_or_ge (c a+1) (nth k)with h|h
   .exact h
   .have j:k=dX a (c a+1):=(mJ (by rw[dI V,e]) (by rw[dG V];omega));rw[j,m]at b;cases b
  .rw[gQ e];exact this.2
def CG.put(h:CG w B cb lb c L wx)(b:wx.grownBy wy (some lb))(e:dB prog 140 wy lb N (upd (lm L) (aW d) rZ))(i:c (who d)<nth d)(j:okD d):CG w B cb lb c (λk=>L k||k==d) wy:=by
 obtain⟨f,l⟩:=h.ctx.cs;refine h.grown b (υ rfl) ⟨⟨f,l.kept b (λg=>h.ctx.ne (by cases g;rfl))⟩,⟨N,by rw[ag0]at e;exact e⟩,h.ctx.ne,h.ctx.vC,h.ctx.c5,λk a=>?_⟩;simp at a;rcases a with a|a
 .exact h.ctx.CV k a
 .subst a;exact⟨j,i⟩
def oW(c:Nat->Nat)(L:Nat->Bool)(d:Nat):Prop:=nth d<=c (who d)\/L d=true
structure x9(a:Nat)(c:Nat->Nat)(L:Nat->Bool)(c':Nat->Nat)(L':Nat->Bool):Prop where
 same:∀d,oW c' L' d↔oW c L d
 oc:∀x,x≠a->c' x=c x
 ol:∀d,who d≠a->L' d=L d
def x9.refl(a:Nat)(c:Nat->Nat)(L:Nat->Bool):x9 a c L c L:=⟨λ_=>Iff.rfl,λ_ _=>rfl,λ_ _=>rfl⟩
def x9.step{a:Nat}{b:Nat->Nat}{L':Nat->Bool}(h:x9 a c L b L')(m:L' (dX a (b a+1))=true)(f:b a+1<512):x9 a c L (inc b a) (λk=>L' k&&k !=dX a (b a+1)):=by
 refine⟨λd=>?_,λx l=>by rw[gQ l];exact h.oc x l,λd j=>?_⟩
 .rw[<- h.same d];unfold oW;simp only[γ,ϑv,ne_eq];by_cases g:who d=a
  .rw[g,dU];constructor
   .rintro(h|⟨h,_⟩)
    .by_cases e:nth d=b a+1
     .right;rw[<- m];congr 1;exact mJ (by rw[dI f,g]) (by rw[dG f,e])
     .left;omega
    .exact υ h
   .rintro(h|h)
    .left;omega
    .by_cases e:d=dX a (b a+1)
     .left;rw[e,dG f];omega
     .exact υ ⟨h,e⟩
  .rw[gQ g];have i:d≠dX a (b a+1):=λe=>g (by rw[e,dI f]);constructor
   .rintro(h|⟨h,_⟩)
    .exact τ h
    .exact υ h
   .rintro(h|h)
    .exact τ h
    .exact υ ⟨h,i⟩
 .have i:d≠dX a (b a+1):=λe=>j (by rw[e,dI f]);simp[i,h.ol d j]
def IG(w:World)(cb lb a:Nat)(c:Nat->Nat)(L:Nat->Bool)(t:wP w cb lb c L)(K:a<=5):Calls prog 224 #[.agg #[.map (some cb),.map (some lb)],I a] w λP w'=>P=.returned (.tuple #[])/\∃b d,wP w' cb lb b d/\d (dX a (b a+1))=false/\x9 a c L b d/\aA (λk=>k=cb\/k=lb) w w':=by
 have S:=wO a V;have F:J<|∀C,C=.cells #[.map (some cb),.map (some lb)] 99->CG w w.heap.size cb lb c L (w.alloc C):=λC a8=>by subst a8;have h:Below w.heap.size w (w.alloc (.cells #[.map (some cb),.map (some lb)] 99)):=(φ _ w).alloc (χ _) _;exact⟨t.below h,World.cell?_alloc_at _ _ _ _ rfl,World.cell?_alloc_at _ _ _ _ rfl,t.lt,χ _,Ω,aA.of_below h⟩
 clear t;go_enter func224,ntmps224;go_wp2;go_loopg [6] (501-c a) (λg v6 wx=>∃(b:Nat->Nat)(d:Nat->Bool),g=501-b a/\CG w w.heap.size cb lb b d wx/\x9 a c L b d);case atStart=>exact⟨c,L,rfl,F.o _ rfl,x9.refl a c L⟩
 case round =>
  obtain⟨b,d,a3,i,Q⟩:=hrel;have D:=ω i;have G:=ω Q;have M:=i.b0;have b1:=i.b1;have vC:=i.ctx.vC a;have s:J<|_:=next_any wr _ _ a b d i.ctx.toV K;obtain⟨ca,v⟩:∃ca,b a=ca:=⟨_,rfl⟩;have f:=ω v;rw[v]at s vC a3;clear i Q F v;go_wp2_with fail;refine ψ s.o ?_;rintro P j⟨rfl,R⟩;have ae:=ω<|D.o.below R;have M:=ae.o.b0;have b1:=ae.o.b1;have ab:=ae.o.lt;have hw:=ae.o.new;have B:ca+1<512:=V
  have E:J<|wM (a:Int) ((ca+1:Nat):Int)=aW (dX a (ca+1)):=QJ B;obtain⟨A,y⟩:=V4 a (ca+1) V V;have U:=QK d (wM a (ca+1:Nat));have o:(lm d (wM a (ca+1:Nat))).isSome=d (dX a (ca+1)):=by rw[E.o];exact uM _ _
  have T:=OD a b;rw[f.o]at T;clear s R D;obtain⟨Y,af⟩:=ae.o.ctx.ls;have a9:=sD af (λn hn=>(ae.o.ctx.CV n hn).1);have q:J<|∀wy,Below j.heap.size j wy->dB prog 140 wy lb Y (lm d):=λwy h=>af.block (h.block _ af.lt);have p:J<|∀wy,Below j.heap.size j wy->CG w w.heap.size cb lb b d wy:=λwy h=>ae.o.below h;clear af;cases hl:d (dX a (ca+1)) with
  | false =>
   have r:J<|d (dX a (b a+1))=false:=ω<|by rw[f.o];exact hl
   rw[hl]at o;clear hl;go_wp2_with (first|(at_lookup;refine rY rfl (.tmp 12) (.tmp 13) 97 rfl 67 jE underlying97 (V3 _) rfl (q.o _ ?_) (wM a ((ca+1:Nat):Int)) A rfl y _ U _ o ?_;(go_grown)));refine ϐ (results_none rfl _ _ _) rfl ?_;refine⟨rfl,b,d,(p.o _ ?_).ctx,r.o,G.o,(p.o _ ?_).aJ⟩<;>go_grown
  | true =>
   have r:J<|d (dX a (b a+1))=true:=ω<|by rw[f.o];exact hl
   have kM:ca+1<=501:=by have:=(ae.o.ctx.CV _ hl).1.2.2;rw[dG B]at this;exact this
   rw[hl]at o;clear hl;have Z:J<|∀wy e N,Below j.heap.size j wy->wy.grownBy e (some lb)->dB prog 140 e lb N (era (lm d) (wM a (ca+1:Nat)))->CG w w.heap.size cb lb b (λk=>d k&&k !=dX a (b a+1)) e:=λwy e N h x m=>by rw[E.o,<- f.o]at m;exact CG.drop (p.o wy h) x m
   have a0:J<|∀wy e N,CG w w.heap.size cb lb b (λk=>d k&&k !=dX a (b a+1)) wy->wy.grownBy e (some cb)->dB prog 3 e cb N (upd (cm b) (I a) (I ((ca+1:Nat):Int)))->CG w w.heap.size cb lb (inc b a) (λk=>d k&&k !=dX a (b a+1)) e:=λwy e N hc x m=>by rw[<- f.o]at m;exact CG.inc hc x m K (by rw[f.o];exact kM) Ω
   go_wp2_with (first|(at_lookup;refine rY rfl (.tmp 12) (.tmp 13) 97 rfl 67 jE underlying97 (V3 _) rfl (q.o _ ?_) (wM a ((ca+1:Nat):Int)) A rfl y _ U _ o ?_;(go_grown))|(at_delete;refine KF rfl (.tmp 20) (.tmp 21) 97 rfl 67 jE underlying97 rfl (q.o _ ?_) (wM a ((ca+1:Nat):Int)) A rfl y ?_;(go_grown);intro w2 a4 a1 ac;have l:CG w w.heap.size cb lb b (λk=>d k&&k !=dX a (b a+1)) w2:=(by refine Z.o _ _ _ ?_ a1 a4;go_grown);have W:J<|CG w w.heap.size cb lb b (λk=>d k&&k !=dX a (b a+1)) w2:=l;have M:=l.b0;obtain⟨H,u⟩:=l.ctx.cs;have aa:H<=6:=IE u l.ctx.c5;have a7:H<maxLen:=(by unfold maxLen;omega);clear l)|(at_lookup;refine rX rfl (.tmp 23) (.tmp 24) 96 rfl 3 lU underlying96 (OA _) rfl u (I a) _ rfl S _ T ?_)|(at_mapUpdate;refine iM rfl (.tmp 23) (.tmp 24) (.tmp 26) 96 rfl 3 lU underlying96 rfl u a7 (I a) (I ((ca+1:Nat):Int)) _ rfl (by first|rfl|simp) S ?_;intro w3 a6 a2 ad;have X:CG w w.heap.size cb lb (inc b a) (λk=>d k&&k !=dX a (b a+1)) w3:=(a0.o _ _ _ W.o a2 a6);go_frame));all_goals
    go_roundg (501-(ca+1));case measure=>omega
    case rel=>exact⟨inc b a,_,by rw[dU,f.o],X,G.o.step r.o (by rw[f.o];exact B)⟩
def jS(w:World)(cb lb:Nat)(S:Nat->Prop):Prop:=∃c L,wP w cb lb c L/\(∀a,L (dX a (c a+1))=false)/\∀d,1<=nth d->(S d↔oW c L d)
def II(w:World)(cv lv:Value)(S:Nat->Prop):Prop:=∃c L,ni w cv lv c L/\(∀a,L (dX a (c a+1))=false)/\∀d,1<=nth d->(S d↔oW c L d)
def jS.toR(h:jS w cb lb S):II w (.map (some cb)) (.map (some lb)) S:=by obtain⟨c,L,a,b,d⟩:=h;exact⟨c,L,a.toV,b,d⟩
def jS.aJ(h:jS w cb lb S)(d:aA M w w')(a:¬M cb)(b:¬M lb):jS w' cb lb S:=by obtain⟨c,L,g1,g2,g3⟩:=h;exact⟨c,L,g1.aJ d a b,g2,g3⟩
def jS.below(h:jS w cb lb S)(a:Below w.heap.size w w'):jS w' cb lb S:=by obtain⟨c,L,g1,g2,g3⟩:=h;exact⟨c,L,g1.below a,g2,g3⟩
def jS.lt(h:jS w cb lb S):cb<w.heap.size/\lb<w.heap.size:=by obtain⟨c,L,g1,g2,g3⟩:=h;exact g1.lt
def jS.iff(h:jS w cb lb S)(b:∀n,1<=nth n->(S' n↔S n)):jS w cb lb S':=by obtain⟨c,L,g1,g2,g3⟩:=h;exact⟨c,L,g1,g2,λn a=>(b n a).trans (g3 n a)⟩
def Zf{k:Nat}:oW c (λx=>L x||x==d) k↔oW c L k\/k=d:=by unfold oW;simp only[ϑw,ϑt];exact⟨λh=>h.elim (λh=>τ (τ h)) (λh=>h.elim (λh=>τ (υ h)) υ),λh=>h.elim (λh=>h.elim τ (λh=>υ (τ h))) (λh=>υ (υ h))⟩
def V6{b:Nat->Nat}{L':Nat->Bool}(j:∀a,L (dX a (c a+1))=false)(f:x9 (who d) c (λk=>L k||k==d) b L')(i:L' (dX (who d) (b (who d)+1))=false)(l:∀a,c a<=501):∀a,L' (dX a (b a+1))=false:=by
 intro a;by_cases e:a=who d
 .subst e;exact i
 .have g:who (dX a (c a+1))=a:=dI (by have:=l a;omega);rw[f.oc a e,f.ol _ (by rw[g];exact e),j a];have:dX a (c a+1)≠d:=λh=>e (by rw[<- h,g]);simp[this]
def add_any(w:World)(cb lb d:Nat)(S:Nat->Prop)(h:jS w cb lb S)(H:okD d):Calls prog 194 #[.agg #[.map (some cb),.map (some lb)],aW d] w λe w'=>e=.returned (.tuple #[])/\jS w' cb lb (λk=>S k\/k=d)/\aA (λk=>k=cb\/k=lb) w w':=by
 obtain⟨c,L,h,G,E⟩:=h;have v:=ω E;have x:=H.1;have N:=h.vC;have y:=ω G;have zo:=ω N;have u:J<|∀b,b=.cells #[.map (some cb),.map (some lb)] 99->∀f,CG w w.heap.size cb lb c L ((w.alloc b).alloc f):=λb q f=>by subst q;have F:Below w.heap.size w (w.alloc (.cells #[.map (some cb),.map (some lb)] 99)):=(φ _ w).alloc (χ _) _;refine CG.below (wx:=w.alloc (.cells #[.map (some cb),.map (some lb)] 99)) ?_ ((φ _ _).alloc (χ _) _);exact⟨h.below F,World.cell?_alloc_at _ _ _ _ rfl,World.cell?_alloc_at _ _ _ _ rfl,h.lt,χ _,Ω,aA.of_below F⟩
 have t:J<|∀b,b=.cells #[I (who d),I (nth d)] 140->∀f,((w.alloc f).alloc b).cell? (z (w.heap.size+1))=some (I (who d))/\((w.alloc f).alloc b).cell? (O (w.heap.size+1) 1)=some (I (nth d)):=λb q f=>by
  subst q;have e:(w.alloc f).heap.size=w.heap.size+1:=Ω
  exact⟨by rw[<- e];exact World.cell?_alloc_at _ _ _ _ rfl,by rw[<- e];exact World.cell?_alloc_at _ _ _ _ rfl⟩
 clear h E G N;go_enter func194,ntmps194;go_wp2_with fail;have l:=u.o _ rfl (.cells #[I (who d),I (nth d)] 140);have m:=t.o _ rfl (.cells #[.map (some cb),.map (some lb)] 99);clear u t;generalize M:(w.alloc (.cells #[.map (some cb),.map (some lb)] 99)).alloc (.cells #[I (who d),I (nth d)] 140)=P at *;have a3:P.heap.size=w.heap.size+2:=by rw[<- M];simp
 clear M;refine ψ (IC P _ _ c d L l.ctx.toV x) ?_;rintro e j⟨rfl,i⟩;have a:=l.below i;have d0:j.cell? (z (w.heap.size+1))=some (I (who d)):=(i.cell (p:=(z (w.heap.size+1))) (by show w.heap.size+1<_;omega)).trans m.1;have d1:j.cell? (O (w.heap.size+1) 1)=some (I (nth d)):=(i.cell (p:=(O (w.heap.size+1) 1)) (by show w.heap.size+1<_;omega)).trans m.2;have a4:w.heap.size+1<j.heap.size:=by have:=i.size;omega
 have B:=a.b0;have C:=a.b1;have s:=ω a;clear l m i a3;cases hh:(decide (nth d<=c (who d))||L d) with
 | true =>
  have U:J<|oW c L d:=by unfold J oW;simpa using hh
  clear a hh;go_wp2;refine ϐ (results_none rfl _ _ _) rfl ?_;exact⟨rfl,⟨c,L,s.o.ctx,y.o,λk o=>by
   show(S k\/k=d)↔_;rw[v.o k o];constructor
   .rintro(h|rfl)
    .exact h
    .exact U.o
   .exact τ⟩,s.o.aJ⟩
 | false =>
  have Z:c (who d)<nth d:=by simp at hh;omega
  clear hh;obtain⟨kl,a0⟩:=keyE d V;obtain⟨X,a9⟩:=a.ctx.ls;have a6:=sD a9 (λn hn=>(a.ctx.CV n hn).1);have a2:X<maxLen:=by unfold maxLen;omega
  have a7:=a.old;have T:=ω a9;clear a a9;go_wp2_with (first|(at_mapUpdate;refine iM rfl (.tmp 8) (.tmp 9) (.tmp 10) 97 rfl 67 jE underlying97 rfl T.o a2 (aW d) rZ _ rfl rfl a0 ?_;intro w4 a1 K a8;have g:CG w w.heap.size cb lb c (λk=>L k||k==d) w4:=(CG.put s.o K a1 Z H);have B:=g.b0;have C:=g.b1;have d0:w4.cell? (z (w.heap.size+1))=some (I (who d)):=(η (w:=j) (K.block (w.heap.size+1) a4 (λe=>by cases e;omega))).trans d0));refine ψ (IG w4 cb lb (who d) c _ g.ctx x) ?_;rintro e w5⟨rfl,c',W,D,Y,r,A⟩;have R:J<|jS w5 cb lb (λk=>S k\/k=d):=⟨c',W,D,V6 y.o r Y zo.o,λk o=>by show(S k\/k=d)↔_;rw[r.same k,v.o k o,Zf]⟩;have Q:=ω<|g.aJ.trans A
  clear D r A g B C d0;go_wp2
  go_end0
  exact⟨rfl,R.o,Q.o⟩
def bY(P:Program)(k:TypeId)(w:World)(v:Value)(r N:Nat)(m:Value->Option Value)(left:Value->Prop)(cnt:Nat):Prop :=
 (v=.map none/\(∃s seen c,w.heap[r]?=some (.mapIter none s seen c))/\cnt=0/\m=(λ_=>none)/\∀key,¬left key)\/∃b,v=.map (some b)/\dY P k w b r N m left cnt
section
variable{P:Program}{k:TypeId}{w:World}{v:Value}{r N cnt:Nat}{m:Value->Option Value}{left:Value->Prop}
def dQ.aJ{M:Nat->Prop}{w':World}(h:dQ P k w v N m)(d:aA M w w')(e:∀b,v=.map (some b)->¬M b):dQ P k w' v N m:=by
 rcases h with h|⟨b,a,c⟩
 .exact τ h
 .exact υ ⟨b,a,c.block (d.block b c.lt (e b a))⟩
def bY.aJ{M:Nat->Prop}{w':World}(h:bY P k w v r N m left cnt)(e:aA M w w')(i:∀b,v=.map (some b)->¬M b)(f:¬M r):bY P k w' v r N m left cnt:=by
 rcases h with⟨d,⟨s,seen,c,a⟩,g⟩|⟨b,d,a⟩
 .exact τ ⟨d,⟨s,seen,c,(e.block r (Array.getElem?_eq_some_iff.1 a).1 f).trans a⟩,g⟩
 .exact υ ⟨b,d,a.block (e.block b a.map.lt (i b d)) (e.block r a.lt f)⟩
def bY.lt(h:bY P k w v r N m left cnt):r<w.heap.size:=by
 rcases h with⟨b,⟨s,seen,c,a⟩,e⟩|⟨d,b,a⟩
 .exact(Array.getElem?_eq_some_iff.1 a).1
 .exact a.lt
def bY.map{t:TypeId}(h:bY P t w v r N m left cnt):∃N,dQ P t w v N m:=by
 rcases h with⟨a,_,_,b,_⟩|⟨c,a,b⟩
 .exact⟨0,τ ⟨a,rfl,b⟩⟩
 .exact⟨N,υ ⟨c,a,b.map⟩⟩
def yg{a:TypeId}{s c:Nat}{seen:Array Nat}(h:w.heap[r]?=some (.mapIter none s seen c)):(Instr.next (.pointer (some (z r))) false a).run P w=.ok (.tuple #[.bool false]) w:=by simp only[Instr.next,getObj,Sem.run_bind,Sem.run,h,Result.andThen];rfl
variable{ops:Array Oper}{rest:List Oper}{o:Oper}{a:Act}{Q:Exit->Act->World->Prop}
def fV(n:o.guard=none)(i:Operand)(t:TypeId)(f:o.op=Op.range t i)(e:TypeId)(K:Keyed P k)(g:P.underlying t=some (.map k e))(d:a.eval i=v)(h:dQ P k w v N m)(b:∀w',bY P k w' v w.heap.size N m (λkey=>(m key).isSome=true) N->w.grownBy w' none->w'.heap.size=w.heap.size+1->wpList P ops Q rest (a.put o.dst (.pointer (some (z w.heap.size)))) w'):wpList P ops Q (o::rest) a w:=by
 refine wpList_plain n λu c=>?_;rcases h with⟨rfl,rfl,rfl⟩|⟨j,rfl,l⟩
 .unfold Oper.wp;simp[execOp,f,d,run_range_nilMap w t k e g,Result.andThen];exact c _ _ (b _ (τ ⟨rfl,⟨0,#[],0,heap_alloc_new w _⟩,rfl,rfl,λkey h=>by cases h⟩) (World.grownBy_alloc w _ none) Ω)
 .obtain⟨w',p,q,r,s⟩:=l.range K g;unfold Oper.wp;simp[execOp,f,d,p,Result.andThen];exact c _ _ (b w' (υ ⟨j,rfl,q⟩) r s)
def gU{n : Type}(i:o.guard=none)(f:Operand)(l:o.op=Op.next f false)(K:Keyed P k)(mk b:n->Value)(j:a.eval f=.pointer (some (z r)))(A:bY P k w v r N m left cnt)(E:∀key v,left key->m key=some v->∃x,key=mk x/\v=b x)(h:(∀key,¬left key)->wpList P ops Q rest (a.put o.dst (.tuple #[.bool false])) w)(D:∀(x:n)(w':World)(d:Nat),left (mk x)->m (mk x)=some (b x)->bY P k w' v r N m (λy=>left y/\y≠mk x) d->d<cnt->w.grownBy w' (some r)->w'.heap.size=w.heap.size -> (Instr.entry (.pointer (some (z r)))).run P w'=.ok (.tuple #[mk x,b x]) w'->wpList P ops Q rest (a.put o.dst (.tuple #[.bool true,mk x,b x])) w'):wpList P ops Q (o::rest) a w:=by
 rcases A with⟨g,⟨L,seen,c,e⟩,G,H,B⟩|⟨p,g,e⟩
 .refine wpList_plain i λF C=>?_;unfold Oper.wp;simp[execOp,l,j,yg e,Result.andThen];exact C _ _ (h B)
 .exact Ac i f l K mk b j e E (λ_=>h) (λx w' d g1 g2 g3 q s t u=>D x w' d g1 g2 (υ ⟨p,g,g3⟩) q s t u)
end
def CW(w:World):Calls prog 193 #[] w λe w'=>∃cb lb,e=.returned (.agg #[.map (some cb),.map (some lb)])/\jS w' cb lb (λ_=>False)/\w.heap.size<=cb/\w.heap.size<=lb/\Below w.heap.size w w':=by
 have j:=@run_makeMap prog;have c:J<|∀b,Below w.heap.size w (w.alloc b)/\jS (((w.alloc b).alloc (.map #[] 0)).alloc (.map #[] 0)) (w.heap.size+1) (w.heap.size+2) (λ_=>False):=λb=>⟨(φ _ w).alloc (χ _) _,by
  have d:(w.alloc b).heap.size=w.heap.size+1:=Ω
  have f:((w.alloc b).alloc (.map #[] 0)).heap.size=w.heap.size+2:=Ω
  have m1:=dB.made (w.alloc b) prog 3;have m2:=dB.made ((w.alloc b).alloc (.map #[] 0)) prog 140;rw[d]at m1;rw[f]at m2;have g:cm (λ_=>0)=λ_=>none:=(OC (λa=>rfl) (λkey _=>rfl)).symm;have i:lm (λ_=>false)=λ_=>none:=by funext key;simp[lm]
  refine⟨λ_=>0,λ_=>false,⟨⟨0,by rw[g];exact m1.block (((φ _ ((w.alloc b).alloc (.map #[] 0))).alloc (χ _) _).block _ m1.lt)⟩,⟨0,by rw[i];exact m2⟩,V,λ_=>V,λ_ h=>absurd rfl h,λn h=>(by cases h)⟩,λ_=>rfl,λn l=>?_⟩;simp[oW];omega⟩
 go_enter func193,ntmps193;go_wp2;refine ϐ (v:=.agg #[.map (some (w.heap.size+1)),.map (some (w.heap.size+2))]) (by simp[results,Tryz.results193,go_sem]) rfl ⟨_,_,rfl, ?_,V,V, ?_⟩
 .first
   | exact(c.o _).2
   | (refine jS.aJ (M:=λk=>k=w.heap.size) (c.o _).2 (((aA.refl _ _).setCell (p:=(z w.heap.size)) rfl _).setCell (p:=(O w.heap.size 1)) rfl _) V V)
   | trace_state
 .go_grown
def QM(x y:Int)(w:World):(Instr.field 140 (.agg #[I x,I y]) 1).run prog w=.ok (I y) w:=by kernel_rfl
structure AA(w:World)(cb lb:Nat)(cv lv:Value)(co:Nat->Nat)(Lo:Nat->Bool)(S:Nat->Prop)(wx:World):Prop where
 ctx:jS wx cb lb S
 b0:wx.cell? (z w.heap.size)=some (.map (some cb))
 b1:wx.cell? (O w.heap.size 1)=some (.map (some lb))
 o0:wx.cell? (z (w.heap.size+1))=some cv
 o1:wx.cell? (O (w.heap.size+1) 1)=some lv
 oc:∃N,dQ prog 3 wx cv N (cm co)
 ol:∃N,dQ prog 140 wx lv N (lm Lo)
 old:cb<w.heap.size/\lb<w.heap.size
 ne:(∀b,cv=.map (some b)->b≠cb/\b≠lb/\b<w.heap.size)/\(∀b,lv=.map (some b)->b≠cb/\b≠lb/\b<w.heap.size)
 lt:w.heap.size+2<=wx.heap.size
 aJ:aA (λk=>k=cb\/k=lb) w wx
def AA.step(h:AA w cb lb cv lv co Lo S wx)(l:jS wy cb lb S')(a:aA (λk=>k=cb\/k=lb) wx wy):AA w cb lb cv lv co Lo S' wy:=by obtain⟨N,f⟩:=h.oc;obtain⟨e,g⟩:=h.ol;have m:=h.lt;have o:=h.old;have c:∀b i,w.heap.size<=b->b<wx.heap.size->wy.cell? (O b i)=wx.cell? (O b i):=λb i n j=>η (w:=wx) (a.block b j V);exact⟨l,(c _ 0 V V).trans h.b0,(c _ 1 V V).trans h.b1,(c _ 0 V V).trans h.o0,(c _ 1 V V).trans h.o1,⟨N,f.aJ a (λb d=>by have:=h.ne.1 b d;omega)⟩,⟨e,g.aJ a (λb d=>by have:=h.ne.2 b d;omega)⟩,h.old,h.ne,ς m a.size,h.aJ.trans a⟩
def AA.below(h:AA w cb lb cv lv co Lo S wx)(a:Below wx.heap.size wx wy):AA w cb lb cv lv co Lo S wy:=h.step (h.ctx.below a) (aA.of_below a)
def AA.turn{r:Nat}(h:AA w cb lb cv lv co Lo S wx)(p:w.heap.size+2<=r)(c:wx.grownBy wy (some r)):AA w cb lb cv lv co Lo S wy:=by have m:=h.lt;have o:=h.old;have a:∀b i,b<w.heap.size+2->wy.cell? (O b i)=wx.cell? (O b i):=λb i n=>η (w:=wx) (c.block b V (λe=>by cases e;omega));have f:aA (λk=>k=r) wx wy:=(aA.refl _ wx).grown c (λk e=>by cases e;exact τ rfl);obtain⟨N,j⟩:=h.oc;obtain⟨g,l⟩:=h.ol;exact⟨h.ctx.aJ f V V,(a _ 0 V).trans h.b0,(a _ 1 V).trans h.b1,(a _ 0 V).trans h.o0,(a _ 1 V).trans h.o1,⟨N,j.aJ f (λb d=>by have:=h.ne.1 b d;omega)⟩,⟨g,l.aJ f (λb d=>by have:=h.ne.2 b d;omega)⟩,h.old,h.ne,ς m c.size,h.aJ.grown c (λk e=>by cases e;right;omega)⟩
def AA.iff(h:AA w cb lb cv lv co Lo S wx)(a:∀n,1<=nth n->(S' n↔S n)):AA w cb lb cv lv co Lo S' wx:=h.step (h.ctx.iff a) (aA.refl _ _)
def jS.r(h:jS w cb lb S):∃c L,ni w (.map (some cb)) (.map (some lb)) c L/\(∀d,1<=nth d->nth d<=c (who d)->S d)/\∀a,c a<=501:=by obtain⟨c,L,b,e,f⟩:=h;exact⟨c,L,b.toV,λd b e=>(f d b).2 (τ e),b.vC⟩
def OE(w:World)(cb lb:Nat)(S So:Nat->Prop)(cv lv:Value)(h:jS w cb lb S)(A:II w cv lv So)(aw:(∀c,cv=.map (some c)->c≠cb/\c≠lb/\c<w.heap.size)/\(∀c,lv=.map (some c)->c≠cb/\c≠lb/\c<w.heap.size)):Calls prog 200 #[.agg #[.map (some cb),.map (some lb)],.agg #[cv,lv]] w λe w'=>e=.returned (.tuple #[])/\jS w' cb lb (λk=>S k\/So k)/\aA (λk=>k=cb\/k=lb) w w':=by
 obtain⟨co,Lo,A,_,ak⟩:=A;have b3:=ω ak;have b5:=ω A.vC;have b4:=ω A.c5;have b2:=ω<|λd hd=>(A.CV d hd).1;have pF:J<|∀ob a9,ob=.cells #[.map (some cb),.map (some lb)] 99->a9=.cells #[cv,lv] 99->AA w cb lb cv lv co Lo S ((w.alloc ob).alloc a9):=λob a9 e1 K=>by
  subst e1;subst K;have bc:Below w.heap.size w (w.alloc (.cells #[.map (some cb),.map (some lb)] 99)):=(φ _ w).alloc (χ _) _;have i:Below w.heap.size w ((w.alloc (.cells #[.map (some cb),.map (some lb)] 99)).alloc (.cells #[cv,lv] 99)):=bc.alloc Ω _;have al:=(φ (w.alloc (.cells #[.map (some cb),.map (some lb)] 99)).heap.size (w.alloc (.cells #[.map (some cb),.map (some lb)] 99))).alloc (χ _) (.cells #[cv,lv] 99);have e:(w.alloc (.cells #[.map (some cb),.map (some lb)] 99)).heap.size=w.heap.size+1:=Ω
  have N:=A.below i;refine⟨h.below i,(al.cell (p:=(z w.heap.size)) Ω).trans (World.cell?_alloc_at _ _ _ _ rfl),(al.cell (p:=(O w.heap.size 1)) Ω).trans (World.cell?_alloc_at _ _ _ _ rfl), ?_, ?_,N.cs,N.ls,h.lt,aw,Ω,aA.of_below i⟩
  .rw[<- e];exact World.cell?_alloc_at _ _ _ _ rfl
  .rw[<- e];exact World.cell?_alloc_at _ _ _ _ rfl
 clear h A ak aw;go_enter func200,ntmps200;have r:=pF.o _ _ rfl rfl;clear pF;obtain⟨U,ah⟩:=r.oc;have o0:=r.o0;have bh:((w.alloc (.cells #[.map (some cb),.map (some lb)] 99)).alloc (.cells #[cv,lv] 99)).heap.size=w.heap.size+2:=Ω
 have s:J<|AA w cb lb cv lv co Lo S _:=r;clear r;go_wp2_with (first|(at_range;refine fV rfl (.tmp 9) 96 rfl 3 lU underlying96 rfl ah ?_;intro w3 a8 ap bi;have ae:AA w cb lb cv lv co Lo S w3:=(s.o.below ((φ _ _).grown ap (χ _) (λk e=>by cases e)));rw[bh]at a8⊢;clear s o0 ah ap bi;go_frame));go_loopg [4] U (λL v4 wx=>∃(left:Value->Prop)(cnt:Nat),L=cnt/\bY prog 3 wx cv (w.heap.size+2) U (cm co) left cnt/\AA w cb lb cv lv co Lo (λk=>S k\/(nth k<=co (who k)/\¬left (I (who k)))) wx);case atStart =>
  refine⟨_,_,rfl,a8,ae.iff (λn j=>?_)⟩;have:¬(nth n<=co (who n)/\¬(cm co (I (who n))).isSome=true):=by rintro⟨f,b⟩;exact b (by rw[su,ύ V];rfl)
  simp only[this,ϑO]
 case round =>
  obtain⟨left,q,hq,N,r⟩:=hrel;have HR:=ω N;have s:=ω r;have qM:J<|∀key v,left key->cm co key=some v->∃x:Nat,key=(λx:Nat=>Value.int .i64 x) x/\v=(λx:Nat=>Value.int .i64 (co x)) x:=λkey v _ Y=>by obtain⟨x,f,b,_⟩:=oV Y;exact⟨x,f,b⟩
  have o1:=r.o1;obtain⟨C,a4⟩:=r.ol;clear N r a8 ae;go_wp2_with (first|(at_next;refine gU rfl (.tmp 10) rfl lU (λx:Nat=>I x) (λx:Nat=>I (co x)) (by first|rfl|(simp;rfl)) HR.o qM.o ?_ ?_))
  .intro be;go_wp2_with (first|(at_range;refine fV rfl (.tmp 31) 97 rfl 67 jE underlying97 rfl a4 ?_;intro w5 OG ar bj;have YR:AA w cb lb cv lv co Lo (λk=>S k\/nth k<=co (who k)) w5:=((s.o.below ((φ _ _).grown ar (χ _) (λk e=>by cases e))).iff (λn j=>by simp[be]));have bg:=s.o.lt;clear s o1 a4 ar bj HR qM;go_frame));go_loopg [7] C (λL v7 wx=>∃(m:Value->Prop)(q2:Nat),L=q2/\bY prog 140 wx lv wr.heap.size C (lm Lo) m q2/\AA w cb lb cv lv co Lo (λk=>(S k\/nth k<=co (who k))\/(Lo k=true/\¬m (aW k))) wx);case atStart =>
    refine⟨_,_,rfl,OG,YR.iff (λn j=>?_)⟩;have:¬(Lo n=true/\¬(lm Lo (aW n)).isSome=true):=by rintro⟨f,b⟩;exact b (by rw[uM];exact f)
    simp only[this,ϑO]
   case round =>
    obtain⟨m,q2,bw,ai,ad⟩:=hrel;have a1:J<|bY prog 140 wr lv _ C (lm Lo) m q2:=ai;have E:=ω ad;have V7:J<|∀key v,m key->lm Lo key=some v->∃x:Nat,key=(λn:Nat=>aW n) x/\v=(λ_=>rZ) x:=λkey v _ Y=>by obtain⟨n,f,b,u⟩:=V5 Y;exact⟨n,b,u⟩
    clear ai ad OG YR;go_wp2_with (first|(at_next;refine gU rfl (.tmp 32) rfl jE (λn:Nat=>aW n) (λ_=>rZ) rfl a1.o V7.o ?_ ?_))
    .intro bf;have HF:J<|jS wr cb lb (λk=>S k\/So k):=E.o.ctx.iff (λn j=>by rw[b3.o n j];unfold oW;simp only[bf,not_false_eq_true,ϑN];exact⟨λh=>h.elim (λh=>τ (τ h)) (λh=>h.elim (λh=>τ (υ h)) υ),λh=>h.elim (λh=>h.elim τ (λh=>υ (τ h))) (λh=>υ (υ h))⟩);have az:=ω E.o.aJ;clear a1 E V7;go_wp2
     go_end0
     exact⟨rfl,HF.o,az.o⟩
    .intro n R Q bl b7 F bm eG bz b8;have ag:Lo n=true:=by rw[<- uM n Lo,b7];(first|done|rfl)
     have j:=b2.o n ag;have g:=E.o.turn bg eG;have c0:=ω g;have G:=g.b0;have H:=g.b1;have br:=g.lt;have ba:=λo=>(c0.o.below ((φ _ R).alloc (χ _) o)).b0;have bb:=λo=>(c0.o.below ((φ _ R).alloc (χ _) o)).b1;have D:J<|bY prog 140 R lv _ C (lm Lo) (λy=>m y/\¬y=aW n) Q:=F;have t:J<|∀wx,Below R.heap.size R wx->Calls prog 194 #[.agg #[.map (some cb),.map (some lb)],aW n] wx λe w'=>e=.returned (.tuple #[])/\AA w cb lb cv lv co Lo (λk=>((S k\/nth k<=co (who k))\/(Lo k=true/\¬m (aW k)))\/k=n) w'/\bY prog 140 w' lv _ C (lm Lo) (λy=>m y/\¬y=aW n) Q:=λwx i=>by have X:=c0.o.below i;refine ψ (add_any wx cb lb n _ X.ctx j) ?_;rintro e w'⟨rfl,f,b⟩;have bu:=X.old;exact⟨rfl,X.step f b,(D.o.aJ (M:=λ_=>False) (aA.of_below i) (λ_ _ h=>h) (λh=>h)).aJ b (λc i=>by have:=X.ne.2 c i;omega) V⟩
     clear F g a1 E V7 c0 D;go_wp2_with fail;refine ψ (t.o _ ?_) ?_
     .go_grown
     rintro e T⟨rfl,af,aj⟩;have a0:J<|AA w cb lb cv lv co Lo (λk=>(S k\/nth k<=co (who k))\/(Lo k=true/\¬(m (aW k)/\¬aW k=aW n))) T:=af.iff (λk Y=>by
      constructor
      .rintro(h|⟨f,b⟩)
       .exact τ (τ h)
       .by_cases e:k=n
        .exact υ e
        .exact τ (υ ⟨f,λu=>b ⟨u,λK=>e (iW K)⟩⟩)
      .rintro((h|⟨f,b⟩)|rfl)
       .exact τ h
       .exact υ ⟨f,λu=>b u.1⟩
       .exact υ ⟨ag,λu=>u.2 rfl⟩)
     have a2:J<|bY prog 140 T lv _ C (lm Lo) (λy=>m y/\¬y=aW n) Q:=aj;clear af aj t G H ba bb b8;go_wp2_with fail;go_roundg Q;case measure=>omega
     case rel=>exact⟨_,Q,rfl,a2.o,a0.o⟩
  .intro a w4 Z bp av lV bq aq bx ao;have ac:co a≠0:=by intro h0;rw[su,ώ h0]at av;cases av
   have a5:=b4.o a ac;have b6:=b5.o a;obtain⟨ca,P⟩:∃ca,co a=ca:=⟨_,rfl⟩;have EY:=ω P;rw[P]at b6;try rw[P]at ao
   try rw[P]
   clear P ac;have B:=s.o.turn (χ _) aq;obtain⟨cc,L1,hV,ax,a7⟩:=B.ctx.r;have SI:=ω B;have ab:=ω lV;have b9:=ω ax;have G:=B.b0;have H:=B.b1;have Hn:J<|_:=next_any w4 _ _ a cc L1 hV a5;have a7:=a7 a;obtain⟨c1,a3⟩:∃c1,cc a=c1:=⟨_,rfl⟩;have SE:=ω a3;rw[a3]at Hn a7;clear a3;have bk:=B.ne.1;have bv:=B.old;clear B hV lV HR s ax o1 a4 qM aq;go_wp2_with fail;refine ψ Hn.o ?_;rintro e w5⟨rfl,a6⟩;have aa:=ω<|SI.o.below a6
   have Gf:=ω<|ab.o.aJ (M:=λ_=>False) (aA.of_below a6) (λ_ _ h=>h) (λh=>h)
   have bd:=QM (a:Int) ((c1:Int)+1);clear SI ab Hn G H a6 ao;go_wp2_with fail;clear bd;go_loopg [6] (ca+1-(c1+1)) (λL v6 wx=>∃nt:Nat,c1+1<=nt/\(nt<=ca+1\/nt=c1+1)/\v6=I nt/\L=ca+1-nt/\bY prog 3 wx cv (w.heap.size+2) U (cm co) (λy=>left y/\¬y=Value.int IntKind.i64 (a:Int)) Z/\AA w cb lb cv lv co Lo (λk=>(S k\/(nth k<=co (who k)/\¬left (I (who k))))\/(who k=a/\c1<nth k/\nth k<nt)) wx);case atStart=>exact⟨c1+1,V,V,rfl,rfl,Gf.o,aa.o.iff (λn j=>by constructor;(rintro(h|h);exact h;omega);exact τ)⟩
   case round =>
    obtain⟨nt,bs,bt,rfl,hg,F,g⟩:=hrel;have D:=ω F;have c0:=ω g;have G:=g.b0;have H:=g.b1;clear F g aa Gf;by_cases bn:nt<=ca
    .have l:nt<512:=V
     have t:J<|_:=add_any wr cb lb (dX a nt) _ c0.o.ctx ⟨by rw[dI l];exact a5,by rw[dG l];omega,by rw[dG l];omega⟩;unfold aW at t;rw[dI l,dG l]at t;go_wp2_with fail;refine ψ t.o ?_;rintro e T⟨rfl,an,zq⟩;have a0:J<|AA w cb lb cv lv co Lo (λk=>(S k\/(nth k<=co (who k)/\¬left (I (who k))))\/(who k=a/\c1<nth k/\nth k<nt+1)) T:=(c0.o.step an zq).iff (λn j=>by
      constructor
      .rintro(h|h)
       .exact τ (τ h)
       .by_cases e:nth n=nt
        .exact υ (mJ (by rw[dI l];exact h.1) (by rw[dG l];exact e))
        .exact τ (υ V)
      .rintro((h|h)|h)
       .exact τ h
       .exact υ V
       .refine υ ⟨by rw[h,dI l],by rw[h,dG l];omega,by rw[h,dG l];omega⟩)
     have a2:J<|bY prog 3 T cv (w.heap.size+2) U (cm co) (λy=>left y/\¬y=Value.int IntKind.i64 (a:Int)) Z:=D.o.aJ zq (λc i=>by have:=bk c i;omega) V;clear t an zq c0 D G H;go_wp2_with fail;go_roundg (ca+1-(nt+1));case measure=>omega
     case rel=>exact⟨nt+1,V,V,Λ,rfl,a2.o,a0.o⟩
    .go_wp2_with fail;go_roundg Z;case measure=>omega
     case rel=>exact⟨_,Z,rfl,D.o,c0.o.iff (λn j=>by
      have bo:ca<nt:=V
      constructor
      .rintro(h|⟨h,h'⟩)
       .exact τ (τ h)
       .by_cases W:who n=a
        .by_cases e:nth n<=c1
         .exact τ (b9.o n j (by rw[W,SE.o];exact e))
         .exact υ ⟨W,V,by rw[W,EY.o]at h;omega⟩
        .refine τ (υ ⟨h,λhl=>h' ⟨hl,λK=>W ?_⟩⟩);simp at K;omega
      .rintro((h|h)|h)
       .exact τ h
       .exact υ ⟨h.1,λhh=>h.2 hh.1⟩
       .exact υ ⟨by rw[h.1,EY.o];omega,λhh=>hh.2 (by rw[h.1])⟩)⟩
noncomputable def im(It:Nat->Option Value):Value->Option Value:=λkey=>@dite _ (∃n:Nat,key=aW n) (Classical.propDecidable _) (λh=>It (Classical.choose h)) (λ_=>none)
def jh(It:Nat->Option Value)(n:Nat):im It (aW n)=It n:=by unfold im;have h:∃m:Nat,aW n=aW m:=⟨n,rfl⟩;rw[dif_pos h];have:=Classical.choose_spec h;rw[<- iW this]
def oZ{key:Value}(h:im It key=some v):∃n:Nat,key=aW n/\It n=some v:=by
 unfold im at h;split at h
 .rename_i hh;exact⟨_,Classical.choose_spec hh,h⟩
 .cases h
def OH(a:∀n:Nat,m (aW n)=It n)(b:∀key,(∀n:Nat,key≠aW n)->m key=none):m=im It:=by
 funext key;by_cases h:∃n:Nat,key=aW n
 .obtain⟨n,rfl⟩:=h;rw[a,jh]
 .rw[b key (λn e=>h ⟨n,e⟩)];unfold im;rw[dif_neg h]
def IJ(It:Nat->Option Value)(n:Nat)(v:Value):upd (im It) (aW n) v=im (λk=>if k=n then some v else It k):=by
 apply OH
 .intro k;by_cases e:k=n
  .subst e;rw[upd_same,ώ rfl]
  .rw[jw (λb=>e (iW b)),jh,ύ e]
 .intro key a;rw[jw (a n)];unfold im;rw[dif_neg (λ⟨n,e⟩=>a n e)]
def yh:im (λ_=>none)=λ_=>none:=by symm;apply OH<;>intros<;>rfl
structure aP(w:World)(ib cb lb:Nat)(S:Nat->Prop)(It:Nat->Option Value):Prop where
 ctx:jS w cb lb S
 its:∃N,dB prog 140 w ib N (im It)
 ne:ib≠cb/\ib≠lb
 ok:∀n,It n≠none->okD n/\S n
structure ji(w:World)(iv cv lv:Value)(S:Nat->Prop)(It:Nat->Option Value):Prop where
 ctx:II w cv lv S
 its:∃N,dQ prog 140 w iv N (im It)
 ok:∀n,It n≠none->okD n/\S n
def aP.toR(h:aP w ib cb lb S It):ji w (.map (some ib)) (.map (some cb)) (.map (some lb)) S It :=
 ⟨h.ctx.toR,h.its.imp λN h=>υ ⟨ib,rfl,h⟩,h.ok⟩
def II.aJ(h:II w cv lv S)(a:aA M w w')(g:∀b,cv=.map (some b)->¬M b)(i:∀b,lv=.map (some b)->¬M b):II w' cv lv S:=by obtain⟨c,L,⟨⟨N,g1⟩,⟨d,g2⟩,g3,e,f⟩,r⟩:=h;exact⟨c,L,⟨⟨N,g1.aJ a g⟩,⟨d,g2.aJ a i⟩,g3,e,f⟩,r⟩
def ji.aJ(h:ji w iv cv lv S It)(d:aA M w w')(c:∀b,iv=.map (some b)\/cv=.map (some b)\/lv=.map (some b)->¬M b):ji w' iv cv lv S It :=
 ⟨h.ctx.aJ d (λb a=>c b (υ (τ a))) (λb a=>c b (υ (υ a))),h.its.imp λN g=>g.aJ d (λb a=>c b (τ a)),h.ok⟩
def ji.below(h:ji w iv cv lv S It)(a:Below w.heap.size w w'):ji w' iv cv lv S It:=h.aJ (M:=λ_=>False) (aA.of_below a) (λ_ _ h=>h)
def aP.aJ(h:aP w ib cb lb S It)(a:aA M w w')(b:¬M ib)(c:¬M cb)(d:¬M lb):aP w' ib cb lb S It :=
 ⟨h.ctx.aJ a c d,h.its.imp λN g=>g.block (a.block _ g.lt b),h.ne,h.ok⟩
def aP.below(h:aP w ib cb lb S It)(a:Below w.heap.size w w'):aP w' ib cb lb S It:=h.aJ (M:=λ_=>False) (aA.of_below a) (λh=>h) (λh=>h) (λh=>h)
def aP.lt(h:aP w ib cb lb S It):ib<w.heap.size/\cb<w.heap.size/\lb<w.heap.size:=⟨h.its.elim λ_ g=>g.lt,h.ctx.lt⟩
def dQ.lt{P:Program}{k:TypeId}(h:dQ P k w v N m):∀b,v=.map (some b)->b<w.heap.size:=by
 intro b a;rcases h with⟨h,_⟩|⟨d,h,c⟩
 .rw[h]at a;cases a
 .rw[h]at a;cases a;exact c.lt
def ji.lt(h:ji w iv cv lv S It):∀b,iv=.map (some b)\/cv=.map (some b)\/lv=.map (some b)->b<w.heap.size:=by
 obtain⟨⟨c,L,⟨⟨N,g1⟩,⟨d,g2⟩,_⟩,_⟩,⟨e,g3⟩,_⟩:=h;rintro b (a|a|a)
 .exact g3.lt b a
 .exact g1.lt b a
 .exact g2.lt b a
def dN(w:World)(v:Value)(ns:List Nat):Prop :=
 (v=.slice none 0 0/\ns=[])\/∃b off cap,v=.slice (some (O b off)) ns.length cap/\ns.length<=cap/\b<w.heap.size/\∀j(h:j<ns.length),w.cell? (O b (off+j*2))=some (I (who ns[j]))/\w.cell? (O b (off+j*2+1))=some (I (nth ns[j]))
def dN.aJ{ns:List Nat}(h:dN w v ns)(d:aA M w w')(l:∀b,v.ownBlock=some b->¬M b):dN w' v ns:=by
 rcases h with h|⟨b,m,g,rfl,k,a,c⟩
 .exact τ h
 .have e:∀i,w'.cell? (O b i)=w.cell? (O b i):=λi=>η (w:=w) (d.block b a (l b rfl));exact υ ⟨b,m,g,rfl,k,ο a d.size,λj f=>⟨(e _).trans (c j f).1,(e _).trans (c j f).2⟩⟩
def dN.below{ns:List Nat}(h:dN w v ns)(a:Below w.heap.size w w'):dN w' v ns:=h.aJ (M:=λ_=>False) (aA.of_below a) (λ_ _ h=>h)
def zCh(w:World):(zeroValue 85).run prog w=.ok (.agg #[.string ⟨#[]⟩,.int .u8 0,.string ⟨#[]⟩,I 0]) w:=by kernel_rfl
def jY(h:dB prog 140 w ib N (im It))(d:∀n,It n≠none->okD n):N<=3072:=by refine h.bound jE (λn=>aW n) ?_;intro key c;obtain⟨v,e⟩:=Option.isSome_iff_exists.1 c;obtain⟨n,a,b⟩:=oZ e;exact⟨n,ng (d n (by rw[b];simp)),a⟩
def aP.put{n:Nat}(h:aP w ib cb lb S It)(f:w.grownBy w' (some ib))(a:dB prog 140 w' ib N (upd (im It) (aW n) v))(b:okD n)(c:S n):aP w' ib cb lb S (λk=>if k=n then some v else It k):=by
 have d:aA (λk=>k=ib) w w':=(aA.refl _ w).grown f (λk e=>by cases e;exact τ rfl);refine⟨h.ctx.aJ d (λe=>h.ne.1 e.symm) (λe=>h.ne.2 e.symm),⟨N,by rw[IJ]at a;exact a⟩,h.ne,λk g=>?_⟩;by_cases e:k=n
 .subst e;exact⟨b,c⟩
 .exact h.ok k (by simpa[e]using g)
def Ad(v:Value):Prop:=∃s0 x1 s2 x3,v=.agg #[.string s0,.int .u8 x1,.string s2,I x3]
structure OM(w:World)(iv dv:Value)(kN:Nat->Option Value)(ns:List Nat)(ib cb lb B:Nat)(S:Nat->Prop)(It:Nat->Option Value)(wx:World):Prop where
 st:aP wx ib cb lb S It
 new:w.heap.size<ib/\w.heap.size<cb/\w.heap.size<lb/\w.heap.size<B
 apart:B≠ib/\B≠cb/\B≠lb
 bx:aC wx B #[.map (some ib),.map (some cb),.map (some lb)] 101
 r0:∃u0 u1 u2,aC wx w.heap.size #[u0,u1,u2] 101
 ds:dN wx dv ns
 src:∃N,dQ prog 140 wx iv N (im kN)
 old:(∀b,dv.ownBlock=some b->b<w.heap.size)/\∀b,iv=.map (some b)->b<w.heap.size
 below:Below w.heap.size w wx
section
variable{w:World}{iv dv:Value}{kN:Nat->Option Value}{ns:List Nat}{ib cb lb B:Nat}{S S':Nat->Prop}{It:Nat->Option Value}{wx wy:World}
def OM.mono(h:OM w iv dv kN ns ib cb lb B S It wx)(a:Below wx.heap.size wx wy):OM w iv dv kN ns ib cb lb B S It wy:=by obtain⟨d,e,f,c⟩:=h.r0;obtain⟨N,b⟩:=h.src;exact⟨h.st.below a,h.new,h.apart,h.bx.below a,⟨d,e,f,c.below a⟩,h.ds.below a,⟨N,b.below a⟩,h.old,h.below.trans (a.mono h.below.size)⟩
def OM.an7{M:Nat->Prop}(h:OM w iv dv kN ns ib cb lb B S It wx)(b:∀k,M k->w.heap.size<k/\k≠B)(i:aP wy ib cb lb S' It)(a:aA M wx wy):OM w iv dv kN ns ib cb lb B S' It wy:=by obtain⟨j,l,n,g⟩:=h.r0;obtain⟨N,e⟩:=h.src;refine⟨i,h.new,h.apart,h.bx.aJ a (λm=>(b _ m).2 rfl),⟨j,l,n,g.aJ a (λm=>by have:=b _ m;omega)⟩,h.ds.aJ a (λc d m=>by have:=b _ m;have:=h.old.1 c d;omega),⟨N,e.aJ a (λc d m=>by have:=b _ m;have:=h.old.2 c d;omega)⟩,h.old, ?_⟩;exact h.below.trans ⟨a.os,a.tape,a.output,a.size,λk f=>a.block k (ο f h.below.size) (λm=>by have:=b _ m;omega)⟩
def OM.turn{r:Nat}(h:OM w iv dv kN ns ib cb lb B S It wx)(c:wx.grownBy wy (some r))(a:w.heap.size<r/\r≠ib/\r≠cb/\r≠lb/\r≠B):OM w iv dv kN ns ib cb lb B S It wy:=by have b:aA (λk=>k=r) wx wy:=(aA.refl _ wx).grown c (λk e=>by cases e;exact τ rfl);exact h.an7 (λk m=>by subst m;exact⟨a.1,a.2.2.2.2⟩) (h.st.aJ b (λe=>a.2.1 e.symm) (λe=>a.2.2.1 e.symm) (λe=>a.2.2.2.1 e.symm)) b
def OM.iff(h:OM w iv dv kN ns ib cb lb B S It wx)(a:∀n,1<=nth n->(S' n↔S n)):OM w iv dv kN ns ib cb lb B S' It wx :=
 ⟨⟨h.st.ctx.iff a,h.st.its,h.st.ne,λn b=>by have:=h.st.ok n b;exact⟨this.1,(a n this.1.2.1).2 this.2⟩⟩,h.new,h.apart,h.bx,h.r0,h.ds,h.src,h.old,h.below⟩
def OM.add{n:Nat}(h:OM w iv dv kN ns ib cb lb B S It wx)(b:jS wy cb lb (λk=>S k\/k=n))(a:aA (λk=>k=cb\/k=lb) wx wy):OM w iv dv kN ns ib cb lb B (λk=>S k\/k=n) It wy:=by have f:=h.new;have e:=h.apart;have c:=h.st.ne;exact h.an7 (M:=λk=>k=cb\/k=lb) (λk m=>V) ⟨b,h.st.its.imp λN g=>g.block (a.block _ g.lt V),c,λk d=>by have:=h.st.ok k d;exact⟨this.1,τ this.2⟩⟩ a
end
open Classical in
noncomputable def nP(It:Nat->Option Value)(left:Value->Prop):Nat->Option Value:=λk=>if left (aW k)then none else It k
def OI(It:Nat->Option Value):nP It (λkey=>(im It key).isSome=true)=λ_=>none:=by
 funext k;unfold nP;by_cases h:(im It (aW k)).isSome=true
 .exact ώ h
 .refine(ύ h).trans ?_;rw[jh]at h;cases hk:It k with
  | none=>rfl
  | some v=>rw[hk]at h;exact absurd rfl h
def SK{left:Value->Prop}(h:∀key,¬left key):nP It left=It:=by funext k;unfold nP;rw[ύ (h _)]
def SL{left:Value->Prop}{n:Nat}(b:It n=some v):nP It (λy=>left y/\¬y=aW n)=λk=>if k=n then some v else nP It left k:=by
 funext k;unfold nP;by_cases e:k=n
 .subst e;rw[ύ (λh=>h.2 rfl),ώ rfl,b]
 .have:¬(aW k=aW n):=λh=>e (iW h);rw[ύ e];by_cases a:left (aW k)
  .rw[ώ ⟨a,this⟩,ώ a]
  .rw[ύ (λh=>a h.1),ύ a]
def OJ(w:World)(io:Option Nat)(dv:Value)(kN:Nat->Option Value)(ns:List Nat)(N0:Nat)(hI:dQ prog 140 w (.map io) N0 (im kN))(ag:∀n v,kN n=some v->Ad v)(af:∀n,kN n≠none->okD n)(hd:dN w dv ns)(hl:ns.length<=1000000)(aq:∀n∈ns,okD n):Calls prog 139 #[.map io,dv] w λe w'=>∃ib cb lb,e=.returned (.agg #[.map (some ib),.map (some cb),.map (some lb)])/\aP w' ib cb lb (λn=>kN n≠none\/n∈ns) kN/\(w.heap.size<=ib/\w.heap.size<=cb/\w.heap.size<=lb)/\Below w.heap.size w w':=by
 have bg:=@run_makeMap prog;have HD:=ω hd;have HI:=ω hI;have b3:J<|∀b,dv.ownBlock=some b->b<w.heap.size:=by
  rcases hd with⟨rfl,_⟩|⟨b,a7,cap,rfl,_,h3,_⟩
  .intro b c6;cases c6
  .intro b' c6;cases c6;exact h3
 have bm:∃j cap,dv=.slice j ns.length cap/\ns.length<=cap:=by
  rcases hd with⟨rfl,rfl⟩|⟨b,a7,cap,rfl,S,_⟩
  .exact⟨none,0,rfl,χ _⟩
  .exact⟨_,cap,rfl,S⟩
 obtain⟨j,cap,bc,bv⟩:=bm;have b4:=ω aq;have b5:=ω ag;have Cj:=ω af;clear hd aq hI ag af;subst bc;go_enter func139,ntmps139;go_wp2_with fail;refine ψ (CW _) ?_;rintro e w1⟨cb,lb,rfl,a2,aj,ap,K⟩;have a8:J<|∀l,l=.cells #[.map (some (w.heap.size+1)),.map (some cb),.map (some lb)] 101->OM w (.map io) (.slice j ns.length cap) kN ns (w.heap.size+1) cb lb w1.heap.size (λ_=>False) (λ_=>none) (w1.alloc l):=λl bj=>by
  subst bj;have e1:(w.alloc (.cells #[.map none,.map none,.map none] 101)).heap.size=w.heap.size+1:=Ω
  have e2:((w.alloc (.cells #[.map none,.map none,.map none] 101)).alloc (.map #[] 0)).heap.size=w.heap.size+2:=Ω
  have m1:=dB.made (w.alloc (.cells #[.map none,.map none,.map none] 101)) prog 140;rw[e1]at m1;rw[e2]at aj ap K;have hs:=K.size;have av:dB prog 140 w1 (w.heap.size+1) 0 (λ_=>none):=m1.block (K.block _ V);have u:aC w1 w.heap.size #[.map none,.map none,.map none] 101:=(K.block _ V).trans ((aC.new w _ _).alloc _);have L:Below w.heap.size w w1:=(((φ _ w).alloc (χ _) _).alloc Ω _).trans (K.mono V);have Q:=(φ _ w1).alloc (χ _) (.cells #[.map (some (w.heap.size+1)),.map (some cb),.map (some lb)] 101);have hx:=a2.below Q;have c1:=a2.lt;refine⟨⟨hx,⟨0,by rw[yh];exact av.block (Q.block _ av.lt)⟩,V,λn hn=>absurd rfl hn⟩,V,V,aC.new w1 _ _,⟨_,_,_,u.below Q⟩,HD.o.below (L.trans (Q.mono L.size)),⟨N0,HI.o.below (L.trans (Q.mono L.size))⟩,⟨b3.o,HI.o.lt⟩,L.trans (Q.mono L.size)⟩
 clear HD HI a2 aj ap K bg;have f:=a8.o _ rfl;have B:J<|OM w (.map io) (.slice j ns.length cap) kN ns (w.heap.size+1) cb lb w1.heap.size (λ_=>False) (λ_=>none) _:=f;obtain⟨Y,ai⟩:=f.src;have bo:w1.heap.size<(w1.alloc (.cells #[.map (some (w.heap.size+1)),.map (some cb),.map (some lb)] 101)).heap.size:=Ω
 have bx:=f.new;have b6:=f.st.lt;clear a8 f;simp only[ϊ]at b6;go_wp2_with (first|(at_range;refine fV rfl (.tmp 13) 95 rfl 85 jE underlying95 rfl ai ?_;intro w3 a5 ak bk;have ah:OM w (.map io) (.slice j ns.length cap) kN ns (w.heap.size+1) cb lb w1.heap.size (λ_=>False) (λ_=>none) w3:=(B.o.mono ((φ _ _).grown ak (χ _) (λk e=>by cases e)));rw[ϊ]at a5⊢;clear B ai ak bk;go_frame));go_loopg [6] Y (λg v6 wx=>∃(left:Value->Prop)(q:Nat),g=q/\bY prog 140 wx (.map io) (w1.heap.size+1) Y (im kN) left q/\OM w (.map io) (.slice j ns.length cap) kN ns (w.heap.size+1) cb lb w1.heap.size (λk=>nP kN left k≠none) (nP kN left) wx);case atStart =>refine⟨_,_,rfl,a5, ?_⟩;rw[OI];exact ah.iff (λn _=>Ω)
 case round =>
  obtain⟨left,q,hq,hR,hJ⟩:=hrel;have X:=ω hR;have W:=ω hJ;have qM:J<|∀key v,left key->im kN key=some v->∃x:Nat×ByteArray×Int×ByteArray×Int,key=(λx:Nat×ByteArray×Int×ByteArray×Int=>aW x.1) x/\v=(λx:Nat×ByteArray×Int×ByteArray×Int=>Value.agg #[.string x.2.1,.int .u8 x.2.2.1,.string x.2.2.2.1,I x.2.2.2.2]) x:=λkey v _ h=>by obtain⟨n,h1,S⟩:=oZ h;obtain⟨E,G,F,H,h3⟩:=b5.o n v S;exact⟨(n,E,G,F,H),h1,h3⟩
  clear hR hJ a5 ah;go_wp2_with (first|(at_next;(refine gU rfl (.tmp 14) rfl jE (λx:Nat×ByteArray×Int×ByteArray×Int=>aW x.1) (λx:Nat×ByteArray×Int×ByteArray×Int=>Value.agg #[.string x.2.1,.int .u8 x.2.2.1,.string x.2.2.2.1,I x.2.2.2.2]) rfl X.o qM.o ?_ ?_)))
  .intro be;have hK:OM w (.map io) (.slice j ns.length cap) kN ns (w.heap.size+1) cb lb w1.heap.size (λk=>kN k≠none\/k∈ns.take 0) kN wr:=by have:=W.o;rw[SK be]at this;exact this.iff (λn _=>Ω)
   have HK:=ω hK;clear X W qM hK;go_wp2_with fail;go_loopg [30] ns.length (λg bn wx=>∃i:Nat,i+g=ns.length/\bn=I i/\OM w (.map io) (.slice j ns.length cap) kN ns (w.heap.size+1) cb lb w1.heap.size (λk=>kN k≠none\/k∈ns.take i) kN wx);case atStart=>exact⟨0,V,rfl,HK.o⟩
   case round =>
    obtain⟨i,bz,rfl,f⟩:=hrel;have B:=ω f;clear HK;by_cases P:i<ns.length
    .obtain⟨b,a7,bt,hv,bw,c6,a3⟩:=f.ds.resolve_left (λC=>by rw[C.2]at P;simp at P);simp only[ϑa]at hv;obtain⟨rfl,_,rfl⟩:=hv;have k0:=(a3 i P).1;have k1:=(a3 i P).2;have bi:=b4.o _ (κ P);have ba:=ν P;have b8:∀o,(wr.alloc o).cell? (O w1.heap.size 1)=some (.map (some cb)):=λo=>((B.o.bx.alloc o).cell 1).trans rfl;have b9:∀o,(wr.alloc o).cell? (O w1.heap.size 2)=some (.map (some lb)):=λo=>((B.o.bx.alloc o).cell 2).trans rfl;have Fb:J<|∀wx,Below wr.heap.size wr wx->Calls prog 194 #[.agg #[.map (some cb),.map (some lb)],aW ns[i]] wx λe w'=>e=.returned (.tuple #[])/\OM w (.map io) (.slice (some (O b a7)) ns.length cap) kN ns (w.heap.size+1) cb lb w1.heap.size (λk=>kN k≠none\/k∈ns.take (i+1)) kN w':=λwx c6=>by have ac:=B.o.mono c6;refine ψ (add_any wx cb lb ns[i] _ ac.st.ctx bi) ?_;rintro e w'⟨rfl,h1,S⟩;exact⟨rfl,(ac.add h1 S).iff (λn _=>by rw[ba,θ,ϑe,or_assoc])⟩
     generalize ns[i]=n at *;clear f a3;go_wp2_with fail;refine ψ (Fb.o _ ?_) ?_
     .go_grown
     rintro e w7⟨rfl,ad⟩;have aw:=ω ad;clear ad Fb b8 b9 k0 k1;go_wp2_with fail;go_roundg (ns.length-(i+1));case measure=>omega
     case rel=>exact⟨i+1,V,Λ,aw.o⟩
    .have b0:=(f.bx.cell 0).trans rfl;have b1:=(f.bx.cell 1).trans rfl;have b2:=(f.bx.cell 2).trans rfl;obtain⟨u0,u1,u2,u⟩:=f.r0;have r0:=(u.cell 0).trans rfl;have r1:=(u.cell 1).trans rfl;have r2:=(u.cell 2).trans rfl;have f0:=u.frozen;have hw:=f.below.size;have hn:=f.new;have HF:J<|∀wx,aA (λk=>k=w.heap.size) wr wx->aP wx (w.heap.size+1) cb lb (λn=>kN n≠none\/n∈ns) kN:=λwx hc=>by have C:=B.o.st.aJ hc V V V;rw[ϑg V]at C;exact C
     have HB:=ω B.o.below;clear f u;go_wp2_with fail;refine ϐ (v:=.agg #[.map (some (w.heap.size+1)),.map (some cb),.map (some lb)]) (by simp[results,Tryz.results139,go_sem,r0,r1,r2,bV,aT,World.cell?_setCell_other]) rfl ⟨_,_,_,rfl,HF.o _ ?_,V, ?_⟩
     .exact(((aA.refl (λk=>k=w.heap.size) wr).setCell (p:=(z w.heap.size)) rfl _).setCell (p:=(O w.heap.size 1)) rfl _).setCell (p:=(O w.heap.size 2)) rfl _
     .exact((HB.o.setCell (p:=(z w.heap.size)) (χ _) _).setCell (p:=(O w.heap.size 1)) (χ _) _).setCell (p:=(O w.heap.size 2)) (χ _) _
  .intro n E G F H c q4 c0 bf lV c2 al bl br;have ae:kN n=some (.agg #[.string E,.int .u8 G,.string F,I H]):=by rw[<- jh kN n];exact bf
   have a4:=Cj.o n (by rw[ae];simp);obtain⟨kl,bd⟩:=keyE n (by have:=a4.1;omega);have c4:w1.heap.size+1<c.heap.size:=by have:=X.o.lt;omega
   have t:J<|OM w (.map io) (.slice j ns.length cap) kN ns (w.heap.size+1) cb lb w1.heap.size (λk=>nP kN left k≠none) (nP kN left) c:=W.o.turn al V;have aa:=ω lV;have R:J<|nP kN (λy=>left y/\¬y=aW n)=λk=>if k=n then some (.agg #[.string E,.int .u8 G,.string F,I H])else nP kN left k:=SL ae;have bb:Below c.heap.size c ((c.alloc (.cells #[I (who n),I (nth n)] 140)).alloc (.cells #[.string E,.int .u8 G,.string F,I H] 85)):=Γ
   have a1:J<|∀l s,OM w (.map io) (.slice j ns.length cap) kN ns (w.heap.size+1) cb lb w1.heap.size (λk=>nP kN left k≠none) (nP kN left) ((c.alloc l).alloc s):=λl s=>t.o.mono (((φ _ c).alloc (χ _) l).alloc Ω s);have ab:J<|∀l s,bY prog 140 ((c.alloc l).alloc s) (.map io) (w1.heap.size+1) Y (im kN) (λy=>left y/\¬y=aW n) q4:=λl s=>aa.o.aJ (M:=λ_=>False) (aA.of_below (((φ _ c).alloc (χ _) l).alloc Ω s)) (λ_ _ C=>C) (λC=>C);have ar:J<|∀s,aC ((c.alloc (.cells #[I (who n),I (nth n)] 140)).alloc s) c.heap.size #[I (who n),I (nth n)] 140:=λs=>(aC.new c _ _).alloc _;have bs:∀o a,((c.alloc o).alloc a).cell? (z w1.heap.size)=some (.map (some (w.heap.size+1))):=λo a=>(((t.o.bx.alloc o).alloc a).cell 0).trans rfl;obtain⟨Nj,Z⟩:=t.o.st.its;have bu:=jY Z (λk h=>(t.o.st.ok k h).1);have bh:Nj<maxLen:=by unfold maxLen;omega
   have az:J<|∀o a,dB prog 140 ((c.alloc o).alloc a) (w.heap.size+1) Nj (im (nP kN left)):=λo a=>Z.block ((((φ _ c).alloc (χ _) o).alloc Ω a).block _ Z.lt);clear lV al X W qM Z bb;have bp:=t.o.st.ne;have bq:=t.o.apart;have c3:=t.o.new;have b7:=t.o.old.2;have HP:J<|∀o a w6 N6,((c.alloc o).alloc a).grownBy w6 (some (w.heap.size+1))->dB prog 140 w6 (w.heap.size+1) N6 (upd (im (nP kN left)) (aW n) (.agg #[.string E,.int .u8 G,.string F,I H]))->∀w7,jS w7 cb lb (λk=>nP kN left k≠none\/k=n)->aA (λk=>k=cb\/k=lb) w6 w7 ->
     OM w (.map io) (.slice j ns.length cap) kN ns (w.heap.size+1) cb lb w1.heap.size (λk=>nP kN (λy=>left y/\¬y=aW n) k≠none) (nP kN (λy=>left y/\¬y=aW n)) w7/\bY prog 140 w7 (.map io) (w1.heap.size+1) Y (im kN) (λy=>left y/\¬y=aW n) q4:=λo a w6 N6 c7 U w7 a0 A=>by
    have d:=a1.o o a;have D:aA (λk=>k=w.heap.size+1) ((c.alloc o).alloc a) w6:=(aA.refl _ _).grown c7 (λk e=>by cases e;exact τ rfl);have r:aA (λk=>k=w.heap.size+1\/k=cb\/k=lb) ((c.alloc o).alloc a) w7:=aA.trans (b:=w6) ⟨D.os,D.tape,D.output,D.size,λk h hm=>D.block k h (λe=>hm (τ e))⟩ ⟨A.os,A.tape,A.output,A.size,λk h hm=>A.block k h (λe=>hm (υ e))⟩;constructor
    .obtain⟨u0,u1,u2,u⟩:=d.r0;obtain⟨N,hN⟩:=d.src;have T:∀k,(k=w.heap.size+1\/k=cb\/k=lb)->w.heap.size<k/\k≠w1.heap.size:=λk m=>V
     refine⟨⟨a0.iff (λk _=>?_),⟨N6, ?_⟩,d.st.ne,λk h=>?_⟩,d.new,d.apart,d.bx.aJ r (λm=>(T _ m).2 rfl),⟨u0,u1,u2,u.aJ r (λm=>by have:=T _ m;omega)⟩,d.ds.aJ r (λb c6 m=>by have:=T _ m;have:=d.old.1 b c6;omega),⟨N,hN.aJ r (λb c6 m=>by have:=T _ m;have:=d.old.2 b c6;omega)⟩,d.old, ?_⟩
     .rw[R.o];by_cases e:k=n
      .subst e;simp
      .simp[e]
     .rw[R.o,<- IJ];exact U.block (A.block _ U.lt V)
     .rw[R.o]at h;by_cases e:k=n
      .subst e;exact⟨a4,by rw[R.o];simp⟩
      .have an:nP kN left k≠none:=by simpa[e]using h
       exact⟨(d.st.ok k an).1,by rw[R.o];simpa[e]using an⟩
     .exact d.below.trans ⟨r.os,r.tape,r.output,r.size,λk h=>r.block k (ο h d.below.size) (λm=>by have:=T _ m;omega)⟩
    .exact(ab.o o a).aJ r (λb c6 m=>by have:=b7 b c6;omega) V
   have HC:J<|∀o a w6,((c.alloc o).alloc a).grownBy w6 (some (w.heap.size+1))->jS w6 cb lb (λk=>nP kN left k≠none)/\aC w6 w1.heap.size #[.map (some (w.heap.size+1)),.map (some cb),.map (some lb)] 101:=λo a w6 c7=>by have d:=a1.o o a;have D:aA (λk=>k=w.heap.size+1) ((c.alloc o).alloc a) w6:=(aA.refl _ _).grown c7 (λk e=>by cases e;exact τ rfl);exact⟨d.st.ctx.aJ D V V,d.bx.grown c7 V⟩
   have ax:J<|∀a w6,((c.alloc (.cells #[I (who n),I (nth n)] 140)).alloc a).grownBy w6 (some (w.heap.size+1))->aC w6 wr.heap.size #[I (who n),I (nth n)] 140:=λa w6 c7=>by rw[<- bl];exact(ar.o a).grown c7 V
   clear a1 ab ar t aa;go_wp2_with (first|(at_mapUpdate;(refine iM rfl (.tmp 21) (.tmp 22) (.tmp 23) 95 rfl 85 jE underlying95 rfl (az.o _ _) bh (aW n) (.agg #[.string E,.int .u8 G,.string F,I H]) _ rfl rfl bd ?_;intro w6 U c7 c5;have hP:=HP.o _ _ _ _ c7 U;have qL:=HC.o _ _ _ c7;have a6:=ax.o _ _ c7;have b1:=(qL.2.cell 1).trans rfl;have b2:=(qL.2.cell 2).trans rfl;have d0:=(a6.cell 0).trans rfl;have d1:=(a6.cell 1).trans rfl;have a9:J<|_:=hP;clear hP)));refine ψ (add_any w6 cb lb n _ qL.1 a4) ?_;rintro e w7⟨rfl,a0,A⟩;have HQ:J<|_:=a9.o w7 a0 A;clear qL a6 b1 b2 d0 d1 a9 a0 A;go_wp2_with fail;go_roundg q4;case measure=>omega
   case rel=>exact⟨_,q4,rfl,HQ.o.2,HQ.o.1⟩
def OL{P:Program}{k:TypeId}{b:Nat}{ops:Array Oper}{rest:List Oper}{o:Oper}{a:Act}{Q:Exit->Act->World->Prop}(g:o.guard=none)(c x v:Operand)(t:TypeId)(n:o.op=Op.insert t c x v)(e:TypeId)(K:Keyed P k)(q:P.underlying t=some (.map k e))(j:a.eval c=.map (some b))(h:dB P k w b N m)(l:N<maxLen)(key val:Value)(u:Lit)(s:a.eval x=key)(r:a.eval v=val)(i:keyOf P k key=some u)(d:∀w',dB P k w' b (if(m key).isSome then N else N+1) (upd m key val)->w.grownBy w' (some b)->w'.heap.size=w.heap.size->wpList P ops Q rest (a.put o.dst undef) w'):wpList P ops Q (o::rest) a w:=by refine wpList_plain g λC f=>?_;obtain⟨w',p,y,A,B⟩:=h.store K q l val i;unfold Oper.wp;simp[execOp,n,j,s,r,p,Result.andThen];exact f _ _ (d w' y A B)
def sF(w:World)(dv:Value)(ns:List Nat)(g:dN w dv ns)(x:ns.length<=1000000)(q:∀n∈ns,okD n):Calls prog 79 #[dv] w λe w'=>∃ib cb lb,e=.returned (.agg #[.map (some ib),.map (some cb),.map (some lb)])/\aP w' ib cb lb (λn=>n∈ns) (λ_=>none)/\(w.heap.size<=ib/\w.heap.size<=cb/\w.heap.size<=lb)/\Below w.heap.size w w':=by
 have y:∃d cap,dv=.slice d ns.length cap:=by
  rcases g with⟨rfl,rfl⟩|⟨D,E,cap,rfl,l,_⟩
  .exact⟨none,0,rfl⟩
  .exact⟨_,cap,rfl⟩
 obtain⟨d,cap,u⟩:=y;subst u;have j:J<|∀c,Calls prog 139 #[.map none,.slice d ns.length cap] (w.alloc c) λe w'=>∃ib cb lb,e=.returned (.agg #[.map (some ib),.map (some cb),.map (some lb)])/\aP w' ib cb lb (λn=>n∈ns) (λ_=>none)/\(w.heap.size<ib/\w.heap.size<cb/\w.heap.size<lb)/\Below (w.heap.size+1) (w.alloc c) w':=λc=>by have a:Below w.heap.size w (w.alloc c):=(φ _ w).alloc (χ _) _;refine ψ (OJ (w.alloc c) none (.slice d ns.length cap) (λ_=>none) ns 0 (τ ⟨rfl,rfl,yh⟩) (λn v h=>by cases h) (λn h=>absurd rfl h) (g.below a) x q) ?_;rintro e w'⟨ib,cb,lb,rfl,f,l,m⟩;simp only[ϊ]at l m;refine⟨ib,cb,lb,rfl,⟨f.ctx.iff (λn _=>Ω),f.its,f.ne,λn o=>absurd rfl o⟩,V,m⟩
 clear g q;go_enter func79,ntmps79;go_wp2_with fail;refine ψ (j.o _) ?_;rintro e i⟨ib,cb,lb,rfl,r,o,a⟩;have b:aC i w.heap.size #[.map none,.map none,.map none] 101:=(a.block _ V).trans (aC.new w _ _);have A:=(b.cell 0).trans rfl;have B:=(b.cell 1).trans rfl;have C:=(b.cell 2).trans rfl;have f0:=b.frozen;have s:J<|Below w.heap.size w i:=((φ _ w).alloc (χ _) _).trans (a.mono V);have t:=ω r;clear r a b j;go_wp2_with fail;refine ϐ (v:=.agg #[.map (some ib),.map (some cb),.map (some lb)]) (by simp[results,Tryz.results79,go_sem,A,B,C,bV,aT,World.cell?_setCell_other]) rfl ⟨_,_,_,rfl,t.o.aJ (M:=λk=>k=w.heap.size) ?_ V V V,V, ?_⟩
 .exact(((aA.refl (λk=>k=w.heap.size) i).setCell (p:=(z w.heap.size)) rfl _).setCell (p:=(O w.heap.size 1)) rfl _).setCell (p:=(O w.heap.size 2)) rfl _
 .exact((s.o.setCell (p:=(z w.heap.size)) (χ _) _).setCell (p:=(O w.heap.size 1)) (χ _) _).setCell (p:=(O w.heap.size 2)) (χ _) _
def Zi(w:World)(n:Nat)(o q c2 r:Value)(y:okD n)(T:∃c f d g,o=.string c/\q=.int .u8 f/\c2=.string d/\r=I g):Calls prog 82 #[aW n,.agg #[o,q,c2,r]] w λe w'=>∃ib cb lb,e=.returned (.agg #[.map (some ib),.map (some cb),.map (some lb)])/\aP w' ib cb lb (λk=>k=n) (λk=>if k=n then some (.agg #[o,q,c2,r])else none)/\(w.heap.size<=ib/\w.heap.size<=cb/\w.heap.size<=lb)/\Below w.heap.size w w':=by
 obtain⟨c,f,d,g,rfl,rfl,rfl,rfl⟩:=T;obtain⟨kl,R⟩:=keyE n (by have:=y.1;omega);have Z:=@run_makeMap prog;have B:J<|∀a b A,dB prog 140 ((((w.alloc a).alloc b).alloc A).alloc (.map #[] 0)) (w.heap.size+1+1+1) 0 (λ_=>none):=λa b A=>by have:=dB.made (((w.alloc a).alloc b).alloc A) prog 140;simpa using this
 have C:J<|∀wx N m,dB prog 140 wx (w.heap.size+1+1+1) N m->m=upd (λ_=>none) (aW n) (.agg #[.string c,.int .u8 f,.string d,I g])->Calls prog 139 #[.map (some (w.heap.size+1+1+1)),.slice none 0 0] wx λe w'=>∃ib cb lb,e=.returned (.agg #[.map (some ib),.map (some cb),.map (some lb)])/\aP w' ib cb lb (λk=>k=n) (λk=>if k=n then some (.agg #[.string c,.int .u8 f,.string d,I g])else none)/\(wx.heap.size<=ib/\wx.heap.size<=cb/\wx.heap.size<=lb)/\Below wx.heap.size wx w':=λwx N m D Q=>by
  have S:m=im (λk=>if k=n then some (.agg #[.string c,.int .u8 f,.string d,I g])else none):=by rw[Q,<- yh,IJ]
  rw[S]at D;refine ψ (OJ wx (some (w.heap.size+1+1+1)) (.slice none 0 0) _ [] N (υ ⟨_,rfl,D⟩) (λk v h=>?_) (λk h=>?_) (τ ⟨rfl,rfl⟩) Ω (λk j=>by cases j)) ?_
  .split at h
   .cases h;exact⟨_,_,_,_,rfl⟩
   .cases h
  .by_cases e:k=n
   .subst e;exact y
   .rw[ύ e]at h;exact absurd rfl h
  .rintro e w'⟨ib,cb,lb,rfl,t,L,P⟩;refine⟨ib,cb,lb,rfl,⟨t.ctx.iff (λk _=>?_),t.its,t.ne,λk j=>?_⟩,L,P⟩
   .by_cases e:k=n<;>simp[e]
   .by_cases e:k=n
    .subst e;exact⟨y,rfl⟩
    .rw[ύ e]at j;exact absurd rfl j
 have F:J<|∀a b,aC ((w.alloc a).alloc b |>.alloc (.cells #[.map none,.map none,.map none] 101)) (w.heap.size+1+1) #[.map none,.map none,.map none] 101:=λa b=>by have:=aC.new ((w.alloc a).alloc b) #[.map none,.map none,.map none] 101;simpa using this
 go_enter func82,ntmps82;go_wp2_with (first|(refine OL rfl (.tmp 5) (.tmp 6) (.tmp 7) 95 rfl 85 jE underlying95 rfl (B.o _ _ _) (by unfold maxLen;omega) (aW n) (.agg #[.string c,.int .u8 f,.string d,I g]) _ rfl rfl R ?_;intro w6 l s a1;have G:=((F.o _ _).alloc (.map #[] 0)).grown s V;have u:Below w.heap.size w w6:=(Below.grown (w:=((((w.alloc _).alloc _).alloc _).alloc (.map #[] 0))) Γ s Θ (λk e=>by cases e;omega))));refine ψ (C.o w6 _ _ l rfl) ?_;rintro e Y⟨ib,cb,lb,rfl,E,a0,x⟩;have i:=G.below x;have a2:=l.lt;have U:=(i.cell 0).trans rfl;have W:=(i.cell 1).trans rfl;have X:=(i.cell 2).trans rfl;have f0:=i.frozen;have H:=ω<|u.trans (x.mono u.size)
 have K:=ω E;clear E x G i C l s u F B;go_wp2_with fail;refine ϐ (v:=.agg #[.map (some ib),.map (some cb),.map (some lb)]) (by simp[results,Tryz.results82,go_sem,U,W,X,bV,aT,World.cell?_setCell_other]) rfl ⟨_,_,_,rfl,K.o.aJ (M:=λk=>k=w.heap.size+1+1) ?_ V V V,V, ?_⟩
 .exact(((aA.refl (λk=>k=w.heap.size+1+1) Y).setCell (p:=(z (w.heap.size+1+1))) rfl _).setCell (p:=(O (w.heap.size+1+1) 1)) rfl _).setCell (p:=(O (w.heap.size+1+1) 2)) rfl _
 .exact((H.o.setCell (p:=(z (w.heap.size+1+1))) (by show w.heap.size<=w.heap.size+1+1;omega) _).setCell (p:=(O (w.heap.size+1+1) 1)) (by show w.heap.size<=w.heap.size+1+1;omega) _).setCell (p:=(O (w.heap.size+1+1) 2)) (by show w.heap.size<=w.heap.size+1+1;omega) _
