import Derived.Test.YtfmmllpjgkgeaabGreatDoorZ42
set_option linter.all false
set_option maxHeartbeats 0
set_option maxRecDepth 100000
namespace Go.Proofs.YtfmmllpjgkgeaabGreatDoor
section
open Go.Proofs.Tryz Go.RowKit Go.Maps Go.WideMaps Go.Shelf
def RD.woken(r:RD)(io co lo:Nat)(d:Dd):RD:={ r with io:=some io,co:=some co,lo:=some lo,pv:=.slice none 0 0,dr:=aF d.K,A:=λ_=>0,ps:=[],K:=d.K,C:=d.C,n:=d.n,dd:=none }
def AQ{B:Nat}{r:RD}{io co lo:Nat}{d:Dd}(h:B<=io/\B<=co/\B<=lo):jo B r (r.woken io co lo d):=⟨rfl,rfl,id,rfl,(yS h).own⟩
def Yi(w:World)(q:Glob w)(r:RD)(d:Dd)(h:cO w r)(s:r.dd=some d)(B:4<=r.rb):Calls prog 106 #[.pointer (some (z r.rb))] w λe w'=>e=.returned (.tuple #[])/\∃f a g:Nat,cO w' (r.woken f a g d)/\(w.heap.size<=f/\w.heap.size<=a/\w.heap.size<=g)/\aA r.own w w':=by
 have F:=(h.blk.cell 6).trans rfl;have G:=h.blk.frozen;have t:r.xH=d:=by unfold RD.xH;rw[s];(first|done|rfl)
 have j:aA (λk=>k=r.rb) w (w.setCell (O r.rb 6) (.bool false)):=(aA.refl (λk=>k=r.rb) w).setCell (p:=(O r.rb 6)) rfl _;have m:J<|_:=Gz (w.setCell (O r.rb 6) (.bool false)) (q.Ed j (λk e=>by subst e;exact B)) { r with K:=d.K,C:=d.C,n:=d.n,dd:=none } (by
  obtain⟨E,D,b,c⟩:=h.xH;have i:=h.n;have l:=h.dg;rw[t]at b c i l;obtain⟨H,y⟩:=b.blk;obtain⟨N,x⟩:=h.kept.ack;refine⟨?_, ?_,⟨E,D,b.aJ j (jU y h.blk Ψ),c⟩,l.1,l.2,h.a5,i,rfl⟩
  .have:=h.blk;unfold aC at this⊢;simp[World.setCell,μ,this]
  .exact h.kept.Uo j (λe=>jU h.blk h.kept.blk Ψ e.symm) (λk A e=>row_ne h.blk h.kept.row Ψ (e▸A)) (λe=>x.l7 (e▸h.blk)) (λk e _=>by subst e;exact⟨_,_,_,h.blk⟩))
 have o:J<|aA r.own w (w.setCell (O r.rb 6) (.bool false))/\(w.setCell (O r.rb 6) (.bool false)).heap.size=w.heap.size:=⟨j.mono (λk _ e=>τ e),Ω⟩;clear h q j t s;go_enter func106,ntmps106;go_wp2_with fail;refine ψ m.o ?_;rintro e u⟨rfl,f,a,g,b,c,i⟩;have v:J<|cO u (r.woken f a g d)/\(w.heap.size<=f/\w.heap.size<=a/\w.heap.size<=g)/\aA r.own w u:=⟨b,by rw[o.o.2]at c;exact c,o.o.1.trans i⟩;clear m b c i;go_wp2;exact bodyPost_end (results_none rfl _ _ _) rfl ⟨rfl,f,a,g,v.o⟩
def U1(w:World)(r:RD)(hF:cO w r)(j:Int):Calls prog 105 #[.pointer (some (z r.rb)),I j] w λe w'=>e=.returned (.tuple #[])/\cO w' { r with cut:=true,k:=j }/\aA r.own w w':=by
 have v:=(hF.blk.cell 5).trans rfl;obtain⟨o,n,d,m⟩:=hF.xH;have f:J<|_:=PG w r.db r.xH.n _ r.cut r.k j d;have g:J<|∀w',aA (λk=>k=r.db) w w'->gy w' r.db r.xH.n (encS o n) true j->cO w' { r with cut:=true,k:=j }/\aA r.own w w':=λw' b a=>by obtain⟨x,l⟩:=d.blk;have c:=hF.D7;refine⟨⟨hF.blk.aJ b (λe=>c.1 e.symm),⟨hF.st.r.aJ b (λu q e=>?_),hF.st.b⟩,hF.kept.Uo b (λe=>c.2.1 e.symm) (λk s e=>c.2.2.1 (e▸s)) (λe=>c.2.2.2.1 e.symm) (λk e _=>by subst e;exact⟨_,_,_,l⟩),⟨o,n,a,m⟩,hF.apart,hF.nI,hF.a5,hF.n,hF.dg⟩,b.mono (λk _ e=>υ (υ (υ e)))⟩;subst e;exact hF.st.r.gV (by rcases q with h|h|h<;>simp only[Value.map.injEq]at h<;>simp[h]) l
 clear hF d m;go_enter func105,ntmps105;go_wp2_with fail;refine ψ f.o ?_;rintro e t⟨rfl,a,i⟩;have p:J<|_:=g.o t i a;clear f g a i;go_wp2;exact bodyPost_end (results_none rfl _ _ _) rfl ⟨rfl,p.o⟩
end
section
open Go.Proofs.Tryz Go.RowKit Go.Maps Go.WideMaps Go.MuLone Go.Deep
def RD.armed(r:RD)(j:Int):RD:={ r with cut:=true,k:=j }
def AU{B:Nat}{r:RD}{j:Int}(a:¬j<0):jo B r (r.armed j):=⟨rfl,rfl,λ_=>υ ⟨rfl,j.toNat,by show j=_;omega⟩,rfl,λ_ h=>τ h⟩
def Ry(ds:List bI)(i j r:Int)(ds':List bI):Prop :=
 (aK ds i≠0/\r=aK ds i/\ds'=ds)\/(aK ds i=0/\j<0/\r=1/\ds'=ds)\/∃(k:Nat)(hk:k<ds.length),i=(k:Int)/\aK ds (k:Int)=0/\¬j<0/\r=0/\ds'=ds.set k (ds[k].armed j)
def U2(w:World)(x q d:Nat)(n:Value)(ds:List bI)(m:List (Nat×ByteArray))(g:aV w x q d n 0 ds m)(i j:Int):Calls prog 56 #[.pointer (some (z x)),I i,I j] w λe w'=>∃r D,e=.returned (I r)/\Ry ds i j r D/\aV w' x q d n 0 D m/\aA (fK x ds) w w':=by
 have H:w.cell? (z x)=some (.int .i32 0):=(g.blk.cell 0).trans rfl;have N:=g.blk.frozen 0;have a:=ω<|g.turn 1
 have W:=g.len;clear g;go_enter_defers func56,ntmps56;go_wp2_with (go_at_call 30;refine(lock_free muLib (z x) _ H N).mono ?_;rintro e w'⟨rfl,rfl⟩);have t:Below (w.setCell (z x) (.int .i32 1)).heap.size (w.setCell (z x) (.int .i32 1)) ((w.setCell (z x) (.int .i32 1)).alloc (.cells #[I i] 3)):=(φ _ _).alloc (χ _) _;have F:((w.setCell (z x) (.int .i32 1)).alloc (.cells #[I i] 3)).cell? (z w.heap.size)=some (I i):=by have:=(aC.new (w.setCell (z x) (.int .i32 1)) #[I i] 3).cell 0;simpa using this
 have u:=(gZ (M:=λk=>k=x) rfl _).below t;have l:=a.o.below t;refine ψ (lD _ x q d n 1 ds m l w.heap.size i F) ?_;rintro e y⟨rfl,G⟩;rw[<- G]at l u;clear F t G a H N;have a:=ω l;have o:=ω u;clear l u;by_cases b:aK ds i=0
 .have B:J<|_:=b;obtain⟨k,rfl,h,_⟩:=gK b;rw[b];clear b;by_cases v:j<0
  .have c:J<|Ry ds (k:Int) j 1 ds:=υ (τ ⟨B.o,v,rfl,rfl⟩);go_wp2_with fail;refine leaves_cons (f:=31) (args:=#[.pointer (some (z x))]) Ω (by simp[go_sem]) ?_;refine(unlock_deferred muLib (z x) .returning _ ((a.o.blk.cell 0).trans rfl) (a.o.blk.frozen 0)).mono ?_;rintro e K L⟨rfl,rfl,rfl⟩;exact⟨_,results_tmp rfl _ _ _,_,ds,rfl,c.o,a.o.turn 0,aA.setCell (M:=fK x ds) (p:=(z x)) (o.o.wide (λk e=>τ e)) (τ rfl) _⟩
  have P:y.cell? (O x 2)=some (.slice (some (z q)) ds.length d):=(a.o.blk.cell 2).trans rfl;have U:=a.o.cap;have Q:=a.o.cell k h;have C:J<|Calls prog 105 #[.pointer (some (z (ds[k].rb))),I j] y λe w'=>e=.returned (.tuple #[])/\J (aV w' x q d n 1 (ds.set k (ds[k].armed j)) m/\aA (fK x ds) w w'):=by refine ψ (U1 y ds[k] (a.o.rep k h) j) ?_;rintro e w'⟨rfl,S,E⟩;exact⟨rfl,a.o.renew k h S (AU v) E,(o.o.wide (λ_ e=>τ e)).then (E.wide (λ_ e=>υ ⟨k,h,e⟩))⟩
  have c:J<|Ry ds (k:Int) j 0 (ds.set k (ds[k].armed j)):=υ (υ ⟨k,h,rfl,B.o,v,rfl,rfl⟩);clear o a;go_wp2_with fail;refine ψ C.o ?_;rintro e Y⟨rfl,A⟩;have s:=ω A.o.1;clear C P Q;go_wp2_with fail;refine leaves_cons (f:=31) (args:=#[.pointer (some (z x))]) Ω (by simp[go_sem]) ?_;refine(unlock_deferred muLib (z x) .returning _ ((s.o.blk.cell 0).trans rfl) (s.o.blk.frozen 0)).mono ?_;rintro e K L⟨rfl,rfl,rfl⟩;exact⟨_,results_tmp rfl _ _ _,_,_,rfl,c.o,s.o.turn 0,aA.setCell (M:=fK x ds) (p:=(z x)) A.o.2 (τ rfl) _⟩
 .have c:J<|∀r,r=aK ds i->Ry ds i j r ds:=λr R=>τ ⟨b,R,rfl⟩;have T:=(gY ds i).resolve_left b;generalize aK ds i=X at *;rcases T with rfl|rfl
  all_goals
  clear b;go_wp2_with fail;refine leaves_cons (f:=31) (args:=#[.pointer (some (z x))]) Ω (by simp[go_sem]) ?_;refine(unlock_deferred muLib (z x) .returning _ ((a.o.blk.cell 0).trans rfl) (a.o.blk.frozen 0)).mono ?_;rintro e K L⟨rfl,rfl,rfl⟩;exact⟨_,results_tmp rfl _ _ _,_,ds,rfl,c.o _ rfl,a.o.turn 0,aA.setCell (M:=fK x ds) (p:=(z x)) (o.o.wide (λk e=>τ e)) (τ rfl) _⟩
def Yj(B:Nat)(ds:List bI)(i r:Int)(ds':List bI):Prop :=
 (¬(0<=i/\i<ds.length)/\r=2/\ds'=ds)\/(∃(k:Nat)(hk:k<ds.length),i=(k:Int)/\ds[k].dd=none/\r=10/\ds'=ds) \/
 ∃(k:Nat)(hk:k<ds.length)(d:Dd)(io co lo:Nat),i=(k:Int)/\ds[k].dd=some d/\r=0/\(B<=io/\B<=co/\B<=lo)/\ds'=ds.set k (ds[k].woken io co lo d)
def U3(w:World)(F:Glob w)(x q l:Nat)(C:Value)(ds:List bI)(B:List (Nat×ByteArray))(o:aV w x q l C 0 ds B)(a4:∀k(c:k<ds.length),4<=ds[k].rb)(i:Int):Calls prog 58 #[.pointer (some (z x)),I i] w λe w'=>∃r v,e=.returned (I r)/\Yj w.heap.size ds i r v/\aV w' x q l C 0 v B/\aA (fK x ds) w w':=by
 have P:w.cell? (z x)=some (.int .i32 0):=(o.blk.cell 0).trans rfl;have R:=o.blk.frozen 0;have b:=o.turn 1;have y:aA (λk=>k=x) w (w.setCell (z x) (.int .i32 1)):=gZ (M:=λk=>k=x) rfl _;have a7:=o.cap;have yE:=o.len;have a6:=o.x4;have a5:(w.setCell (z x) (.int .i32 1)).heap.size=w.heap.size:=Ω
 clear o;generalize Y:w.setCell (z x) (.int .i32 1)=A at *;have L:=ω Y;clear Y;have n:=ω b;have Q:=ω y;have W:A.cell? (O x 2)=some (.slice (some (z q)) ds.length l):=(b.blk.cell 2).trans rfl;have h:J<|_:=wB A x q l ds.length W i;have K:J<|∀v g,aV g x q l C 1 v B->aA (fK x ds) w g->aV (g.setCell (z x) (.int .i32 0)) x q l C 0 v B/\aA (fK x ds) w (g.setCell (z x) (.int .i32 0)):=λv g D E=>⟨D.turn 0,aA.setCell (M:=fK x ds) (p:=(z x)) E (τ rfl) _⟩;by_cases a9:0<=i/\i<ds.length
 .obtain⟨k,rfl⟩:=Int.eq_ofNat_of_zero_le a9.1;have c:k<ds.length:=V
  have j:=h.o;rw[decide_eq_true a9]at j;have h:J<|_:=j;have cq:=b.cell k c;have a:=D8 A ds[k] (b.rep k c);cases hd:ds[k].dd with
  | none =>rw[hd]at a;have a:J<|_:=a;have u:J<|Yj w.heap.size ds (k:Int) 10 ds:=υ (τ ⟨k,c,rfl,hd,rfl,rfl⟩);clear j b F y a9 hd;generalize ds[k].rb=a8 at *;go_enter_defers func58,ntmps58;go_wp2_with (go_at_call 30;refine(lock_free muLib (z x) _ P R).mono ?_;rintro e w'⟨rfl,rfl⟩);rw[L.o];refine ψ h.o ?_;rintro e g⟨rfl,Z⟩;rw[Z];clear Z g;go_wp2_with fail;refine ψ a.o ?_;rintro e G⟨rfl,a0⟩;rw[a0];clear a0 G;go_wp2_with fail;refine leaves_cons (f:=31) (args:=#[.pointer (some (z x))]) Ω (by simp[go_sem]) ?_;refine(unlock_deferred muLib (z x) .returning _ ((n.o.blk.cell 0).trans rfl) (n.o.blk.frozen 0)).mono ?_;rintro e u' G⟨rfl,rfl,rfl⟩;exact⟨_,results_tmp rfl _ _ _,_,ds,rfl,u.o,K.o _ _ n.o (Q.o.wide (λk e=>τ e))⟩
  | some d =>
   rw[hd]at a;have a:J<|_:=a;have T:J<|Calls prog 106 #[.pointer (some (z (ds[k].rb)))] A λe w'=>e=.returned (.tuple #[])/\J (∃s m t,(w.heap.size<=s/\w.heap.size<=m/\w.heap.size<=t)/\aV w' x q l C 1 (ds.set k (ds[k].woken s m t d)) B/\aA (fK x ds) w w'):=by refine ψ (Yi A (F.Ed y (λk e=>by subst e;exact a6)) ds[k] d (b.rep k c) hd (a4 k c)) ?_;rintro e w'⟨rfl,s,m,t,a1,N,U⟩;exact⟨rfl,s,m,t,by rw[a5]at N;exact N,b.renew k c a1 (AQ N) U,(y.wide (λ_ e=>τ e)).then (U.wide (λ_ e=>υ ⟨k,c,e⟩))⟩
   have Hd:=ω hd;clear j b F y a9 hd n Q;go_enter_defers func58,ntmps58;go_wp2_with (go_at_call 30;refine(lock_free muLib (z x) _ P R).mono ?_;rintro e w'⟨rfl,rfl⟩);rw[L.o];refine ψ h.o ?_;rintro e g⟨rfl,rfl⟩;go_wp2_with fail;refine ψ a.o ?_;rintro e G⟨rfl,rfl⟩;go_wp2_with fail;refine ψ T.o ?_;rintro e w4⟨rfl,S⟩;obtain⟨s,m,t,D,E,X⟩:=S.o;have H:=ω E;have u:J<|(w.heap.size<=s/\w.heap.size<=m/\w.heap.size<=t)/\aA (fK x ds) w w4:=⟨D,X⟩;clear T a h S D E X W cq;go_wp2_with fail;refine leaves_cons (f:=31) (args:=#[.pointer (some (z x))]) Ω (by simp[go_sem]) ?_;refine(unlock_deferred muLib (z x) .returning _ ((H.o.blk.cell 0).trans rfl) (H.o.blk.frozen 0)).mono ?_;rintro e u' w9⟨rfl,rfl,rfl⟩;exact⟨_,results_tmp rfl _ _ _,_,_,rfl,υ (υ ⟨k,c,d,s,m,t,rfl,Hd.o,rfl,u.o.1,rfl⟩),K.o _ _ H.o u.o.2⟩
 .have j:=h.o;rw[decide_eq_false a9]at j;have h:J<|_:=j;have u:J<|Yj w.heap.size ds i 2 ds:=τ ⟨a9,rfl,rfl⟩;clear j b F y a9;go_enter_defers func58,ntmps58;go_wp2_with (go_at_call 30;refine(lock_free muLib (z x) _ P R).mono ?_;rintro e w'⟨rfl,rfl⟩);rw[L.o];refine ψ h.o ?_;rintro e g⟨rfl,rfl⟩;go_wp2_with fail;refine leaves_cons (f:=31) (args:=#[.pointer (some (z x))]) Ω (by simp[go_sem]) ?_;refine(unlock_deferred muLib (z x) .returning _ ((n.o.blk.cell 0).trans rfl) (n.o.blk.frozen 0)).mono ?_;rintro e u' G⟨rfl,rfl,rfl⟩;exact⟨_,results_tmp rfl _ _ _,_,ds,rfl,u.o,K.o _ _ n.o (Q.o.wide (λk e=>τ e))⟩
def U4(w:World)(x q h:Nat)(i:Value)(ds:List bI)(b:List (Nat×ByteArray))(B:aV w x q h i 0 ds b)(k:Nat)(hk:k<b.length)(a j:Nat)(r:a<(ay b[k].2).length)(hj:j<8)(l:Thk.Bs)(s:ay b[k].2=bM l)(ak:b[k].2.size<=700000)(U:b[k].1<ds.length):Calls prog 49 #[.pointer (some (z x)),I ((k:Int)+1),I ((a*8+j:Nat):Int)] w λg w'=>g=.returned (I (if ds[b[k].1].dd.isSome then 3 else 9))/\aV w' x q h i 0 ds b/\aA (λk=>k=x) w w':=by
 obtain⟨N,K⟩:∃N:Int,N=if ds[b[k].1].dd.isSome then 3 else 9:=⟨_,rfl⟩
 rw[<- K];have k0:w.cell? (z x)=some (.int .i32 0):=(B.blk.cell 0).trans rfl;have z0:=B.blk.frozen 0;have m:=ω<|B.turn 1
 have lS:J<|aA (λk=>k=x) w (w.setCell (z x) (.int .i32 1)):=gZ (M:=λk=>k=x) rfl _;have ah:=B.FK;clear B;generalize a3:w.setCell (z x) (.int .i32 1)=n at *;have a1:=ω a3;clear a3;have Y:J<|∀e,aV e x q h i 1 ds b->Calls prog 42 #[.pointer (some (z x)),I ((k:Int)+1)] e λg w'=>g=.returned (.bool true)/\w'=e:=λe t=>by have:=jV e x q h i 1 ds b t ((k:Int)+1);rw[decide_eq_true V]at this;exact this
 obtain⟨Q,c,C⟩:=dK m.o.fr V;have c3:n.cell? (O x 3)=some (.slice (some (z Q)) b.length c):=by rw[<- C];exact(m.o.blk.cell 3).trans rfl
 have a5:n.cell? (O Q (k*2))=some (I (b[k].1)):=by have:=m.o.fr;rw[C]at this;rw[this.cellAt (k*2) V];exact(tZ b k hk).1
 have a6:n.cell? (O Q (k*2+1))=some (.string b[k].2):=by have:=m.o.fr;rw[C]at this;rw[this.cellAt (k*2+1) V];exact(tZ b k hk).2
 have aa:IntKind.i64.wrap (k:Int)=(k:Int):=wrap_in _ V V;have ai:(0:Int)<=(k:Int):=V
 have QH:(k:Int)<(b.length:Int):=V
 have a9:b.length<=c:=by obtain⟨ao,c',e1,e2⟩:=m.o.fvS;rw[C]at e1;simp only[ϑa]at e1;omega
 have ab:(ay b[k].2).length=b[k].2.size:=by unfold ay;rw[Array.length_toList];(first|done|rfl)
 have aj:¬((a:Int)*8+(j:Int))<0:=V
 have af:¬(8*(b[k].2.size:Int))<=(a:Int)*8+(j:Int):=V
 have Z:J<|∀e,Calls prog 99 #[.string b[k].2,I ((a:Int)*8+(j:Int))] e λg w'=>∃u,g=.returned (.string u)/\J (ay u=(ay b[k].2).set a (pq (ay b[k].2)[a] j))/\Below e.heap.size e w':=λe=>by have:=Qn e b[k].2 a j r hj V;simp only[Int.natCast_add,Int.natCast_mul]at this;exact this
 have X:J<|∀e u,aV e x q h i 1 ds b->ay u=(ay b[k].2).set a (pq (ay b[k].2)[a] j)->Calls prog 43 #[.pointer (some (z x)),I (b[k].1),.string u] e λg w'=>g=.returned (.tuple #[I 0,I N])/\Below e.heap.size e w':=λe u t H=>by
  have ae:u.size<=900000:=by
   have h1:(ay u).length=u.size:=by unfold ay;rw[Array.length_toList];(first|done|rfl)
   rw[H,List.length_set]at h1;omega
  cases o:ds[b[k].1].dd with
  | some d =>rw[K,o];exact GK e x q h i ds b t _ U (by rw[o];rfl) u
  | none =>
  rw[K,o];refine X0 e x q h i ds b t _ U o u ae ?_;rw[H];have G:=Yh (ay b[k].2)[a] hj;have ad:=Ny l a (by rw[<- s];exact r) (pq (ay b[k].2)[a] j) (by
   have h9:(bM l)[a]'(by rw[<- s];exact r)=(ay b[k].2)[a]:=by
    have h8:(bM l)[a]?=(ay b[k].2)[a]?:=by rw[s]
    rw[σ (by rw[<- s];exact r),σ r]at h8;exact Option.some.inj h8
   rw[h9];exact G)
  have h7:(ay b[k].2).set a (pq (ay b[k].2)[a] j)=(bM l).set a (pq (ay b[k].2)[a] j):=by generalize pq (ay b[k].2)[a] j=tb;rw[s]
  rw[h7];exact ad
 have NJ:J<|∀D,aV (n.alloc D) x q h i 1 ds b/\aA (λk=>k=x) w (n.alloc D):=λD=>⟨m.o.below ((φ _ n).alloc (χ _) D),lS.o.below ((φ _ n).alloc (χ _) D)⟩;have a0:J<|∀e,aV e x q h i 1 ds b->Calls prog 99 #[.string b[k].2,I ((a:Int)*8+(j:Int))] e λg w'=>∃u,g=.returned (.string u)/\aV w' x q h i 1 ds b/\Below e.heap.size e w'/\∀y,aV y x q h i 1 ds b->Calls prog 43 #[.pointer (some (z x)),I (b[k].1),.string u] y λg w'=>g=.returned (.tuple #[I 0,I N])/\Below y.heap.size y w':=λe t=>by refine ψ (Z.o e) ?_;rintro g w'⟨u,rfl,H,G⟩;exact⟨u,rfl,t.below G,G,λy hy=>X.o y u hy H.o⟩
 have ag:a<b[k].2.size:=V
 clear C Z X s r ab K U;generalize b[k].1=F at *;generalize b[k].2=E at *;go_enter_defers func49,ntmps49;go_wp2_with (go_at_call 30;refine(lock_free muLib (z x) _ k0 z0).mono ?_;rintro g w'⟨rfl,rfl⟩);rw[a1.o];refine ψ (Y.o _ m.o) ?_;rintro g v⟨rfl,rfl⟩;clear Y k0 z0;go_wp2_with fail;have R:=NJ.o (.cells #[I F,.string E] 108);have L:=aC.new v #[I F,.string E] 108;clear NJ m lS;generalize a8:v.alloc (.cells #[I F,.string E] 108)=A at *;have ac:v.heap.size<A.drew.heap.size:=L.lt;have d0:A.drew.cell? (z v.heap.size)=some (I F):=(L.cell 0).trans rfl;have d1:A.drew.cell? (O v.heap.size 1)=some (.string E):=(L.cell 1).trans rfl;have o:=R.1.below (φ _ A).drew;have EX:=ω<|R.2.below (φ _ A).drew
 clear a8 L R c3 a5 a6 aa a9 a1;refine wp_region_noPanic ?_;go_region_with (go_simp;first|(refine ψ (a0.o _ o) ?_;rintro g w3⟨u,rfl,P,S,a2⟩;have a7:=(S.cell (p:=(z v.heap.size)) ac).trans d0)|(refine ψ (a2 _ P) ?_;rintro g w4⟨rfl,T⟩));all_goals
  refine NoPanic.normal ?_;have W:=ω<|P.below T
  have a4:=ω<|(EX.o.below S).below T
  clear a0 o d0 d1 a7 P S a2 T;go_wp2_with fail;refine leaves_cons (f:=31) (args:=#[.pointer (some (z x))]) Ω (by simp[go_sem]) ?_;refine(unlock_deferred muLib (z x) .returning _ ((W.o.blk.cell 0).trans rfl) (W.o.blk.frozen 0)).mono ?_;rintro g u' w9⟨rfl,rfl,rfl⟩;exact⟨_,results_tmp rfl _ _ _,rfl,W.o.turn 0,aA.setCell (M:=λk=>k=x) (p:=(z x)) a4.o rfl _⟩
