import Derived.Test.YtfmmllpjgkgeaabGreatDoorZ36
set_option linter.all false
set_option maxHeartbeats 0
set_option maxRecDepth 100000
namespace Go.Proofs.YtfmmllpjgkgeaabGreatDoor
section
open Go.Proofs.Tryz Go.RowKit Go.Maps Go.WideMaps Go.MuLone Go.Deep
variable{ds:List bI}{w:World}
def zO{b:Nat}{cs c:Array Value}{t t':TypeId}(h:aC w b cs t)(d:aC w b c t'):cs=c/\t=t':=by
 have a:some (Obj.cells _ _ _)=some (Obj.cells _ _ _):=(show w.heap[b]?=_ from h).symm.trans d;injection a with a
 injection a with e1 e3;exact⟨e1,e3⟩
def Ro{b:Nat}{cs:Array Value}{t a:TypeId}(h:aC w b cs t)(d:Tagged w b a):a=t:=by obtain⟨e,c⟩:=d;exact(zO h c).2.symm
section
variable{w w':World}{x q cap:Nat}{fv:Value}{st:Int}{ds:List bI}{bs:List (Nat×ByteArray)}
def cO.tag{w:World}{r:RD}(h:cO w r){k:Nat}(d:r.own k){t:TypeId}(f:Tagged w k t):t=129\/t=184\/t=225\/t=187:=by obtain⟨b,c⟩:=f;refine ϑc λa=>?_;refine h.mQ (cs:=b) (t:=t) c (λe=>a (τ e)) (λe=>a (υ (τ e))) (λe=>a (υ (υ (τ e)))) (λe=>a (υ (υ (υ e)))) d
def aV.XV(h:aV w x q cap fv st ds bs)(j:Nat)(a:j<ds.length){k:Nat}(b:ds[j].own k){t:TypeId}(c:Tagged w k t):t=129\/t=184\/t=225\/t=187:=(h.rep j a).tag b c
def aV.more{b:World}(h:aV w x q cap fv st ds bs)(i:aA (λk=>fv.ownBlock=some k) w b){n:Nat}{s:ByteArray}{g c:Nat}(d:bs.length+1<=500)(t:b.ownsRow 0 108 2 (.slice (some (z g)) (bs.length+1) c) (bs.length+1) (UA bs++[I n,.string s])):aV (b.setCell (O x 3) (.slice (some (z g)) (bs.length+1) c)) x q cap (.slice (some (z g)) (bs.length+1) c) st ds (bs++[(n,s)]):=by
 have r:∀{k:Nat}{y:TypeId},Tagged w k y->y≠108->¬fv.ownBlock=some k:=λK F m=>Tagged.ne K (h.frT _ m) F rfl;have L:¬fv.ownBlock=some x:=r ⟨_,h.blk⟩ Ψ;obtain⟨A,v,M⟩:=h.row;have G:¬fv.ownBlock=some q:=r ⟨_,v⟩ Ψ;have f:=h.blk.aJ i L;have o:aA (λk=>k=x) b (b.setCell (O x 3) (.slice (some (z g)) (bs.length+1) c)):=(aA.refl (λk=>k=x) b).setCell (p:=(O x 3)) rfl _;have D:g≠x:=λe=>by
  subst e;obtain⟨_,⟨B,_⟩|⟨R,P,Q,u,_,E,_⟩⟩:=t
  .cases B
  .simp only[ϑa,ϑb,ϑz,ϑM,ϑN]at u;obtain⟨rfl,rfl⟩:=u;exact absurd (zO f E).2 Ψ
 refine⟨?_,⟨A,(v.aJ i G).aJ o (Ne.symm h.xq),M⟩, ?_,λj l=>?_,h.ra,h.apart,h.xr,h.qr,h.len,h.cap,h.x4,by simpa using d⟩
 .unfold aC at f⊢;simp[World.setCell,μ,f]
 .rw[XQ,ρ,List.length_singleton];exact ownsRow_setCell_other t (a:=(O x 3)) (λe=>D (by simpa[Value.ownBlock]using e)) _
 .have H:∀k,ds[j].own k->¬fv.ownBlock=some k:=λk m C=>by
   have:=h.XV j l m (h.frT k C)
   revert this
   decide
  exact((h.rep j l).aJ i H).aJ o (λN d e=>h.xr j l (e▸d))
def aV.fvS(h:aV w x q cap fv st ds bs):∃b c,fv=.slice b bs.length c/\bs.length<=c:=by
 obtain⟨_,⟨a,d⟩|⟨g,cap,f,a,_,_,e,_⟩⟩:=h.fr
 .exact⟨none,0,by rw[a,d],V⟩
 .exact⟨_,cap,a,e⟩
end
def oC(w:World)(x q cap:Nat)(fv:Value)(st:Int)(ds:List bI)(bs:List (Nat×ByteArray))(b:aV w x q cap fv st ds bs):Calls prog 39 #[.pointer (some (z x))] w λe w'=>e=.returned (.bool (decide (500<=bs.length)))/\w'=w:=by
 obtain⟨c,d,rfl,_⟩:=b.fvS;have f:w.cell? (O x 3)=some (.slice c bs.length d):=(b.blk.cell 3).trans rfl;have g:=b.FK;clear b;generalize bs.length=n at *;by_cases h:500<=n
 .have a:=decide_eq_true h;rw[a];clear a;go_enter func39,ntmps39;go_wp2;go_ret;exact⟨by first|rfl|(simp;omega),rfl⟩
 .have a:=decide_eq_false h;rw[a];clear a;go_enter func39,ntmps39;go_wp2;go_ret;exact⟨by first|rfl|(simp;omega),rfl⟩
def jV(w:World)(x q cap:Nat)(fv:Value)(st:Int)(ds:List bI)(bs:List (Nat×ByteArray))(b:aV w x q cap fv st ds bs)(f:Int):Calls prog 42 #[.pointer (some (z x)),I f] w λi w'=>i=.returned (.bool (decide (1<=f/\f<=bs.length)))/\w'=w:=by
 obtain⟨e,g,rfl,_⟩:=b.fvS;have j:w.cell? (O x 3)=some (.slice e bs.length g):=(b.blk.cell 3).trans rfl;have k:=b.FK;clear b;generalize bs.length=n at *;by_cases d:1<=f
 .by_cases h:f<=(n:Int)
  .have a:decide (1<=f/\f<=(n:Int))=true:=decide_eq_true ⟨d,h⟩;rw[a];clear a;go_enter func42,ntmps42;go_wp2;go_ret;exact⟨by first|rfl|(simp;omega),rfl⟩
  .have a:decide (1<=f/\f<=(n:Int))=false:=decide_eq_false (λc=>h c.2);rw[a];clear a;go_enter func42,ntmps42;go_wp2;go_ret;exact⟨by first|rfl|(simp;omega),rfl⟩
 .have a:decide (1<=f/\f<=(n:Int))=false:=decide_eq_false (λc=>d c.1);rw[a];clear a;go_enter func42,ntmps42;go_wp2;go_ret;exact⟨by first|rfl|(simp;omega),rfl⟩
def Tryz.infoSent:(prog.info? 108).map (λi=>(i.zero,i.size,i.bytes))=some (some (.agg #[I 0,.string ⟨#[]⟩]),2,24):=by kernel_rfl
def MX(w:World)(x q cap:Nat)(fv:Value)(st:Int)(ds:List bI)(bs:List (Nat×ByteArray))(g:aV w x q cap fv st ds bs)(hb:bs.length+1<=500)(n:Nat)(a mk:Int)(d:Bool)(io co lo:Option Nat)(P:ByteArray->Prop)(R:∀wx,Below w.heap.size w wx->Calls prog 89 #[.agg #[I a,I mk,.bool d,.map io,.map co,.map lo]] wx λe w'=>∃s,e=.returned (.string s)/\P s/\Below wx.heap.size wx w'):Calls prog 40 #[.pointer (some (z x)),I n,.agg #[I a,I mk,.bool d,.map io,.map co,.map lo]] w λe w'=>∃s Q,e=.returned (I ((bs.length+1:Nat):Int))/\P s/\aV w' x q cap Q st ds (bs++[(n,s)]) /\ aA (λk=>k=x\/fv.ownBlock=some k) w w'/\(∀k,Q.ownBlock=some k->fv.ownBlock=some k\/w.heap.size<=k):=by
 have HC:=ω g;obtain⟨iR,VU,CB,CJ,CO⟩:=info_parts Tryz.infoSent;obtain⟨W0,v⟩:∃W0,W0=w.alloc (.cells #[I a,I mk,.bool d,.map io,.map co,.map lo] 103):=⟨_,rfl⟩;have h:Below w.heap.size w W0:=by rw[v];exact(φ _ w).alloc (χ _) _
 have c:aC W0 w.heap.size #[I a,I mk,.bool d,.map io,.map co,.map lo] 103:=by rw[v];exact aC.new w _ _
 have L:J<|∀wx,wx.heap=W0.heap->wx.os=W0.os->wx.tape=W0.tape->wx.output=W0.output->Calls prog 89 #[.agg #[I a,I mk,.bool d,.map io,.map co,.map lo]] wx λe w'=>∃s,e=.returned (.string s)/\(P s/\Below w.heap.size w w')/\w'.ownsRow 0 108 2 fv bs.length (UA bs)/\w'.cell? (O x 3)=some fv/\(∀G,(w'.alloc G).cell? (O x 3)=some fv)/\(∀l,w'.frozen? (O x l)=false)/\w'.cell? (z w.heap.size)=some (I a)/\w'.cell? (O w.heap.size 1)=some (I mk)/\w'.cell? (O w.heap.size 2)=some (.bool d)/\w'.cell? (O w.heap.size 3)=some (.map io)/\w'.cell? (O w.heap.size 4)=some (.map co)/\w'.cell? (O w.heap.size 5)=some (.map lo):=λwx F ho ht hp=>by
  have E:Below w.heap.size w wx:=⟨ho.trans h.os,ht.trans h.tape,hp.trans h.output,by rw[F];exact h.size,λk i=>by rw[F];exact h.block k i⟩;refine ψ (R wx E) ?_;rintro e w'⟨s,rfl,u,T⟩;have U:=E.trans (T.mono E.size);have t:=g.below U;have kx:aC wx w.heap.size #[I a,I mk,.bool d,.map io,.map co,.map lo] 103:=by unfold aC;rw[F];exact c
  have m:=kx.below T;exact⟨s,rfl,⟨u,U⟩,t.fr,(t.blk.cell 3).trans rfl,λG=>((t.blk.alloc G).cell 3).trans rfl,t.blk.frozen,(m.cell 0).trans rfl,(m.cell 1).trans rfl,(m.cell 2).trans rfl,(m.cell 3).trans rfl,(m.cell 4).trans rfl,(m.cell 5).trans rfl⟩
 have S:=g.below h;have c3:W0.cell? (O x 3)=some fv:=(S.blk.cell 3).trans rfl;have d0:=(c.cell 0).trans rfl;have d1:=(c.cell 1).trans rfl;have d2:=(c.cell 2).trans rfl;have d3:=(c.cell 3).trans rfl;have d4:=(c.cell 4).trans rfl;have d5:=(c.cell 5).trans rfl;have N:J<|fv.ownBlock≠some x:=λe=>Tagged.ne (g.frT x e) ⟨_,g.blk⟩ Ψ rfl;have Y:=ω g.blk.lt;have m1:J<|bs.length+1<=maxLen:=by unfold J maxLen;omega
 have m2:J<|(bs.length+1)*24<=140737488355328:=ω V
 have W:J<|∀(s:ByteArray),∀H∈[Value.int .i64 n,.string s],H.oneCell'=true:=by intro s H X;simp at X;rcases X with rfl|rfl<;>rfl
 have a0:=ω v.symm;clear g S R v h c;go_enter func40,ntmps40;go_wp2_with fail;rw[a0.o];go_cut []from 7 to 20 (λwx=>∃s w6 b f,wx=w6.setCell (O x 3) (.slice (some (z b)) (bs.length+1) f)/\P s/\aA (λk=>fv.ownBlock=some k) w w6/\w6.ownsRow 0 108 2 (.slice (some (z b)) (bs.length+1) f) (bs.length+1) (UA bs++[I n,.string s])/\(fv.ownBlock=some b\/w.heap.size<=b))
 case first =>
  go_region_law (first|(go_simp;refine ψ (L.o _ rfl rfl rfl rfl) ?_;rintro e K⟨Z,rfl,o,Ah,e3,a1,ef,f0,f1,f2,f3,f4,f5⟩)|(refine iU rfl (.tmp 11) (.tmp 16) 75 rfl 108 iR (.agg #[I 0,.string ⟨#[]⟩]) 2 24 underlying75 VU CB CJ CO rfl Ψ fv bs.length (UA bs) rfl ?_ _ 1 1 [I n,.string Z] rfl rfl ?_ (W.o _) m1.o m2.o (Nat.succ_pos _) ?_;(exact Ah.alloc _);(intro l H r;match l,r with|0,r=>(cases r;simp[Addr.add])|1,r=>(cases r;simp[Addr.add]));intro b f w6 y eG A;have j:aA (λk=>fv.ownBlock=some k) K w6:=aA.grown (aA.of_below Γ) eG (λk i=>τ i);have k3:=(η (w:=K) (a:=(O x 3)) (j.block x (ο Y.o o.2.size) N.o)).trans e3;have a2:=λl=>(World.frozen?_of_block (w:=K) (a:=(O x l)) (j.block x (ο Y.o o.2.size) N.o)).trans (ef l)))
  all_goals
   go_wp2_with fail;go_meet;refine⟨Z,w6,b,f,rfl,o.1,(aA.of_below o.2).trans j,y, ?_⟩;rcases A with C|C
   .exact τ C
   .refine υ (ς o.2.size ?_);simp at C;omega
 case rest =>
 obtain⟨s,w6,b,f,rfl,u,j,y,A⟩:=hcut;have D:=HC.o.more j hb y;have HM:J<|_:=D;have r3:=(D.blk.cell 3).trans rfl;have B:J<|P s/\aA (λk=>k=x\/fv.ownBlock=some k) w (w6.setCell (O x 3) (.slice (some (z b)) (bs.length+1) f))/\(fv.ownBlock=some b\/w.heap.size<=b):=⟨u,aA.setCell (M:=λk=>k=x\/fv.ownBlock=some k) (p:=(O x 3)) (j.wide (λk i=>υ i)) (τ rfl) _,A⟩;clear u j y A L c3 d0 d1 d2 d3 d4 d5 W m1 m2 D;generalize w6.setCell (O x 3) (.slice (some (z b)) (bs.length+1) f)=w7 at *;go_wp2_with fail;go_ret;exact⟨s,_,by first|rfl|go_num,B.o.1,HM.o,B.o.2.1,λk i=>by cases i;exact B.o.2.2⟩
def Qi(s:ByteArray)(w:World)(c:s.size<=1000000000):Calls prog 95 #[.string s] w λe w'=>e=.returned (.string s)/\Below w.heap.size w w':=by have a:J<|_:=Tryz.stringslite_Clone s w V;go_enter func95,ntmps95;go_wp2_with fail;refine ψ a.o ?_;rintro e d⟨rfl,b⟩;go_wp2;go_ret;exact⟨rfl,b⟩
def Az(ds:List bI)(i:Int):Int×Int:=if aK ds i=0 then(((ds[i.toNat]?.map λd=>d.ps.length).getD 0:Nat),0) else(0,aK ds i)
def UJ(B:Nat)(ds:List bI)(i:Int)(P:RD->RD->Prop)(ds':List bI):Prop :=
 (aK ds i≠0/\ds'=ds)\/∃(k:Nat)(hk:k<ds.length)(r':RD),i=(k:Int)/\ds[k].dd=none/\jo B ds[k] r'/\P ds[k] r'/\ds'=ds.set k r'
def XW(r r':RD):Prop:=∃io co lo:Nat,r' = { r with io:=some io,co:=some co,lo:=some lo,pv:=.slice none 0 0,dr:=aF r.K,A:=λ_=>0,ps:=[] }
def Jt(r r':RD):Prop:=∃pv,r' = { r with pv:=pv,dr:=nH r.nb r.A r.dr r.ps,A:=r.A,ps:=gG r.nb r.A r.ps }
def yS{B:Nat}{r:RD}{io co lo:Nat}(h:B<=io/\B<=co/\B<=lo):jo B r { r with io:=some io,co:=some co,lo:=some lo,pv:=.slice none 0 0,dr:=aF r.K,A:=λ_=>0,ps:=[] }:=by
 refine⟨rfl,rfl,id,rfl,λc a=>?_⟩;rcases a with a|a|a|a
 .exact τ (τ a)
 .refine υ ?_;rcases a with e|e|e<;>(have d:=Option.some.inj e;omega)
 .rcases a with a|a|a|⟨p,b,a⟩
  .exact τ (υ (υ (τ (τ a))))
  .cases a
  .exact τ (υ (υ (τ (υ (υ (τ a))))))
  .exact absurd b (by show p ∉ ([]:List iJ);simp)
 .exact τ (υ (υ (υ a)))
def GI{b:List Nat}{A:Nat->Nat}:∀{a:List iJ}{p:iJ},p∈gG b A a->p∈a
 | [],p,h=>h
 | q::a,p,h=>by
  unfold gG at h;split at h
  .exact List.mem_cons_of_mem _ (GI h)
  .exact h
def MZ{B:Nat}{r:RD}{pv:Value}(h:pv.ownBlock=r.pv.ownBlock):jo B r { r with pv:=pv,dr:=nH r.nb r.A r.dr r.ps,A:=r.A,ps:=gG r.nb r.A r.ps }:=by
 refine⟨rfl,rfl,id,rfl,λc a=>τ ?_⟩;rcases a with a|a|a|a
 .exact τ a
 .exact υ (τ a)
 .rcases a with a|a|a|⟨p,b,a⟩
  .exact υ (υ (τ (τ a)))
  .exact υ (υ (τ (υ (τ (by rw[<- h];exact a)))))
  .exact υ (υ (τ (υ (υ (τ a)))))
  .exact υ (υ (τ (υ (υ (υ ⟨p,GI b,a⟩)))))
 .exact υ (υ (υ a))
def Ju(w:World)(x q cap:Nat)(fv:Value)(ds:List bI)(bs:List (Nat×ByteArray))(c:aV w x q cap fv 0 ds bs)(i:Int):Calls prog 26 #[.pointer (some (z x)),I i] w λe w'=>e=.returned (.tuple #[I (Az ds i).1,I (Az ds i).2])/\aV w' x q cap fv 0 ds bs/\aA (λk=>k=x) w w':=by
 have A:=ω c;have u:w.cell? (z x)=some (.int .i32 0):=(c.blk.cell 0).trans rfl;have y:=c.blk.frozen 0;have a:=ω<|c.turn 1
 have E:=c.blk.lt;clear c;go_enter_defers func26,ntmps26;go_wp2_with (go_at_call 30;refine(lock_free muLib (z x) _ u y).mono ?_;rintro e w'⟨rfl,rfl⟩);have j:Below (w.setCell (z x) (.int .i32 1)).heap.size (w.setCell (z x) (.int .i32 1)) ((w.setCell (z x) (.int .i32 1)).alloc (.cells #[I i] 3)):=(φ _ _).alloc (χ _) _;have s:((w.setCell (z x) (.int .i32 1)).alloc (.cells #[I i] 3)).cell? (z w.heap.size)=some (I i):=by have:=(aC.new (w.setCell (z x) (.int .i32 1)) #[I i] 3).cell 0;simpa using this
 have l:=(gZ (M:=λk=>k=x) rfl _).below j;have d:=a.o.below j;refine ψ (lD _ x q cap fv 1 ds bs d w.heap.size i s) ?_;rintro e v⟨rfl,t⟩;rw[<- t]at d l;clear s j t a u y E;have a:=ω d;have o:=ω l;clear d l A;by_cases b:aK ds i=0
 .have g:=b;obtain⟨k,rfl,m,D⟩:=gK b;clear D;have n:J<|Az ds (k:Int)=((ds[k].ps.length:Int),0):=by unfold J Az;rw[ώ b];simp[m]
  rw[g];have B:v.cell? (O x 2)=some (.slice (some (z q)) ds.length cap):=(a.o.blk.cell 2).trans rfl;have C:=a.o.cell k m;have r:J<|_:=Jo v ds[k] (a.o.rep k m);clear g b;go_wp2_with fail;refine ψ r.o ?_;rintro e L⟨rfl,rfl⟩;have h:=ω a.o;have H:=ω o.o;clear r a o B C;go_wp2_with fail;refine leaves_cons (f:=31) (args:=#[.pointer (some (z x))]) Ω (by simp[go_sem]) ?_;refine(unlock_deferred muLib (z x) .returning _ ((h.o.blk.cell 0).trans rfl) (h.o.blk.frozen 0)).mono ?_;rintro e F G⟨rfl,rfl,rfl⟩;exact⟨_,results_tmp2 rfl _ _ _,by rw[n.o];rfl,h.o.turn 0,aA.setCell (M:=λk=>k=x) (p:=(z x)) H.o rfl _⟩
 .have n:J<|Az ds i=(0,aK ds i):=by unfold J Az;rw[ύ b]
  have g:=(gY ds i).resolve_left b;generalize aK ds i=K at *;rcases g with rfl|rfl
  all_goals
  clear b;go_wp2_with fail;refine leaves_cons (f:=31) (args:=#[.pointer (some (z x))]) Ω (by simp[go_sem]) ?_;refine(unlock_deferred muLib (z x) .returning _ ((a.o.blk.cell 0).trans rfl) (a.o.blk.frozen 0)).mono ?_;rintro e F G⟨rfl,rfl,rfl⟩;exact⟨_,results_tmp2 rfl _ _ _,by rw[n.o];rfl,a.o.turn 0,aA.setCell (M:=λk=>k=x) (p:=(z x)) o.o rfl _⟩
def Rq{f:Nat}{P:RD->RD->Prop}(Y:f=103\/f=102)(K:∀c r,Glob c->cO c r->r.dd=none->Calls prog f #[.pointer (some (z r.rb))] c λe w'=>e=.returned (.tuple #[])/\∃a,jo c.heap.size r a/\P r a/\cO w' a/\aA r.own c w')(w:World)(H:Glob w)(x q cap:Nat)(fv:Value)(ds:List bI)(bs:List (Nat×ByteArray))(l:aV w x q cap fv 0 ds bs)(i:Int):Calls prog 101 #[.pointer (some (z x)),I i,.func (.func f) #[] #[]] w λe w'=>∃G,e=.returned (I (aK ds i))/\UJ w.heap.size ds i P G/\aV w' x q cap fv 0 G bs/\aA (fK x ds) w w':=by
 have C:=ω l;have D:=ω K;clear K;have Q:w.cell? (z x)=some (.int .i32 0):=(l.blk.cell 0).trans rfl;have R:=l.blk.frozen 0;have b:=ω<|l.turn 1
 have E:=ω H;clear l H;go_enter_defers func101,ntmps101;go_wp2_with (go_at_call 30;refine(lock_free muLib (z x) _ Q R).mono ?_;rintro e w'⟨rfl,rfl⟩);have y:Below (w.setCell (z x) (.int .i32 1)).heap.size (w.setCell (z x) (.int .i32 1)) ((w.setCell (z x) (.int .i32 1)).alloc (.cells #[I i] 3)):=(φ _ _).alloc (χ _) _;have L:((w.setCell (z x) (.int .i32 1)).alloc (.cells #[I i] 3)).cell? (z w.heap.size)=some (I i):=by have:=(aC.new (w.setCell (z x) (.int .i32 1)) #[I i] 3).cell 0;simpa using this
 have s:=(gZ (M:=λk=>k=x) rfl _).below y;have n:=b.o.below y;refine ψ (lD _ x q cap fv 1 ds bs n w.heap.size i L) ?_;rintro e c⟨rfl,N⟩;rw[<- N]at n s;clear L y N b Q R;have b:=ω n;have t:=ω s;have S:J<|Glob c:=E.o.Ed s (λk e=>by subst e;exact C.o.x4);clear n s C E;by_cases g:aK ds i=0
 .have d:=g;obtain⟨k,rfl,m,A⟩:=gK g;have v:=ω d;rw[d];have U:c.cell? (O x 2)=some (.slice (some (z q)) ds.length cap):=(b.o.blk.cell 2).trans rfl;have W:=b.o.cell k m;have F:J<|Calls prog f #[.pointer (some (z (ds[k].rb)))] c λe w'=>e=.returned (.tuple #[])/\∃a,UJ w.heap.size ds (k:Int) P (ds.set k a)/\aV w' x q cap fv 1 (ds.set k a) bs/\aA (fK x ds) w w':=by have Z:=t.o.size;refine ψ (D.o c ds[k] S.o (b.o.rep k m) A) ?_;rintro e w'⟨rfl,a,h,X,o,j⟩;refine⟨rfl,a,υ ⟨k,m,a,rfl,A,h.mono Z,X,rfl⟩,b.o.renew k m o h j,(t.o.wide (λ_ e=>τ e)).then (j.wide (λ_ e=>υ ⟨k,m,e⟩))⟩
  clear d g A D;rcases Y with rfl|rfl
  all_goals
  go_wp2_with fail;refine ψ F.o ?_;rintro e w2⟨rfl,a,o,h,j⟩;have u:=ω h;have B:J<|UJ w.heap.size ds (k:Int) P (ds.set k a)/\aA (fK x ds) w w2:=⟨o,j⟩;clear F b t U W o h j;go_wp2_with fail;refine leaves_cons (f:=31) (args:=#[.pointer (some (z x))]) Ω (by simp[go_sem]) ?_;refine(unlock_deferred muLib (z x) .returning _ ((u.o.blk.cell 0).trans rfl) (u.o.blk.frozen 0)).mono ?_;rintro e u' w3⟨rfl,rfl,rfl⟩;exact⟨_,results_tmp rfl _ _ _,ds.set k a,by rw[v.o];rfl,B.o.1,u.o.turn 0,aA.setCell (M:=fK x ds) (p:=(z x)) B.o.2 (τ rfl) _⟩
 .have T:J<|UJ w.heap.size ds i P ds:=τ ⟨g,rfl⟩;rcases(gY ds i).resolve_left g with d|d
  all_goals
  have v:J<|_:=d;rw[d];clear g d;go_wp2_with fail;refine leaves_cons (f:=31) (args:=#[.pointer (some (z x))]) Ω (by simp[go_sem]) ?_;refine(unlock_deferred muLib (z x) .returning _ ((b.o.blk.cell 0).trans rfl) (b.o.blk.frozen 0)).mono ?_;rintro e u' w3⟨rfl,rfl,rfl⟩;exact⟨_,results_tmp rfl _ _ _,ds,by rw[v.o];rfl,T.o,b.o.turn 0,aA.setCell (M:=fK x ds) (p:=(z x)) (t.o.wide (λk e=>τ e)) (τ rfl) _⟩
def Qj(w:World)(g:Glob w)(x q cap:Nat)(fv:Value)(ds:List bI)(bs:List (Nat×ByteArray))(d:aV w x q cap fv 0 ds bs)(i:Int):Calls prog 54 #[.pointer (some (z x)),I i] w λe w'=>∃a,e=.returned (I (aK ds i))/\UJ w.heap.size ds i XW a/\aV w' x q cap fv 0 a bs/\aA (fK x ds) w w':=by have c:J<|_:=Rq (f:=103) (P:=XW) (τ rfl) (λh t l m p=>ψ (Gz h l t (m.mem p)) (by rintro e w'⟨rfl,r,k,s,b,n,o⟩;exact⟨rfl,_,yS n,⟨r,k,s,rfl⟩,b,o⟩)) w g x q cap fv ds bs d i;clear g d;go_enter func54,ntmps54;go_wp2_with fail;refine ψ c.o ?_;rintro e h⟨a,rfl,b⟩;have j:=ω b;clear b c;go_wp2;go_ret;exact⟨a,rfl,j.o⟩
def UK(w:World)(g:Glob w)(x q cap:Nat)(fv:Value)(ds:List bI)(bs:List (Nat×ByteArray))(d:aV w x q cap fv 0 ds bs)(i:Int):Calls prog 52 #[.pointer (some (z x)),I i] w λe w'=>∃a,e=.returned (I (aK ds i))/\UJ w.heap.size ds i Jt a/\aV w' x q cap fv 0 a bs/\aA (fK x ds) w w':=by have c:J<|_:=Rq (f:=102) (P:=Jt) (υ rfl) (λh r _ k _=>ψ (Uw h r k) (by rintro e w'⟨rfl,n,b,l,m⟩;exact⟨rfl,_,MZ b,⟨n,rfl⟩,l,m⟩)) w g x q cap fv ds bs d i;clear g d;go_enter func52,ntmps52;go_wp2_with fail;refine ψ c.o ?_;rintro e h⟨a,rfl,b⟩;have j:=ω b;clear b c;go_wp2;go_ret;exact⟨a,rfl,j.o⟩
def XY(s:ByteArray)(r:RD)(j:Nat):Prop:=∃S C rs its,XO r j S C/\jT S C/\ay s=bM (jI r.a (aF r.K) rs its)/\dW S C rs its/\s.size<=700000
def Na(ds:List bI)(bs:List (Nat×ByteArray))(i j:Int)(n r:Int)(bs':List (Nat×ByteArray)):Prop :=
 (dS ds [i,j]≠0/\n=0/\r=dS ds [i,j]/\bs'=bs) \/
 (dS ds [i,j]=0/\i=j/\n=0/\r=1/\bs'=bs) \/
 (dS ds [i,j]=0/\¬i=j/\500<=bs.length/\n=0/\r=7/\bs'=bs) \/
 dS ds [i,j]=0/\∃(k k':Nat)(hk:k<ds.length)(s:ByteArray),i=(k:Int)/\j=(k':Int)/\k'<ds.length/\¬i=j/\bs.length<500/\n=((bs.length+1:Nat):Int)/\r=0/\bs'=bs++[(k',s)]/\XY s ds[k] k'
def uV{i j:Int}(h:dS ds [i,j]=0):aK ds i=0/\aK ds j=0:=by
 rw[Ea]at h;split at h
 .rename_i h1;exact⟨h1,h⟩
 .rename_i h1;exact absurd h h1
def UL{i j:Int}(h:¬dS ds [i,j]=0):dS ds [i,j]=2\/dS ds [i,j]=3:=by
 rw[Ea]at h⊢;by_cases a:aK ds i=0
 .rw[ώ a]at h⊢;exact(gY ds j).resolve_left h
 .rw[ύ a];exact(gY ds i).resolve_left a
def UM(w:World)(hG:Glob w)(x q cap:Nat)(fv:Value)(ds:List bI)(bs:List (Nat×ByteArray))(t:aV w x q cap fv 0 ds bs)(hB:∀j(A:j<ds.length),aj9 ds[j]/\aF ds[j].K<=505)(i j:Int):Calls prog 14 #[.pointer (some (z x)),I i,I j] w λe w'=>∃n r a1 o,e=.returned (.tuple #[I n,I r])/\Na ds bs i j n r a1/\aV w' x q cap o 0 ds a1 /\ aA (λk=>k=x\/fv.ownBlock=some k) w w'/\(∀k,o.ownBlock=some k->fv.ownBlock=some k\/w.heap.size<=k):=by
 have G:=ω hB;clear hB;have HC:=ω t;have k0:w.cell? (z x)=some (.int .i32 0):=(t.blk.cell 0).trans rfl;have z0:=t.blk.frozen 0;have a:=ω<|t.turn 1
 have X:=ω hG;clear t hG;go_enter_defers func14,ntmps14;go_wp2_with (go_at_call 30;refine(lock_free muLib (z x) _ k0 z0).mono ?_;rintro e w'⟨rfl,rfl⟩);have L:Below (w.setCell (z x) (.int .i32 1)).heap.size (w.setCell (z x) (.int .i32 1)) ((w.setCell (z x) (.int .i32 1)).alloc (.cells #[I i,I j] 3)):=(φ _ _).alloc (χ _) _;have a4:((w.setCell (z x) (.int .i32 1)).alloc (.cells #[I i,I j] 3)).cell? (z w.heap.size)=some (I i):=by have:=(aC.new (w.setCell (z x) (.int .i32 1)) #[I i,I j] 3).cell 0;simpa using this
 have a5:((w.setCell (z x) (.int .i32 1)).alloc (.cells #[I i,I j] 3)).cell? (O w.heap.size 1)=some (I j):=by have:=(aC.new (w.setCell (z x) (.int .i32 1)) #[I i,I j] 3).cell 1;simpa using this
 have D:=(gZ (M:=λk=>k=x) rfl _).below L;have ae:=a.o.below L;refine ψ (UC _ x q cap fv 1 ds bs ae w.heap.size i j a4 a5) ?_;rintro e u⟨rfl,a9⟩;rw[<- a9]at ae D;clear a4 a5 L a9 a k0 z0;have F:J<|Glob u:=X.o.Ed D (λk e=>by subst e;exact HC.o.x4);have a:=ω ae;have lS:=ω D;clear ae D X;have K:J (aV (u.setCell (z x) (.int .i32 0)) x q cap fv 0 ds bs/\aA (λk=>k=x\/fv.ownBlock=some k) w (u.setCell (z x) (.int .i32 0))/\(∀k,fv.ownBlock=some k->fv.ownBlock=some k\/w.heap.size<=k)) :=
  ⟨a.o.turn 0,aA.setCell (M:=λk=>k=x\/fv.ownBlock=some k) (p:=(z x)) (lS.o.wide (λk e=>τ e)) (τ rfl) _,λk d=>τ d⟩
 by_cases c:dS ds [i,j]=0
 .rw[c];by_cases h:i=j
  .have m:J<|Na ds bs i j 0 1 bs:=(υ (τ ⟨c,h,rfl,rfl,rfl⟩));clear c;subst h;go_wp2_with fail;refine leaves_cons (f:=31) (args:=#[.pointer (some (z x))]) Ω (by simp[go_sem]) ?_;refine(unlock_deferred muLib (z x) .returning _ ((a.o.blk.cell 0).trans rfl) (a.o.blk.frozen 0)).mono ?_;rintro e Q R⟨rfl,rfl,rfl⟩;exact⟨_,results_tmp2 rfl _ _ _,_,_,bs,fv,rfl,m.o,K.o⟩
  .obtain⟨k,rfl,d,_⟩:=gK (uV c).1;obtain⟨g,rfl,a6,_⟩:=gK (uV c).2;have Hi:J<|_:=c;by_cases B:500<=bs.length
   .have m:J<|Na ds bs (k:Int) (g:Int) 0 7 bs:=(υ (υ (τ ⟨c,h,B,rfl,rfl,rfl⟩)));have y:J<|∀b,aV b x q cap fv 1 ds bs->Calls prog 39 #[.pointer (some (z x))] b λe w'=>e=.returned (.bool true)/\w'=b:=λb l=>by have:=oC b x q cap fv 1 ds bs l;rw[decide_eq_true B]at this;exact this
    have ab:=ό.2 h;clear c;go_wp2_with fail;refine ψ (y.o _ a.o) ?_;rintro e w2⟨rfl,rfl⟩;go_wp2_with fail;refine leaves_cons (f:=31) (args:=#[.pointer (some (z x))]) Ω (by simp[go_sem]) ?_;refine(unlock_deferred muLib (z x) .returning _ ((a.o.blk.cell 0).trans rfl) (a.o.blk.frozen 0)).mono ?_;rintro e Q R⟨rfl,rfl,rfl⟩;exact⟨_,results_tmp2 rfl _ _ _,_,_,bs,fv,rfl,m.o,K.o⟩
   .have y:J<|∀b,aV b x q cap fv 1 ds bs->Calls prog 39 #[.pointer (some (z x))] b λe w'=>e=.returned (.bool false)/\w'=b:=λb l=>by have:=oC b x q cap fv 1 ds bs l;rw[decide_eq_false B]at this;exact this
    have ab:=ό.2 h;have c2:u.cell? (O x 2)=some (.slice (some (z q)) ds.length cap):=(a.o.blk.cell 2).trans rfl;have cq:=a.o.cell k d;have a8:=a.o.ra k d;have Y:J<|_:=Uz u F.o ds[k] (a.o.rep k d) (G.o k d).1 g ((a8.2.2 g).2 ⟨a6,λe=>h V⟩) (G.o k d).2;clear a8;have aa:J<|_:=h;have W:J<|_:=B;clear c;go_wp2_with fail;refine ψ (y.o _ a.o) ?_;rintro e w2⟨rfl,rfl⟩;go_wp2_with fail;refine ψ Y.o ?_;rintro e w3⟨fi,fc,fl,S,T,rfl,N,a0,C⟩;have af:=ω<|a.o.below C
    have U:=ω<|F.o.mono C
    have E:=ω<|lS.o.below C
    have a2:=(af.o.rep k d).a5;have Z:J<|_:=MX w3 x q cap fv 1 ds bs af.o (by have:=W.o;omega) g (ds[k].a:Int) (aF ds[k].K:Int) false fi fc fl (λs=>XY s ds[k] g) (λb l=>by refine ψ (MQ b (U.o.mono l) ds[k].a (aF ds[k].K) a2 (G.o k d).2 fi fc fl S T (N.below l)) ?_;rintro e w'⟨s,rs,ac,rfl,h1,h2,h3,h4⟩;exact⟨s,rfl,⟨S,T,rs,ac,a0,N.b,h1,h2,h3⟩,h4⟩);clear N a0 a2;clear Y y C c2 cq F;go_wp2_with fail;refine ψ Z.o ?_;rintro e w4⟨s,o,rfl,hP,QL,a3,a7⟩;have P:=ω QL;have H:J (Na ds bs (k:Int) (g:Int) ((bs.length+1:Nat):Int) 0 (bs++[(g,s)])/\aA (λk=>k=x\/fv.ownBlock=some k) w w4/\(∀ad,o.ownBlock=some ad->fv.ownBlock=some ad\/w.heap.size<=ad)) :=
     ⟨υ (υ (υ ⟨Hi.o,k,g,d,s,rfl,rfl,a6,aa.o,by have:=W.o;omega,rfl,rfl,rfl,hP⟩)),(E.o.wide (λk e=>τ e)).trans a3,λad hb=>(a7 ad hb).imp id (λA=>ς E.o.size A)⟩
    clear Z af hP QL a3 a7 E U;go_wp2_with fail;refine leaves_cons (f:=31) (args:=#[.pointer (some (z x))]) Ω (by simp[go_sem]) ?_;refine(unlock_deferred muLib (z x) .returning _ ((P.o.blk.cell 0).trans rfl) (P.o.blk.frozen 0)).mono ?_;rintro e Q R⟨rfl,rfl,rfl⟩;exact⟨_,results_tmp2 rfl _ _ _,_,_,_,o,rfl,H.o.1,P.o.turn 0,aA.setCell (M:=λk=>k=x\/fv.ownBlock=some k) (p:=(z x)) H.o.2.1 (τ rfl) _,H.o.2.2⟩
 .have m:J<|∀r,r=dS ds [i,j]->Na ds bs i j 0 r bs:=λr A=>τ ⟨c,rfl,A,rfl⟩;have hn:=UL c;generalize dS ds [i,j]=v at *;rcases hn with rfl|rfl
  all_goals
  clear c;go_wp2_with fail;refine leaves_cons (f:=31) (args:=#[.pointer (some (z x))]) Ω (by simp[go_sem]) ?_;refine(unlock_deferred muLib (z x) .returning _ ((a.o.blk.cell 0).trans rfl) (a.o.blk.frozen 0)).mono ?_;rintro e Q R⟨rfl,rfl,rfl⟩;exact⟨_,results_tmp2 rfl _ _ _,_,_,bs,fv,rfl,m.o _ rfl,K.o⟩
def ug(bs:List (Nat×ByteArray))(f:Int):ByteArray×Int:=if 1<=f/\f<=bs.length then(((bs[f.toNat-1]?.map Prod.snd).getD ⟨#[]⟩),0) else(⟨#[]⟩,9)
def Qk(w:World)(x q cap:Nat)(fv:Value)(ds:List bI)(bs:List (Nat×ByteArray))(d:aV w x q cap fv 0 ds bs)(o:∀p∈bs,p.2.size<=1000000000)(f:Int):Calls prog 45 #[.pointer (some (z x)),I f] w λe w'=>e=.returned (.tuple #[.string (ug bs f).1,I (ug bs f).2])/\aV w' x q cap fv 0 ds bs/\aA (λk=>k=x) w w':=by
 have P:=ω d;have y:w.cell? (z x)=some (.int .i32 0):=(d.blk.cell 0).trans rfl;have B:=d.blk.frozen 0;have b:=ω<|d.turn 1
 have A:J<|aA (λk=>k=x) w (w.setCell (z x) (.int .i32 1)):=gZ (M:=λk=>k=x) rfl _;have T:=d.FK;clear d;generalize v:w.setCell (z x) (.int .i32 1)=j at *;have t:=ω v;clear v;by_cases g:1<=f/\f<=bs.length
 .obtain⟨k,rfl⟩:∃k:Nat,f=(k:Int)+1:=⟨(f-1).toNat,V⟩;have m:k<bs.length:=V
  have h:J<|∀a,aV a x q cap fv 1 ds bs->Calls prog 42 #[.pointer (some (z x)),I ((k:Int)+1)] a λe w'=>e=.returned (.bool true)/\w'=a:=λa n=>by have:=jV a x q cap fv 1 ds bs n ((k:Int)+1);rw[decide_eq_true g]at this;exact this
  have i:J<|ug bs ((k:Int)+1)=(bs[k].2,0):=by
   unfold J ug;rw[ώ g];have:((k:Int)+1).toNat-1=k:=V
   rw[this];simp[m]
  have H:=o _ (κ m);obtain⟨u,c,rfl⟩:=dK b.o.fr V;have E:j.cell? (O x 3)=some (.slice (some (z u)) bs.length c):=(b.o.blk.cell 3).trans rfl;have F:j.cell? (O u (k*2+1))=some (.string bs[k].2):=by rw[b.o.fr.cellAt (k*2+1) V];exact(tZ bs k m).2
  have U:bs.length<=c:=by obtain⟨Q,R,G,S⟩:=b.o.fvS;simp only[ϑa]at G;omega
  rw[i.o];generalize bs[k].2=D at *;have s:J<|_:=Qi D j H;clear g o i;go_enter_defers func45,ntmps45;go_wp2_with (go_at_call 30;refine(lock_free muLib (z x) _ y B).mono ?_;rintro e w'⟨rfl,rfl⟩);rw[t.o];refine ψ (h.o _ b.o) ?_;rintro e L⟨rfl,rfl⟩;clear h;go_wp2_with fail;refine ψ s.o ?_;rintro e W⟨rfl,l⟩;have r:=ω<|b.o.below l
  have C:=ω<|A.o.below l
  clear s l E F;go_wp2_with fail;refine leaves_cons (f:=31) (args:=#[.pointer (some (z x))]) Ω (by simp[go_sem]) ?_;refine(unlock_deferred muLib (z x) .returning _ ((r.o.blk.cell 0).trans rfl) (r.o.blk.frozen 0)).mono ?_;rintro e K N⟨rfl,rfl,rfl⟩;exact⟨_,results_tmp2 rfl _ _ _,rfl,r.o.turn 0,aA.setCell (M:=λk=>k=x) (p:=(z x)) C.o rfl _⟩
 .have h:J<|∀a,aV a x q cap fv 1 ds bs->Calls prog 42 #[.pointer (some (z x)),I f] a λe w'=>e=.returned (.bool false)/\w'=a:=λa n=>by have:=jV a x q cap fv 1 ds bs n f;rw[decide_eq_false g]at this;exact this
  have i:ug bs f=(⟨#[]⟩,9):=by unfold ug;rw[ύ g]
  rw[i];clear g o i;go_enter_defers func45,ntmps45;go_wp2_with (go_at_call 30;refine(lock_free muLib (z x) _ y B).mono ?_;rintro e w'⟨rfl,rfl⟩);rw[t.o];refine ψ (h.o _ b.o) ?_;rintro e L⟨rfl,rfl⟩;clear h;go_wp2_with fail;refine leaves_cons (f:=31) (args:=#[.pointer (some (z x))]) Ω (by simp[go_sem]) ?_;refine(unlock_deferred muLib (z x) .returning _ ((b.o.blk.cell 0).trans rfl) (b.o.blk.frozen 0)).mono ?_;rintro e K N⟨rfl,rfl,rfl⟩;exact⟨_,results_tmp2 rfl _ _ _,rfl,b.o.turn 0,aA.setCell (M:=λk=>k=x) (p:=(z x)) A.o rfl _⟩
def XZ(w:World)(x q cap:Nat)(fv:Value)(ds:List bI)(bs:List (Nat×ByteArray))(c:aV w x q cap fv 0 ds bs)(f:Int)(h:¬(1<=f/\f<=bs.length)):Calls prog 15 #[.pointer (some (z x)),I f] w λe w'=>e=.returned (.tuple #[I 0,I 9])/\aV w' x q cap fv 0 ds bs/\aA (λk=>k=x) w w':=by
 have l:w.cell? (z x)=some (.int .i32 0):=(c.blk.cell 0).trans rfl;have n:=c.blk.frozen 0;have b:=ω<|c.turn 1
 have m:J<|aA (λk=>k=x) w (w.setCell (z x) (.int .i32 1)):=gZ (M:=λk=>k=x) rfl _;clear c;generalize g:w.setCell (z x) (.int .i32 1)=o at *;have i:=ω g;clear g;have d:J<|∀a,aV a x q cap fv 1 ds bs->Calls prog 42 #[.pointer (some (z x)),I f] a λe w'=>e=.returned (.bool false)/\w'=a:=λa j=>by have:=jV a x q cap fv 1 ds bs j f;rw[decide_eq_false h]at this;exact this
 clear h;go_enter_defers func15,ntmps15;go_wp2_with (go_at_call 30;refine(lock_free muLib (z x) _ l n).mono ?_;rintro e w'⟨rfl,rfl⟩);rw[i.o];refine ψ (d.o _ b.o) ?_;rintro e s⟨rfl,rfl⟩;clear d;go_wp2_with fail;refine leaves_cons (f:=31) (args:=#[.pointer (some (z x))]) Ω (by simp[go_sem]) ?_;refine(unlock_deferred muLib (z x) .returning _ ((b.o.blk.cell 0).trans rfl) (b.o.blk.frozen 0)).mono ?_;rintro e r t⟨rfl,rfl,rfl⟩;exact⟨_,results_tmp2 rfl _ _ _,rfl,b.o.turn 0,aA.setCell (M:=λk=>k=x) (p:=(z x)) m.o rfl _⟩
def BF(w:World)(x q cap:Nat)(fv:Value)(ds:List bI)(bs:List (Nat×ByteArray))(i:aV w x q cap fv 0 ds bs)(k:Nat)(F:k<bs.length)(M:Nat->Prop)(A:M x)(Q:Int->Int->World->Prop)(v:∀wx,aV wx x q cap fv 1 ds bs->aA (λk=>k=x) w wx->Calls prog 43 #[.pointer (some (z x)),I (bs[k].1),.string bs[k].2] wx λe w'=>∃n r h g d,e=.returned (.tuple #[I n,I r])/\aV w' x q cap h 1 g d/\(aV (w'.setCell (z x) (.int .i32 0)) x q cap h 0 g d->aA M w (w'.setCell (z x) (.int .i32 0))->Q n r (w'.setCell (z x) (.int .i32 0)))/\aA M w w'):Calls prog 15 #[.pointer (some (z x)),I ((k:Int)+1)] w λe w'=>∃n r,e=.returned (.tuple #[I n,I r])/\Q n r w':=by
 have G:w.cell? (z x)=some (.int .i32 0):=(i.blk.cell 0).trans rfl;have H:=i.blk.frozen 0;have b:=ω<|i.turn 1
 have Y:J<|aA (λk=>k=x) w (w.setCell (z x) (.int .i32 1)):=gZ (M:=λk=>k=x) rfl _;have a0:=i.FK;clear i;generalize C:w.setCell (z x) (.int .i32 1)=a at *;have K:=ω C;clear C;have t:J<|∀wx,aV wx x q cap fv 1 ds bs->Calls prog 42 #[.pointer (some (z x)),I ((k:Int)+1)] wx λe w'=>e=.returned (.bool true)/\w'=wx:=λwx l=>by have:=jV wx x q cap fv 1 ds bs l ((k:Int)+1);rw[decide_eq_true V]at this;exact this
 obtain⟨m,c,j⟩:=dK b.o.fr V;have P:a.cell? (O x 3)=some (.slice (some (z m)) bs.length c):=by rw[<- j];exact(b.o.blk.cell 3).trans rfl
 have R:a.cell? (O m (k*2))=some (I (bs[k].1)):=by have:=b.o.fr;rw[j]at this;rw[this.cellAt (k*2) V];exact(tZ bs k F).1
 have S:a.cell? (O m (k*2+1))=some (.string bs[k].2):=by have:=b.o.fr;rw[j]at this;rw[this.cellAt (k*2+1) V];exact(tZ bs k F).2
 have a2:IntKind.i64.wrap (k:Int)=(k:Int):=wrap_in _ V V;have a3:(0:Int)<=(k:Int):=V
 have Z:(k:Int)<(bs.length:Int):=V
 have a1:bs.length<=c:=by obtain⟨ao,c',y,e2⟩:=b.o.fvS;rw[j]at y;simp only[ϑa]at y;omega
 have s:J<|∀wx,wx.heap=a.heap->wx.os=a.os->wx.tape=a.tape->wx.output=a.output->Calls prog 43 #[.pointer (some (z x)),I (bs[k].1),.string bs[k].2] wx λe w'=>∃n r h g d,e=.returned (.tuple #[I n,I r])/\aV w' x q cap h 1 g d/\(aV (w'.setCell (z x) (.int .i32 0)) x q cap h 0 g d->aA M w (w'.setCell (z x) (.int .i32 0))->Q n r (w'.setCell (z x) (.int .i32 0)))/\aA M w w':=λwx l U X W=>by have D:Below a.heap.size a wx:=⟨U,X,W,by rw[l];exact χ _,λk _=>by rw[l]⟩;exact v wx (b.o.below D) (Y.o.below D)
 have T:=ω A;clear v j A;generalize bs[k].1=dn at *;generalize bs[k].2=bt at *;go_enter_defers func15,ntmps15;go_wp2_with (go_at_call 30;refine(lock_free muLib (z x) _ G H).mono ?_;rintro e w'⟨rfl,rfl⟩);rw[K.o];refine ψ (t.o _ b.o) ?_;rintro e w2⟨rfl,rfl⟩;clear t G H;go_wp2_with fail;refine wp_region_noPanic ?_
 go_region_law (go_simp;refine ψ (s.o _ rfl rfl rfl rfl) ?_;rintro e w3⟨n,r,h,g,d,rfl,u,B,E⟩)
 all_goals
  refine NoPanic.normal ?_;have o:=ω u;have N:=ω B;have L:=ω E;clear s P R S u B E;go_wp2_with fail;refine leaves_cons (f:=31) (args:=#[.pointer (some (z x))]) Ω (by simp[go_sem]) ?_;refine(unlock_deferred muLib (z x) .returning _ ((o.o.blk.cell 0).trans rfl) (o.o.blk.frozen 0)).mono ?_;rintro e u' w9⟨rfl,rfl,rfl⟩;exact⟨_,results_tmp2 rfl _ _ _,n,r,rfl,N.o (o.o.turn 0) (L.o.setCell (p:=(z x)) T.o _)⟩
def yT{x q cap:Nat}{fv:Value}{st:Int}{bs:List (Nat×ByteArray)}(b:aV w x q cap fv st ds bs){k:Nat}(c:k<ds.length):Calls prog 32 #[.pointer (some (z x)),.slice (some (z w.heap.size)) 1 1] (w.alloc (.cells #[I k] 3)) λe w'=>e=.returned (I (if ds[k].dd.isSome then 3 else 0))/\Below w.heap.size w w':=by
 have a:Below w.heap.size w (w.alloc (.cells #[I k] 3)):=(φ _ w).alloc (χ _) _;have d:aK ds (k:Int)=if ds[k].dd.isSome then 3 else 0:=by unfold aK;rw[ώ V,qB ds k c]
 have:=lD (w.alloc (.cells #[I k] 3)) x q cap fv st ds bs (b.below a) w.heap.size (k:Int) (((aC.new w #[I k] 3).cell 0).trans rfl);rw[d]at this;refine ψ this ?_;rintro e w'⟨rfl,rfl⟩;exact⟨rfl,a⟩
def X0(w:World)(x q cap:Nat)(fv:Value)(ds:List bI)(bs:List (Nat×ByteArray))(f:aV w x q cap fv 1 ds bs)(k:Nat)(m:k<ds.length)(o:ds[k].dd=none)(s:ByteArray)(n:s.size<=900000)(i:fB (ay s)=none):Calls prog 43 #[.pointer (some (z x)),I k,.string s] w λe w'=>e=.returned (.tuple #[I 0,I 9])/\Below w.heap.size w w':=by
 have a:=yT f m;rw[o]at a;have a:J<|_:=a;have d:J<|∀b,Below w.heap.size w b->Calls prog 92 #[.string s] b λe w'=>e=.returned (.tuple #[.agg #[I 0,I 0,.bool false,.map none,.map none,.map none],.bool false])/\Below w.heap.size w w':=λb g=>by refine ψ (Um b s n i) ?_;rintro e w'⟨rfl,l⟩;exact⟨rfl,g.trans (l.mono g.size)⟩
 clear f i;go_enter func43,ntmps43;go_wp2_with fail;refine ψ a.o ?_;rintro e r⟨rfl,h⟩;go_wp2_with fail;refine ψ (d.o _ h) ?_;rintro e t⟨rfl,c⟩;have j:=ω<|λp=>c.alloc c.size p
 clear d a h c;go_wp2_with fail;go_ret2;exact⟨rfl,j.o _⟩
def GK(w:World)(x q cap:Nat)(fv:Value)(ds:List bI)(bs:List (Nat×ByteArray))(b:aV w x q cap fv 1 ds bs)(k:Nat)(g:k<ds.length)(d:ds[k].dd.isSome=true)(s:ByteArray):Calls prog 43 #[.pointer (some (z x)),I k,.string s] w λe w'=>e=.returned (.tuple #[I 0,I 3])/\Below w.heap.size w w':=by have a:=yT b g;rw[d]at a;have a:J<|_:=a;clear b d;go_enter func43,ntmps43;go_wp2_with fail;refine ψ a.o ?_;rintro e h⟨rfl,c⟩;have f:=ω c;clear a c;go_wp2_with fail;go_ret2;exact⟨rfl,f.o⟩
def RD.ack(r:RD)(j m:Nat):RD:={ r with pv:=r.pv,dr:=r.dr,A:=(λx=>if x=j then max (r.A j) m else r.A x),ps:=r.ps }
def Ei(B:Nat)(r:RD)(j m:Nat):jo B r (r.ack j m):=⟨rfl,rfl,id,rfl,λb a=>τ a⟩
def X3(w:World)(x q cap:Nat)(fv:Value)(ds:List bI)(bs:List (Nat×ByteArray))(d:aV w x q cap fv 1 ds bs)(k:Nat)(g:k<ds.length)(Q:ds[k].dd=none)(s:ByteArray)(a m:Nat)(t:a<ds.length)(u:a≠k)(L:m<=505)(D:ay s=bM (kG a m)):Calls prog 43 #[.pointer (some (z x)),I k,.string s] w λe w'=>e=.returned (.tuple #[I 0,I 0])/\aV w' x q cap fv 1 (ds.set k (ds[k].ack a m)) bs/\aA ds[k].own w w':=by
 have c:=yT d g;rw[Q]at c;have c:J<|_:=c;have K:a<=5:=by have:=d.len;omega
 have C:=((d.ra k g).2.2 a).2 ⟨t,u⟩;have o:=ω d;have p:J<|∀wx,Below w.heap.size w wx->Calls prog 92 #[.string s] wx λe w'=>e=.returned (.tuple #[.agg #[I a,I m,.bool true,.map none,.map none,.map none],.bool true])/\Below w.heap.size w w':=λwx v=>by refine ψ (Ul wx s a m K L D) ?_;rintro e w'⟨rfl,j⟩;exact⟨rfl,v.trans (j.mono v.size)⟩
 clear d D;go_enter func43,ntmps43;go_wp2_with fail;refine ψ c.o ?_;rintro e Y⟨rfl,y⟩;go_wp2_with fail;refine ψ (p.o _ y) ?_;rintro e n⟨rfl,l⟩;obtain⟨W,h⟩:∃W,W=n.alloc (.cells #[I a,I m,.bool true,.map none,.map none,.map none] 103):=⟨_,rfl⟩;have i:Below w.heap.size w W:=by rw[h];exact l.alloc l.size _
 have b:aC W n.heap.size #[I a,I m,.bool true,.map none,.map none,.map none] 103:=by rw[h];exact aC.new n _ _
 have f:=o.o.below i;have S:W.cell? (O x 2)=some (.slice (some (z q)) ds.length cap):=(f.blk.cell 2).trans rfl;have T:=f.cell k g;have f0:=(b.cell 0).trans rfl;have f1:=(b.cell 1).trans rfl;have f2:=(b.cell 2).trans rfl;have f3:=(b.cell 3).trans rfl;have f4:=(b.cell 4).trans rfl;have f5:=(b.cell 5).trans rfl;have U:=f.cap;have F:J<|∀wx,wx.heap=W.heap->wx.os=W.os->wx.tape=W.tape->wx.output=W.output->Calls prog 93 #[.pointer (some (z (ds[k].rb))),.agg #[I a,I m,.bool true,.map none,.map none,.map none]] wx λe w'=>e=.returned (.tuple #[])/\(aV w' x q cap fv 1 (ds.set k (ds[k].ack a m)) bs/\aA ds[k].own w w'):=λwx E M P N=>by have A:Below W.heap.size W wx:=⟨M,P,N,by rw[E];exact χ _,λk _=>by rw[E]⟩;have B:=f.below A;refine ψ (XI wx ds[k] (B.rep k g) a m none none none true C V) ?_;rintro e w'⟨rfl,j,r⟩;exact⟨rfl,B.renew k g j (Ei _ _ _ _) r,(aA.of_below (i.trans (A.mono i.size))).trans r⟩
 have G:=ω h;have R:(k:Int)<(ds.length:Int):=V
 generalize ds[k].rb=X at *;clear p c y l h i b f o C t u;go_wp2_with fail;rw[<- G.o];go_region_with (first|(go_at_call 93;refine ψ (F.o _ rfl rfl rfl rfl) ?_;rintro e Z⟨rfl,H⟩));all_goals
  go_wp2_with fail;go_ret2;exact⟨rfl,H⟩
def au8(B:Nat)(ds:List bI)(k:Nat)(hk:k<ds.length)(fr:Nat)(K:Nat->Nat)(C:Nat->Option Thk.Ch)(ds':List bI):Prop :=
 ((∀d,1<=nth d->¬eY ds[k] K C d)/\ds'=ds)\/((∃d,1<=nth d/\eY ds[k] K C d)/\∃r',yR B ds[k] fr K C r'/\ds'=ds.set k r')
def UN(w:World)(t:Glob w)(x q cap:Nat)(fv:Value)(ds:List bI)(bs:List (Nat×ByteArray))(i:aV w x q cap fv 1 ds bs)(k:Nat)(F:k<ds.length)(K:ds[k].dd=none)(s:ByteArray)(a m:Nat)(E:a<=5)(G:m<=505)(C:Nat->Prop)(y:Nat->Option Thk.Ch)(rs:List (Nat×Nat))(n:List (Nat×Thk.Bs))(v:ay s=bM (jI a m rs n))(d:dW C y rs n)(H:s.size<=900000)(r:500<=bs.length):Calls prog 43 #[.pointer (some (z x)),I k,.string s] w λe w'=>e=.returned (.tuple #[I 0,I 7])/\Below w.heap.size w w':=by
 have c:=yT i F;rw[K]at c;have c:J<|_:=c;have A:=ω i;have p:J<|∀b,Below w.heap.size w b->Calls prog 92 #[.string s] b λe w'=>∃g f h,e=.returned (.tuple #[.agg #[I a,I m,.bool false,.map (some g),.map (some f),.map (some h)],.bool true])/\Below w.heap.size w w':=λb j=>by refine ψ (yP b (t.mono j) s a m E G rs n v H d.r505 d.ro d.XD d.io) ?_;rintro e w'⟨g,f,h,rfl,_,_,D⟩;exact⟨g,f,h,rfl,j.trans (D.mono j.size)⟩
 have B:J<|∀b,aV b x q cap fv 1 ds bs->Calls prog 39 #[.pointer (some (z x))] b λe w'=>e=.returned (.bool true)/\w'=b:=λb L=>by have:=oC b x q cap fv 1 ds bs L;rw[decide_eq_true r]at this;exact this
 clear i v d r t;go_enter func43,ntmps43;go_wp2_with fail;refine ψ c.o ?_;rintro e N⟨rfl,u⟩;go_wp2_with fail;refine ψ (p.o _ u) ?_;rintro e P⟨g,f,h,rfl,l⟩;have o:=ω<|λM=>l.alloc l.size M
 clear p c u l;go_wp2_with fail;refine ψ (B.o _ (A.o.below (o.o _))) ?_;rintro e Q⟨rfl,rfl⟩;go_wp2_with fail;go_ret2;exact⟨rfl,o.o _⟩
