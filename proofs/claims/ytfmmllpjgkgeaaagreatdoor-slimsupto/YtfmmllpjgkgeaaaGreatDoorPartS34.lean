import Derived.Conc.MuLone
import Derived.Conc.MuData
import Derived.Test.YtfmmllpjgkgeaaaGreatDoorPartS23
import Derived.Test.YtfmmllpjgkgeaaaGreatDoorPartS33
set_option linter.unusedVariables false
set_option linter.unusedSimpArgs false
set_option maxHeartbeats 16000000
set_option maxRecDepth 100000
namespace Go.Proofs
open Go.Proofs.Tryz
abbrev YtfmmllpjgkgeaaaGreatDoor.muLink:Go.Conc.Locks.MuLink:={ lock:=43,unlock:=44,ilock:=77,iunlock:=78,lockSlow:=132,unlockSlow:=135,disable:=128,enable:=130,acquire:=131,relMerge:=133,cas32:=129,add32:=134,tMutex:=75,tIMutex:=73,tPMutex:=121,tPIMutex:=184,tPI32:=186,tUP:=188,tNoCopy:=70,tU32:=71 }
theorem YtfmmllpjgkgeaaaGreatDoor.muLib:Go.Conc.Locks.MuLib prog YtfmmllpjgkgeaaaGreatDoor.muLink :=
 ⟨func43,func44,func77,func78,func128,func130,func131,func133,func129,func134,
  underlying73,runUnderlying73,sizeOf73,isAgg73,zeroValue73,underlying75,runUnderlying75,sizeOf75,isAgg75,zeroValue75,underlying121,runUnderlying121,sizeOf121,isAgg121,zeroValue121,underlying184,runUnderlying184,sizeOf184,isAgg184,zeroValue184,underlying186,runUnderlying186,sizeOf186,isAgg186,zeroValue186,underlying188,runUnderlying188,sizeOf188,isAgg188,zeroValue188,underlying70,runUnderlying70,sizeOf70,isAgg70,zeroValue70,underlying21,runUnderlying21,sizeOf21,isAgg21,zeroValue21,(by kernel_rfl)⟩
end Go.Proofs
namespace Go.Proofs.YtfmmllpjgkgeaaaGreatDoor
open Go.Proofs.Tryz Go.RowKit Go.Maps Go.WideMaps
abbrev RepD:=RD
def JE(bs:List (Nat×ByteArray)):List Value:=bs.flatMap λb=>[.int .i64 b.1,.string b.2]
theorem NH(bs:List (Nat×ByteArray))(b:Nat×ByteArray):JE (bs++[b])=JE bs++[.int .i64 b.1,.string b.2]:=by simp[JE]
theorem mM:∀(bs:List (Nat×ByteArray))(i:Nat)(h:i<bs.length),(JE bs)[i*2]?=some (.int .i64 (bs[i].1))/\(JE bs)[i*2+1]?=some (.string bs[i].2)
 | [],i,h=>by simp at h
 | b::r,0,h=>by simp[JE]
 | b::r,i+1,h=>by have:=mM r i (by simpa using h);have e:JE (b::r)=[.int .i64 b.1,.string b.2]++JE r:=rfl;rw[e,ϋ Θ,ϋ Θ];simp only[δ,List.length_nil,List.getElem_cons_succ];rw[show(i+1)*2-(0+1+1)=i*2 by omega,show(i+1)*2+1-(0+1+1)=i*2+1 by omega];exact this
structure CluP(w:World)(x q cap:Nat)(fv:Value)(st:Int)(ds:List RepD)(bs:List (Nat×ByteArray)):Prop where
 blk:ah w x #[.int .i32 st,.int .u32 0,.slice (some (z q)) ds.length cap,fv] 79
 row:∃cs,ah w q cs 81/\∀j(h:j<ds.length),cs[j]?=some (.pointer (some (z (ds[j].rb))))
 fr:w.ownsRow 0 109 2 fv bs.length (JE bs)
 rep:∀j(h:j<ds.length),bH w ds[j]
 ra:∀j(h:j<ds.length),ds[j].a=j/\ds[j].cut=false/\∀i,i∈ds[j].nb↔i<ds.length/\i≠j
 apart:∀i j(hi:i<ds.length)(hj:j<ds.length),i≠j->∀k,ds[i].own k->¬ds[j].own k
 xr:∀j(h:j<ds.length),¬ds[j].own x
 qr:∀j(h:j<ds.length),¬ds[j].own q
 len:ds.length<=6
 cap:ds.length<=cap
 x4:4<=x
 b500:bs.length<=500
section
variable{w w':World}{x q cap:Nat}{fv:Value}{st:Int}{ds:List RepD}{bs:List (Nat×ByteArray)}
theorem CluP.Rq(h:CluP w x q cap fv st ds bs):∀g,fv.ownBlock=some g->Tagged w g 109:=by
 intro g a;obtain⟨_,c|⟨e,cap,b,rfl,_,d,_⟩⟩:=h.fr
 .rw[c.1]at a;cases a
 .cases a;exact⟨b,d⟩
theorem CluP.xq(h:CluP w x q cap fv st ds bs):x≠q:=by
 intro e;obtain⟨c,b,_⟩:=h.row;have:=h.blk;subst e;have a:some (Obj.cells _ _ _)=some (Obj.cells _ _ _):=(show w.heap[x]?=_ from this).symm.trans b;injection a with a
 injection a with _ e3;exact absurd e3 Ψ
theorem CluP.chg{M:Nat->Prop}(h:CluP w x q cap fv st ds bs)(a:Chg M w w')(d:¬M x)(e:¬M q)(f:∀j(h:j<ds.length)k,ds[j].own k->¬M k)(i:∀g,fv.ownBlock=some g->¬M g):CluP w' x q cap fv st ds bs:=by obtain⟨c,l,m⟩:=h.row;exact⟨h.blk.chg a d,⟨c,l.chg a e,m⟩,ownsRow_chg h.fr a i,λj b=>(h.rep j b).chg a (f j b),h.ra,h.apart,h.xr,h.qr,h.len,h.cap,h.x4,h.b500⟩
theorem CluP.below(h:CluP w x q cap fv st ds bs)(a:Below w.heap.size w w'):CluP w' x q cap fv st ds bs:=h.chg (M:=λ_=>False) (Chg.of_below a) (λh=>h) (λh=>h) (λ_ _ _ _ h=>h) (λ_ _ h=>h)
theorem CluP.cell(h:CluP w x q cap fv st ds bs)(j:Nat)(a:j<ds.length):w.cell? (O q j)=some (.pointer (some (z (ds[j].rb)))):=by obtain⟨d,b,c⟩:=h.row;exact(b.cell j).trans (c j a)
theorem CluP.turn(h:CluP w x q cap fv st ds bs)(b:Int):CluP (w.setCell (z x) (.int .i32 b)) x q cap fv b ds bs:=by have a:Chg (λk=>k=x) w (w.setCell (z x) (.int .i32 b)):=Chg.setCell (M:=λk=>k=x) (p:=(z x)) (Chg.refl _ w) rfl _;obtain⟨f,m,n⟩:=h.row;refine⟨?_,⟨f,m.chg a (Ne.symm h.xq),n⟩,ownsRow_chg h.fr a (λg i e=>Tagged.ne (h.Rq g i) ⟨_,h.blk⟩ Ψ e),λj d=>(h.rep j d).chg a (λk l e=>h.xr j d (e▸l)),h.ra,h.apart,h.xr,h.qr,h.len,h.cap,h.x4,h.b500⟩;have c:=h.blk;unfold ah at c⊢;simp[World.setCell,μ,c]
end
def mO(n:Nat)(l:List Int):Int:=if ∀i∈l,0<=i/\i<n then 0 else 2
def namedR(n:Nat)(i:Int):Int:=if 0<=i/\i<n then 0 else 2
theorem NI(n:Nat)(i:Int):mO n [i]=namedR n i:=by unfold mO namedR;simp
theorem NJ(n:Nat)(i j:Int):mO n [i,j]=if(0<=i/\i<n)/\(0<=j/\j<n)then 0 else 2:=by unfold mO;simp
theorem CluP.Uj{w:World}{x q cap:Nat}{fv:Value}{st:Int}{ds:List RepD}{bs:List (Nat×ByteArray)}(h:CluP w x q cap fv st ds bs)(j:Nat)(a:j<ds.length):mD w ds[j].rb j ds[j].io ds[j].co ds[j].lo ds[j].K ds[j].C:=by have:=(h.rep j a).rep;rw[(h.ra j a).1]at this;exact this
theorem wZ(w:World)(x q cap L:Nat)(c2:w.cell? (O x 2)=some (.slice (some (z q)) L cap))(i:Int):Calls prog 61 #[.pointer (some (z x)),.int .i64 i] w λe w'=>e=.returned (.bool (decide (0<=i/\i<L)))/\w'=w:=by
 by_cases a:0<=i
 .by_cases b:i<L
  .have e:decide (0<=i/\i<L)=true:=by simp[a,b]
   rw[e];have c:decide ((0:Int)<=i)=true:=by simpa using a
   have hd1:decide (i<(L:Int))=true:=by simpa using b
   clear e;go_enter func61,ntmps61;go_wp2;go_ret;exact⟨rfl,rfl⟩
  .have e:decide (0<=i/\i<L)=false:=by simp[b]
   rw[e];have c:decide ((0:Int)<=i)=true:=by simpa using a
   have hd1:decide (i<(L:Int))=false:=by simpa using b
   clear e;go_enter func61,ntmps61;go_wp2;go_ret;exact⟨rfl,rfl⟩
 .have e:decide (0<=i/\i<L)=false:=by simp[a]
  rw[e];have c:decide ((0:Int)<=i)=false:=by simpa using a
  clear e;go_enter func61,ntmps61;go_wp2;go_ret;exact⟨rfl,rfl⟩
theorem vO(w:World)(x q cap:Nat)(fv:Value)(st:Int)(ds:List RepD)(bs:List (Nat×ByteArray))(a:CluP w x q cap fv st ds bs)(g:Nat)(l:List Int)(T:l.length<=10)(s:∀j(h:j<l.length),w.cell? (O g j)=some (.int .i64 l[j])):Calls prog 45 #[.pointer (some (z x)),.slice (some (z g)) l.length l.length] w λe w'=>e=.returned (.int .i64 (mO ds.length l))/\w'=w:=by
 have F:w.cell? (O x 2)=some (.slice (some (z q)) ds.length cap):=(a.blk.cell 2).trans rfl;have U:=a.len;have f:J<|ds.length<=cap/\∀(k:Nat)(h:k<ds.length),w.cell? (O q k)=some (.pointer (some (z (ds[k].rb))))/\Calls prog 62 #[.pointer (some (z (ds[k].rb)))] w λe w'=>e=.returned (.bool false)/\w'=w:=⟨a.cap,λk h=>⟨a.cell k h,FQ w ds[k] (a.rep k h)⟩⟩;have o:J<|∀i,Calls prog 61 #[.pointer (some (z x)),.int .i64 i] w λe w'=>e=.returned (.bool (decide (0<=i/\i<ds.length)))/\w'=w:=λi=>wZ w x q cap ds.length F i;clear a;have p:J<|mO ds.length l=if ∀i∈l,0<=i/\i<ds.length then 0 else 2:=rfl;generalize mO ds.length l=R at *;have C:J<|∀j(h:j<l.length),w.cell? (O g j)=some (.int .i64 l[j]):=s;clear s;go_enter func45,ntmps45;go_wp2;go_loopg [6,9] l.length (λG Y L N=>∃i:Nat,i+G=l.length/\L=.int .i64 i/\J (∀j(h:j<l.length),j<i->0<=l[j]/\l[j]<ds.length)/\N=w);case atStart=>exact⟨0,V,rfl,λj _ h=>absurd h V,rfl⟩
 case round =>
  obtain⟨i,Q,rfl,t,rfl⟩:=hrel;by_cases v:i<l.length
  .have P:=C.o i v;have D:J<|l[i]∈l:=κ v;have B:J<|∀j(h:j<l.length),j<i+1->j<i\/l[j]=l[i]:=λj h r=>by
    by_cases e:j=i
    .subst e;exact υ rfl
    .exact τ V
   generalize l[i]=y at *;by_cases c:0<=y/\y<(ds.length:Int)
   .have n:J<|0<=y/\y<(ds.length:Int):=c;have d:decide (0<=y/\y<(ds.length:Int))=true:=by simpa using c
    obtain⟨k,rfl⟩:∃k:Nat,y=(k:Int):=⟨y.toNat,V⟩;have u:k<ds.length:=V
    have S:=f.o.1;have W:=(f.o.2 k u).1;have A:J<|_:=(f.o.2 k u).2;generalize ds[k].rb=X at *;have b:=o.o (k:Int);rw[d]at b;clear d;go_wp2_with fail;refine ψ b ?_;rintro e M⟨rfl,rfl⟩;go_wp2_with fail;refine ψ A.o ?_;rintro e Z⟨rfl,rfl⟩;go_wp2;go_roundg (l.length-(i+1));case measure=>omega
    case rel=>exact⟨i+1,V,Λ,λj h r=>by
     rcases B.o j h r with m|m
     .exact t.o j h m
     .rw[m];exact n.o,rfl⟩
   .have d:decide (0<=y/\y<(ds.length:Int))=false:=by simpa using c
    have E:J<|¬(0<=y/\y<(ds.length:Int)):=c;have b:=o.o y;rw[d]at b;clear d c;go_wp2_with fail;refine ψ b ?_;rintro e M⟨rfl,rfl⟩;go_wp2;go_ret;exact⟨by rw[p.o,ύ (λh=>E.o (h y D.o))];rfl,rfl⟩
  .have n:J<|∀y∈l,0<=y/\y<(ds.length:Int):=λy K=>by obtain⟨j,H,rfl⟩:=List.getElem_of_mem K;exact t.o j H V
   go_wp2;go_ret;exact⟨by rw[p.o,ώ n.o];rfl,rfl⟩
theorem iT(w:World)(x q cap:Nat)(fv:Value)(st:Int)(ds:List RepD)(bs:List (Nat×ByteArray))(a:CluP w x q cap fv st ds bs)(g:Nat)(i:Int)(b:w.cell? (z g)=some (.int .i64 i)):Calls prog 45 #[.pointer (some (z x)),.slice (some (z g)) 1 1] w λe w'=>e=.returned (.int .i64 (namedR ds.length i))/\w'=w:=by
 rw[<- NI];exact vO w x q cap fv st ds bs a g [i] Ω (λj h=>by
  have:j=0:=by simpa using h
  subst this;exact b)
theorem JF(w:World)(x q cap:Nat)(fv:Value)(st:Int)(ds:List RepD)(bs:List (Nat×ByteArray))(b:CluP w x q cap fv st ds bs)(g:Nat)(i j:Int)(c:w.cell? (z g)=some (.int .i64 i))(d:w.cell? (O g 1)=some (.int .i64 j)):Calls prog 45 #[.pointer (some (z x)),.slice (some (z g)) 2 2] w λe w'=>e=.returned (.int .i64 (mO ds.length [i,j]))/\w'=w:=by
 exact vO w x q cap fv st ds bs b g [i,j] Ω (λk h=>by
  have a:k<2:=by simpa using h
  match k,a with
  | 0,_=>exact c
  | 1,_=>exact d)
def ownN(ds:List RepD)(j:Nat):Nat:=(ds[j]?.map λd=>d.K j).getD 0
def sumN(ds:List RepD):Nat->Nat
 | 0=>0
 | k+1=>sumN ds k+ownN ds k
theorem GX(ds:List RepD)(k:Nat)(h:k<ds.length):ownN ds k=ds[k].K k:=by unfold ownN;simp[h]
theorem qP(ds:List RepD)(k:Nat)(h:k<ds.length):sumN ds (k+1)=sumN ds k+ds[k].K k:=by rw[sumN,GX ds k h]
theorem GY(ds:List RepD)(a:∀j(h:j<ds.length),ds[j].K j<=500):∀k,k<=ds.length->sumN ds k<=500*k
 | 0,_=>by simp[sumN]
 | k+1,h=>by rw[qP ds k V];have:=GY ds a k V;have:=a k V;omega
theorem FW(w:World)(x q cap:Nat)(fv:Value)(st:Int)(ds:List RepD)(bs:List (Nat×ByteArray))(c:CluP w x q cap fv st ds bs):Calls prog 48 #[.pointer (some (z x))] w λe w'=>e=.returned (.int .i64 (sumN ds ds.length))/\Below w.heap.size w w':=by
 have v:w.cell? (O x 2)=some (.slice (some (z q)) ds.length cap):=(c.blk.cell 2).trans rfl;have B:=c.len;have Hs:J<|∀k,k<=ds.length->sumN ds k<=500*k:=GY ds (λj h=>(c.rep j h).rY j);have m:J<|∀j(h:j<ds.length)b,Below w.heap.size w b->b.cell? (O q j)=some (.pointer (some (z (ds[j].rb))))/\Calls prog 86 #[.pointer (some (z (ds[j].rb)))] b λe w'=>e=.returned (.int .i64 (ds[j].K j))/\Below w.heap.size w w':=λj f b a=>by refine⟨(c.below a).cell j f,ψ (MR b _ _ _ _ _ _ _ ((c.below a).Uj j f)) ?_⟩;rintro e w'⟨rfl,p⟩;exact⟨rfl,a.trans (p.mono a.size)⟩
 clear c;go_enter func48,ntmps48;go_wp2;go_loopg [3,11] ds.length (λn u t b=>∃i:Nat,i+n=ds.length/\u=.int .i64 (sumN ds i)/\t=.int .i64 i/\Below w.heap.size w b);case atStart=>exact⟨0,V,rfl,rfl,φ _ w⟩
 case round =>
  obtain⟨i,y,rfl,rfl,a⟩:=hrel;by_cases g:i<ds.length
  .obtain⟨r,l⟩:=m.o i g _ a;have d:J<|_:=l;have C:=qP ds i g;have A:=Hs.o (i+1) V;clear l;generalize ds[i].K i=D at *;go_wp2_with fail;refine ψ d.o ?_;rintro e E⟨rfl,o⟩;clear d r;go_wp2_with fail;go_roundg (ds.length-(i+1));case measure=>omega
   case rel=>exact⟨i+1,V,Λ,Λ,o⟩
  .have s:i=ds.length:=V
   subst s;go_wp2_with fail;go_ret;exact⟨rfl,a⟩
end Go.Proofs.YtfmmllpjgkgeaaaGreatDoor
namespace Go.Proofs.YtfmmllpjgkgeaaaGreatDoor
open Go.Proofs.Tryz Go.RowKit Go.Maps Go.WideMaps Go.MuLone
variable{B fr:Nat}{K:Nat->Nat}{M:Nat->Prop}{r r':RD}{w w':World}
theorem dU{x:Nat}(h:M x)(v:Value):Chg M w (w.setCell (z x) v):=Chg.setCell (M:=M) (p:=(z x)) (Chg.refl _ w) h v
def mP(ds:List RepD)(i:Int):Int×Int:=if 0<=i/\i<ds.length then(((ds[i.toNat]?.map λd=>sizeK d.K).getD 0:Nat),0) else(0,2)
theorem FX(w:World)(x q cap:Nat)(fv:Value)(ds:List RepD)(bs:List (Nat×ByteArray))(c:CluP w x q cap fv 0 ds bs)(i:Int):Calls prog 22 #[.pointer (some (z x)),.int .i64 i] w λe w'=>e=.returned (.tuple #[.int .i64 (mP ds i).1,.int .i64 (mP ds i).2])/\CluP w' x q cap fv 0 ds bs/\Chg (λk=>k=x) w w':=by
 have C:J<|CluP w x q cap fv 0 ds bs:=c;have y:w.cell? (z x)=some (.int .i32 0):=(c.blk.cell 0).trans rfl;have B:w.frozen? (z x)=false:=c.blk.frozen 0;have a:J<|CluP (w.setCell (z x) (.int .i32 1)) x q cap fv 1 ds bs:=c.turn 1;have F:=c.blk.lt;clear c;go_enter_defers func22,ntmps22;go_wp2_with (go_at_call 43;refine(lock_free muLib (z x) _ y B).mono ?_;rintro e w'⟨rfl,rfl⟩);have l:Below (w.setCell (z x) (.int .i32 1)).heap.size (w.setCell (z x) (.int .i32 1)) ((w.setCell (z x) (.int .i32 1)).alloc (.cells #[.int .i64 i] 3)):=(φ _ _).alloc (χ _) _;have u:((w.setCell (z x) (.int .i32 1)).alloc (.cells #[.int .i64 i] 3)).cell? (z w.heap.size)=some (.int .i64 i):=by have:=(ah.new (w.setCell (z x) (.int .i32 1)) #[.int .i64 i] 3).cell 0;simpa using this
 have n:Chg (λk=>k=x) w ((w.setCell (z x) (.int .i32 1)).alloc (.cells #[.int .i64 i] 3)):=(dU (M:=λk=>k=x) rfl _).below l;have g:=a.o.below l;refine ψ (iT _ x q cap fv 1 ds bs g w.heap.size i u) ?_;rintro e h⟨rfl,v⟩;rw[<- v]at g n;clear u l v a y B F;have a:J<|CluP h x q cap fv 1 ds bs:=g;have s:J<|Chg (λk=>k=x) w h:=n;clear g n C;by_cases b:0<=i/\i<ds.length
 .obtain⟨k,rfl⟩:=Int.eq_ofNat_of_zero_le b.1;have o:k<ds.length:=V
  have d:namedR ds.length (k:Int)=0:=by unfold namedR;rw[ώ b]
  have r:J<|mP ds (k:Int)=((sizeK ds[k].K:Int),0):=by unfold J mP;rw[ώ b];simp[o]
  rw[d];have D:h.cell? (O x 2)=some (.slice (some (z q)) ds.length cap):=(a.o.blk.cell 2).trans rfl;have E:=a.o.cell k o;have t:J<|_:=kC h _ _ _ _ _ _ _ (a.o.Uj k o);clear d b;go_wp2_with fail;refine ψ t.o ?_;rintro e A⟨rfl,m⟩;have j:J<|CluP A x q cap fv 1 ds bs:=a.o.below m;have G:J<|Chg (λk=>k=x) w A:=s.o.below m;clear t a s m D E;go_wp2_with fail;refine leaves_cons (f:=44) (args:=#[.pointer (some (z x))]) Ω (by simp[go_sem]) ?_;refine(unlock_deferred muLib (z x) .returning _ ((j.o.blk.cell 0).trans rfl) (j.o.blk.frozen 0)).mono ?_;rintro e H K⟨rfl,rfl,rfl⟩;exact⟨_,results_tmp2 rfl _ _ _,by rw[r.o];rfl,j.o.turn 0,Chg.setCell (M:=λk=>k=x) (p:=(z x)) G.o rfl _⟩
 .have d:namedR ds.length i=2:=by unfold namedR;rw[ύ b]
  have r:J<|mP ds i=(0,2):=by unfold J mP;rw[ύ b]
  rw[d];clear d b;go_wp2_with fail;refine leaves_cons (f:=44) (args:=#[.pointer (some (z x))]) Ω (by simp[go_sem]) ?_;refine(unlock_deferred muLib (z x) .returning _ ((a.o.blk.cell 0).trans rfl) (a.o.blk.frozen 0)).mono ?_;rintro e H K⟨rfl,rfl,rfl⟩;exact⟨_,results_tmp2 rfl _ _ _,by rw[r.o];rfl,a.o.turn 0,Chg.setCell (M:=λk=>k=x) (p:=(z x)) s.o rfl _⟩
theorem Glob.Dv(j:Glob w)(b:Chg M w w')(l:∀k,M k->4<=k):Glob w':=by obtain⟨⟨n,g1⟩,⟨c,g2,e⟩,⟨d,g3,f⟩,h,i⟩:=j;have a:Below 4 w w':=⟨b.os,b.tape,b.output,b.size,λk o=>b.block k V (λm=>by have:=l k m;omega)⟩;refine⟨⟨n,(a.cell (p:=(z 0)) Ψ).trans g1⟩,⟨c,(a.cell (p:=(z 1)) Ψ).trans g2,e⟩,⟨d,(a.cell (p:=(z 2)) Ψ).trans g3,f⟩, ?_,ο i a.size⟩;exact var?_below (g:=3) a (by kernel_rfl) Ψ h
def Ul(ds:List RepD)(i:Int)(s t:ByteArray)(r:Int):Prop :=
 (¬(0<=i/\i<ds.length)/\t=⟨#[]⟩/\r=2)\/((0<=i/\i<ds.length)/\Thk.path (toL s)=false/\t=⟨#[]⟩/\r=4) \/
 ∃k,∃h:k<ds.length,i=(k:Int)/\Thk.path (toL s)=true/\r=0/\∃xs,gY (itOf ds[k].C) xs/\t=⟨(kP (toL s) xs).toArray⟩
theorem NK(w:World)(N:Glob w)(x q cap:Nat)(fv:Value)(ds:List RepD)(bs:List (Nat×ByteArray))(d:CluP w x q cap fv 0 ds bs)(R:∀j(h:j<ds.length),oI (gY (itOf ds[j].C)))(i:Int)(s:ByteArray)(S:s.size<=1048576):Calls prog 24 #[.pointer (some (z x)),.int .i64 i,.string s] w λe w'=>∃Y r,e=.returned (.tuple #[.string Y,.int .i64 r])/\Ul ds i s Y r/\CluP w' x q cap fv 0 ds bs/\Chg (λk=>k=x) w w':=by
 have a0:J<|∀j(h:j<ds.length),oI (gY (itOf ds[j].C)):=R;clear R;have G:J<|CluP w x q cap fv 0 ds bs:=d;have X:w.cell? (z x)=some (.int .i32 0):=(d.blk.cell 0).trans rfl;have z0:w.frozen? (z x)=false:=d.blk.frozen 0;have b:J<|CluP (w.setCell (z x) (.int .i32 1)) x q cap fv 1 ds bs:=d.turn 1;have H:J<|Glob w:=N;clear d N;go_enter_defers func24,ntmps24;go_wp2_with (go_at_call 43;refine(lock_free muLib (z x) _ X z0).mono ?_;rintro e w'⟨rfl,rfl⟩);have A:Below (w.setCell (z x) (.int .i32 1)).heap.size (w.setCell (z x) (.int .i32 1)) ((w.setCell (z x) (.int .i32 1)).alloc (.cells #[.int .i64 i] 3)):=(φ _ _).alloc (χ _) _;have P:((w.setCell (z x) (.int .i32 1)).alloc (.cells #[.int .i64 i] 3)).cell? (z w.heap.size)=some (.int .i64 i):=by have:=(ah.new (w.setCell (z x) (.int .i32 1)) #[.int .i64 i] 3).cell 0;simpa using this
 have n:Chg (λk=>k=x) w ((w.setCell (z x) (.int .i32 1)).alloc (.cells #[.int .i64 i] 3)):=(dU (M:=λk=>k=x) rfl _).below A;have l:=b.o.below A;refine ψ (iT _ x q cap fv 1 ds bs l w.heap.size i P) ?_;rintro e t⟨rfl,U⟩;rw[<- U]at l n;clear P A U b X z0;have u:J<|Glob t:=H.o.Dv n (λk e=>by subst e;exact G.o.x4);have b:J<|CluP t x q cap fv 1 ds bs:=l;have C:J<|Chg (λk=>k=x) w t:=n;clear l n G H;by_cases c:0<=i/\i<ds.length
 .obtain⟨k,rfl⟩:=Int.eq_ofNat_of_zero_le c.1;have o:k<ds.length:=V
  have v:J<|_:=c;have g:namedR ds.length (k:Int)=0:=by unfold namedR;rw[ώ c]
  rw[g];clear g c;obtain⟨m,Q⟩:=u.o.len;have K:J<|_:=oU s m t S Q;clear Q;go_wp2_with fail;refine ψ K.o ?_;rintro e a1⟨rfl,a2⟩;have a:J<|CluP a1 x q cap fv 1 ds bs:=b.o.below a2;have E:J<|Chg (λk=>k=x) w a1:=C.o.below a2;have F:J<|Glob a1:=u.o.mono a2;clear K b C u a2;cases hp:Thk.path (toL s) with
  | false =>have y:J<|_:=hp;clear hp;go_wp2_with fail;refine leaves_cons (f:=44) (args:=#[.pointer (some (z x))]) Ω (by simp[go_sem]) ?_;refine(unlock_deferred muLib (z x) .returning _ ((a.o.blk.cell 0).trans rfl) (a.o.blk.frozen 0)).mono ?_;rintro e Z w9⟨rfl,rfl,rfl⟩;exact⟨_,results_tmp2 rfl _ _ _,_,_,rfl,υ (τ ⟨v.o,y.o,rfl,rfl⟩),a.o.turn 0,Chg.setCell (M:=λk=>k=x) (p:=(z x)) E.o rfl _⟩
  | true =>have L:J<|_:=Dh a1 F.o _ _ _ _ _ _ _ (a.o.Uj k o) (a0.o k o) s S hp;have y:J<|_:=hp;have c2:a1.cell? (O x 2)=some (.slice (some (z q)) ds.length cap):=(a.o.blk.cell 2).trans rfl;have cq:=a.o.cell k o;clear hp F;go_wp2_with fail;refine ψ L.o ?_;rintro e w3⟨xs,W,rfl,B⟩;have D:J<|CluP w3 x q cap fv 1 ds bs:=a.o.below B;have rZ:J<|Chg (λk=>k=x) w w3:=E.o.below B;have Hx:J<|_:=W;clear L a E B c2 cq W;generalize T:(⟨(kP (toL s) xs).toArray⟩:ByteArray)=tt at *;have Ht:J<|_:=T.symm;clear T;go_wp2_with fail;refine leaves_cons (f:=44) (args:=#[.pointer (some (z x))]) Ω (by simp[go_sem]) ?_;refine(unlock_deferred muLib (z x) .returning _ ((D.o.blk.cell 0).trans rfl) (D.o.blk.frozen 0)).mono ?_;rintro e Z w9⟨rfl,rfl,rfl⟩;exact⟨_,results_tmp2 rfl _ _ _,_,_,rfl,υ (υ ⟨k,o,rfl,y.o,rfl,xs,Hx.o,Ht.o⟩),D.o.turn 0,Chg.setCell (M:=λk=>k=x) (p:=(z x)) rZ.o rfl _⟩
 .have g:namedR ds.length i=2:=by unfold namedR;rw[ύ c]
  have v:J<|_:=c;rw[g];clear g c;go_wp2_with fail;refine leaves_cons (f:=44) (args:=#[.pointer (some (z x))]) Ω (by simp[go_sem]) ?_;refine(unlock_deferred muLib (z x) .returning _ ((b.o.blk.cell 0).trans rfl) (b.o.blk.frozen 0)).mono ?_;rintro e Z w9⟨rfl,rfl,rfl⟩;exact⟨_,results_tmp2 rfl _ _ _,_,_,rfl,τ ⟨v.o,rfl,rfl⟩,b.o.turn 0,Chg.setCell (M:=λk=>k=x) (p:=(z x)) C.o rfl _⟩
theorem Chg.wide{a:Nat->Prop}(h:Chg M w w')(c:∀k,M k->a k):Chg a w w':=⟨h.os,h.tape,h.output,h.size,λk b d=>h.block k b (λe=>d (c k e))⟩
theorem Chg.then{w1 w2:World}(h:Chg M w w1)(a:Chg M w1 w2):Chg M w w2:=⟨a.os.trans h.os,a.tape.trans h.tape,a.output.trans h.output,ς h.size a.size,λk b c=>(a.block k (ο b h.size) c).trans (h.block k b c)⟩
structure kD(B:Nat)(r r':RD):Prop where
 rb:r'.rb=r.rb
 a:r'.a=r.a
 cut:r'.cut=r.cut
 nb:r'.nb=r.nb
 own:∀b,r'.own b->r.own b\/B<=b
theorem kD.mono{a:Nat}(h:kD B r r')(c:a<=B):kD a r r':=⟨h.rb,h.a,h.cut,h.nb,λb d=>(h.own b d).imp id (λh=>ς c h)⟩
theorem CluP.renew{x q cap:Nat}{fv:Value}{st:Int}{ds:List RepD}{bs:List (Nat×ByteArray)}(h:CluP w x q cap fv st ds bs)(k:Nat)(m:k<ds.length)(H:bH w' r')(l:kD w.heap.size ds[k] r')(o:Chg ds[k].own w w'):CluP w' x q cap fv st (ds.set k r') bs:=by
 obtain⟨cs,B,K⟩:=h.row;have A:¬ds[k].own x:=h.xr k m;have y:¬ds[k].own q:=h.qr k m;have n:∀j(b:j<ds.length),(ds.set k r')[j]'(by simpa using b)=if k=j then r' else ds[j]:=λj b=>by rw[List.getElem_set]
 have v:∀j(b:j<ds.length)c,ds[j].own c->c<w.heap.size:=λj b c f=>(h.rep j b).lt f;refine⟨?_,⟨cs,B.chg o y,λj b=>?_⟩,ownsRow_chg h.fr o (λD F e=>by obtain⟨C,E⟩:=h.Rq D F;exact(h.rep k m).iL (cs:=C) (t:=109) E Ψ Ψ Ψ Ψ e),λj b=>?_,λj b=>?_,λi j G b r c f g=>?_,λj b=>?_,λj b=>?_,by simpa using h.len,by simpa using h.cap,h.x4,h.b500⟩
 .rw[List.length_set];exact h.blk.chg o A
 .have a:j<ds.length:=by simpa using b
  rw[n j a,K j a];by_cases e:k=j
  .subst e;rw[ώ rfl,l.rb]
  .rw[ύ e]
 .have a:j<ds.length:=by simpa using b
  rw[n j a];by_cases e:k=j
  .subst e;rw[ώ rfl];exact H
  .rw[ύ e];exact(h.rep j a).chg o (λc f g=>h.apart k j m a e c g f)
 .have a:j<ds.length:=by simpa using b
  rw[n j a,List.length_set];by_cases e:k=j
  .subst e;rw[ώ rfl,l.a,l.cut,l.nb];exact h.ra k m
  .rw[ύ e];exact h.ra j a
 .have p:i<ds.length:=by simpa using G
  have a:j<ds.length:=by simpa using b
  rw[n i p]at f;rw[n j a]at g;by_cases e:k=i
  .subst e;rw[ώ rfl]at f;rw[ύ r]at g;rcases l.own c f with d|d
   .exact h.apart k j m a r c d g
   .have:=v j a c g;omega
  .rw[ύ e]at f;by_cases u:k=j
   .subst u;rw[ώ rfl]at g;rcases l.own c g with d|d
    .exact h.apart i k p m r c f d
    .have:=v i p c f;omega
   .rw[ύ u]at g;exact h.apart i j p a r c f g
 .have a:j<ds.length:=by simpa using b
  rw[n j a];by_cases e:k=j
  .subst e;rw[ώ rfl];intro s;rcases l.own x s with d|d
   .exact A d
   .have:=h.blk.lt;omega
  .rw[ύ e];exact h.xr j a
 .have a:j<ds.length:=by simpa using b
  rw[n j a];by_cases e:k=j
  .subst e;rw[ώ rfl];intro s;rcases l.own q s with d|d
   .exact y d
   .have:=B.lt;omega
  .rw[ύ e];exact h.qr j a
def mQ(B:Nat)(r:RD)(fr:Nat)(K:Nat->Nat)(C:Nat->Option Thk.Ch)(r':RD):Prop :=
 ∃(io co lo:Nat)(st:StD)(pv:Value),r'=r.more io co lo pv fr st K C/\st.S=dB r K C/\st.It=itOf (newC r K C)/\(B<=io/\B<=co/\B<=lo)/\(∀k,st.own k->B<=k)/\(pv.ownBlock=r.pv.ownBlock\/∃k,pv.ownBlock=some k/\B<=k)
theorem mQ.zX{C:Nat->Option Thk.Ch}(h:mQ B r fr K C r'):kD B r r':=by
 obtain⟨o,l,s,st,k,rfl,_,_,n,g,c⟩:=h;refine⟨rfl,rfl,rfl,rfl,λb a=>?_⟩;rcases a with a|a|a|a
 .exact τ (τ a)
 .refine υ ?_;rcases a with e|e|e<;>(have m:=Option.some.inj e;omega)
 .rcases a with a|a|a|⟨p,j,a⟩
  .exact τ (υ (υ (τ (τ a))))
  .have f:k.ownBlock=some b:=a;rcases c with c|⟨q,c,i⟩
   .exact τ (υ (υ (τ (υ (τ (by rw[<- c];exact f))))))
   .rw[c]at f;cases f;exact υ i
  .exact τ (υ (υ (τ (υ (υ (τ a))))))
  .have d:p∈addP r.room r.ps ⟨sizeK K,fr,st⟩:=j;have:p∈r.ps++[⟨sizeK K,fr,st⟩]:=by
    unfold addP at d;split at d
    .exact List.mem_of_mem_tail d
    .exact d
   rcases θ.1 this with h|h
   .exact τ (υ (υ (τ (υ (υ (υ ⟨p,h,a⟩))))))
   .rw[List.mem_singleton]at h;subst h;exact υ (g b a)
 .exact τ (υ (υ (υ a)))
theorem mQ.mono{a:Nat}{C:Nat->Option Thk.Ch}(h:mQ B r fr K C r')(b:a<=B):mQ a r fr K C r':=by obtain⟨n,c,o,st,p,d,e,f,q,g,i⟩:=h;exact⟨n,c,o,st,p,d,e,f,V,λk m=>ς b (g k m),i.imp id (λ⟨k,j,l⟩=>⟨k,j,ς b l⟩)⟩
theorem qO.d{C:Nat->Option Thk.Ch}(h:qO w w' r fr K C r'):mQ w.heap.size r fr K C r':=h.eq
def gy(x:Nat)(ds:List RepD)(k:Nat):Prop:=k=x\/∃j,∃h:j<ds.length,ds[j].own k
def JG(w:World)(ds:List RepD)(i:Int)(s:ByteArray)(r:Int)(ds':List RepD):Prop :=
 (¬(0<=i/\i<ds.length)/\r=2/\ds'=ds) \/
 (∃m:Nat,(0<=i/\i<ds.length)/\Thk.read (toL s)=.inl m/\r=(m:Int)/\ds'=ds) \/
 (∃c:Thk.Ch,(0<=i/\i<ds.length)/\Thk.read (toL s)=.inr c/\500<=sumN ds ds.length/\r=7/\ds'=ds) \/
 ∃(c:Thk.Ch)(k:Nat)(hk:k<ds.length)(r':RD),i=(k:Int)/\Thk.read (toL s)=.inr c/\sumN ds ds.length<500/\mQ w.heap.size ds[k] k (inc ds[k].K k) (stepC ds[k].C c (mkD k (ds[k].K k+1))) r' /\
  r=0/\ds'=ds.set k r'
section
variable{w:World}{ds:List RepD}{i:Int}{s:ByteArray}
theorem JG.rep(h:¬(0<=i/\i<ds.length)):JG w ds i s 2 ds:=τ ⟨h,rfl,rfl⟩
theorem JG.bad(m:Nat)(h:0<=i/\i<ds.length)(a:Thk.read (toL s)=.inl m):JG w ds i s m ds:=υ (τ ⟨m,h,a,rfl,rfl⟩)
theorem JG.full(c:Thk.Ch)(h:0<=i/\i<ds.length)(b:Thk.read (toL s)=.inr c)(a:500<=sumN ds ds.length):JG w ds i s 7 ds:=υ (υ (τ ⟨c,h,b,a,rfl,rfl⟩))
theorem JG.done(c:Thk.Ch)(k:Nat)(a:k<ds.length)(r':RD)(h:i=(k:Int))(e:Thk.read (toL s)=.inr c)(b:sumN ds ds.length<500)(d:mQ w.heap.size ds[k] k (inc ds[k].K k) (stepC ds[k].C c (mkD k (ds[k].K k+1))) r'):JG w ds i s 0 (ds.set k r'):=υ (υ (υ ⟨c,k,a,r',h,e,b,d,rfl,rfl⟩))
end
theorem yu(ds:List RepD)(k:Nat)(a:k<ds.length):∀m,k<m->m<=ds.length->ds[k].K k<=sumN ds m
 | 0,h,_=>V
 | m+1,h,hm=>by
  rw[qP ds m V];by_cases e:k=m
  .subst e;omega
  .have:=yu ds k a m V V;omega
theorem JH(m:Nat):Gy (.inl m)=.tuple #[.agg #[.string ⟨#[]⟩,.int .u8 0,.string ⟨#[]⟩,.int .i64 0],.int .i64 m]:=rfl
theorem JI(c:Thk.Ch):Gy (.inr c)=.tuple #[.agg #[.string ⟨c.path.toArray⟩,.int .u8 (c.act.toNat:Int),.string (au c.act ⟨c.val.toArray⟩),.int .i64 c.n],.int .i64 0]:=rfl
theorem CDo_any(w:World)(hG:Glob w)(x q cap:Nat)(fv:Value)(ds:List RepD)(bs:List (Nat×ByteArray))(v:CluP w x q cap fv 0 ds bs)(i:Int)(s:ByteArray)(hs:s.size<=1048576)(hB:∀k(d:k<ds.length)c,Thk.read (toL s)=.inr c->sumN ds ds.length<500->StoB (fst (inc ds[k].K k)) (stepC ds[k].C c (mkD k (ds[k].K k+1)))):Calls prog 23 #[.pointer (some (z x)),.int .i64 i,.string s] w λe w'=>∃r a0,e=.returned (.int .i64 r)/\JG w ds i s r a0/\CluP w' x q cap fv 0 a0 bs/\Chg (gy x ds) w w':=by
 have a5:J<|∀k(d:k<ds.length)c,Thk.read (toL s)=.inr c->sumN ds ds.length<500->StoB (fst (inc ds[k].K k)) (stepC ds[k].C c (mkD k (ds[k].K k+1))):=hB;clear hB;have HC:J<|CluP w x q cap fv 0 ds bs:=v;have k0:w.cell? (z x)=some (.int .i32 0):=(v.blk.cell 0).trans rfl;have z0:w.frozen? (z x)=false:=v.blk.frozen 0;have g:J<|CluP (w.setCell (z x) (.int .i32 1)) x q cap fv 1 ds bs:=v.turn 1;have HG:J<|Glob w:=hG;clear v hG;go_enter_defers func23,ntmps23;go_wp2_with (go_at_call 43;refine(lock_free muLib (z x) _ k0 z0).mono ?_;rintro e w'⟨rfl,rfl⟩);have Y:Below (w.setCell (z x) (.int .i32 1)).heap.size (w.setCell (z x) (.int .i32 1)) ((w.setCell (z x) (.int .i32 1)).alloc (.cells #[.int .i64 i] 3)):=(φ _ _).alloc (χ _) _;have a2:((w.setCell (z x) (.int .i32 1)).alloc (.cells #[.int .i64 i] 3)).cell? (z w.heap.size)=some (.int .i64 i):=by have:=(ah.new (w.setCell (z x) (.int .i32 1)) #[.int .i64 i] 3).cell 0;simpa using this
 have j:Chg (λk=>k=x) w ((w.setCell (z x) (.int .i32 1)).alloc (.cells #[.int .i64 i] 3)):=(dU (M:=λk=>k=x) rfl _).below Y;have E:=g.o.below Y;refine ψ (iT _ x q cap fv 1 ds bs E w.heap.size i a2) ?_;rintro e T⟨rfl,a4⟩;rw[<- a4]at E j;clear a2 Y a4 g k0 z0;have U:J<|Glob T:=HG.o.Dv j (λk e=>by subst e;exact HC.o.x4);have g:J<|CluP T x q cap fv 1 ds bs:=E;have Z:J<|Chg (λk=>k=x) w T:=j;clear E j HC HG;by_cases l:0<=i/\i<ds.length
 .obtain⟨k,rfl⟩:=Int.eq_ofNat_of_zero_le l.1;have d:k<ds.length:=V
  have G:J<|_:=l;have C:namedR ds.length (k:Int)=0:=by unfold namedR;rw[ώ l]
  rw[C];clear C l;have HP:J<|_:=o9 s T hs U.o;go_wp2_with fail;refine ψ HP.o ?_;rintro e a⟨rfl,N⟩;have F:J<|CluP a x q cap fv 1 ds bs:=g.o.below N;have pR:J<|Chg (λk=>k=x) w a:=Z.o.below N;have W:J<|Glob a:=U.o.mono N;clear HP g Z U N;cases hp:Thk.read (toL s) with
  | inl m =>have u:J<|_:=hp;have hm:=Thk.read_err _ _ hp;clear hp W;rw[JH];have n:J<|CluP (a.alloc (.cells #[.string ⟨#[]⟩,.int .u8 0,.string ⟨#[]⟩,.int .i64 0] 86)) x q cap fv 1 ds bs:=F.o.below ((φ _ _).alloc (χ _) _);have S:J<|Chg (λk=>k=x) w (a.alloc (.cells #[.string ⟨#[]⟩,.int .u8 0,.string ⟨#[]⟩,.int .i64 0] 86)):=pR.o.below ((φ _ _).alloc (χ _) _);go_wp2_with fail;refine leaves_cons (f:=44) (args:=#[.pointer (some (z x))]) Ω (by simp[go_sem]) ?_;refine(unlock_deferred muLib (z x) .returning _ ((n.o.blk.cell 0).trans rfl) (n.o.blk.frozen 0)).mono ?_;rintro e u' w9⟨rfl,rfl,rfl⟩;exact⟨_,results_tmp rfl _ _ _,_,_,rfl,JG.bad m G.o u.o,n.o.turn 0,Chg.setCell (M:=gy x ds) (p:=(z x)) (S.o.wide (λk e=>τ e)) (τ rfl) _⟩
  | inr c =>
   have u:J<|_:=hp;have a6:J<|c.path.length<=1048576:=ς (Thk.read_ok _ _ hp).1 Ψ;clear hp;rw[JI];have P:Below a.heap.size a (a.alloc (.cells #[.string ⟨c.path.toArray⟩,.int .u8 (c.act.toNat:Int),.string (au c.act ⟨c.val.toArray⟩),.int .i64 c.n] 86)):=(φ _ _).alloc (χ _) _;have n:J<|CluP (a.alloc (.cells #[.string ⟨c.path.toArray⟩,.int .u8 (c.act.toNat:Int),.string (au c.act ⟨c.val.toArray⟩),.int .i64 c.n] 86)) x q cap fv 1 ds bs:=F.o.below P;have S:J<|Chg (λk=>k=x) w (a.alloc (.cells #[.string ⟨c.path.toArray⟩,.int .u8 (c.act.toNat:Int),.string (au c.act ⟨c.val.toArray⟩),.int .i64 c.n] 86)):=pR.o.below P;have G3:J<|Glob (a.alloc (.cells #[.string ⟨c.path.toArray⟩,.int .u8 (c.act.toNat:Int),.string (au c.act ⟨c.val.toArray⟩),.int .i64 c.n] 86)):=W.o.mono P;have XG:J<|ah (a.alloc (.cells #[.string ⟨c.path.toArray⟩,.int .u8 (c.act.toNat:Int),.string (au c.act ⟨c.val.toArray⟩),.int .i64 c.n] 86)) a.heap.size #[.string ⟨c.path.toArray⟩,.int .u8 (c.act.toNat:Int),.string (au c.act ⟨c.val.toArray⟩),.int .i64 c.n] 86:=ah.new a _ _;have XH:=F;clear P F pR W;go_wp2_with fail;refine ψ (FW _ x q cap fv 1 ds bs n.o) ?_;rintro e b⟨rfl,y⟩;have h:J<|CluP b x q cap fv 1 ds bs:=n.o.below y;have H:J<|Chg (λk=>k=x) w b:=S.o.below y;have G4:J<|Glob b:=G3.o.mono y;have t:J<|ah b a.heap.size #[.string ⟨c.path.toArray⟩,.int .u8 (c.act.toNat:Int),.string (au c.act ⟨c.val.toArray⟩),.int .i64 c.n] 86:=XG.o.below y;clear y n S G3 XG;by_cases h5:500<=sumN ds ds.length
   .have D:J<|_:=h5;go_wp2_with fail;refine leaves_cons (f:=44) (args:=#[.pointer (some (z x))]) Ω (by simp[go_sem]) ?_;refine(unlock_deferred muLib (z x) .returning _ ((h.o.blk.cell 0).trans rfl) (h.o.blk.frozen 0)).mono ?_;rintro e u' w9⟨rfl,rfl,rfl⟩;exact⟨_,results_tmp rfl _ _ _,_,_,rfl,JG.full c G.o u.o D.o,h.o.turn 0,Chg.setCell (M:=gy x ds) (p:=(z x)) (H.o.wide (λk e=>τ e)) (τ rfl) _⟩
   .have D:J<|sumN ds ds.length<500:=ω V
    have a7:ds[k].K k+1<=500:=by have:=yu ds k d ds.length d (χ _);omega
    have c2:b.cell? (O x 2)=some (.slice (some (z q)) ds.length cap):=(h.o.blk.cell 2).trans rfl;have cq:=h.o.cell k d;have v0:b.cell? (z a.heap.size)=some (.string ⟨c.path.toArray⟩):=(t.o.cell 0).trans rfl;have v1:b.cell? (O a.heap.size 1)=some (.int .u8 (c.act.toNat:Int)):=(t.o.cell 1).trans rfl;have v2:b.cell? (O a.heap.size 2)=some (.string (au c.act ⟨c.val.toArray⟩)):=(t.o.cell 2).trans rfl;have v3:b.cell? (O a.heap.size 3)=some (.int .i64 c.n):=(t.o.cell 3).trans rfl;have XI:¬ds[k].own a.heap.size:=λe=>by have:=(XH.o.rep k d).lt e;omega
    have HA:J<|Calls prog 49 #[.pointer (some (z (ds[k].rb))),.agg #[.string ⟨c.path.toArray⟩,.int .u8 (c.act.toNat:Int),.string (au c.act ⟨c.val.toArray⟩),.int .i64 c.n]] b.drew λe w'=>e=.returned (.bool true)/\(∃r',CluP w' x q cap fv 1 (ds.set k r') bs/\mQ w.heap.size ds[k] k (inc ds[k].K k) (stepC ds[k].C c (mkD k (ds[k].K k+1))) r'/\Chg (gy x ds) w w') /\
      w'.cell? (O x 2)=some (.slice (some (z q)) ds.length cap)/\w'.cell? (O q k)=some (.pointer (some (z (ds[k].rb))))/\w'.cell? (z a.heap.size)=some (.string ⟨c.path.toArray⟩)/\w'.cell? (O a.heap.size 1)=some (.int .u8 (c.act.toNat:Int))/\w'.cell? (O a.heap.size 2)=some (.string (au c.act ⟨c.val.toArray⟩))/\w'.cell? (O a.heap.size 3)=some (.int .i64 c.n):=by
     have B:Below b.heap.size b b.drew:=(φ _ b).drew;have o:=h.o.below B;have R:=h.o.ra k d;have a1:=FT b.drew (G4.o.mono B) ds[k] (o.rep k d) R.2.1 c (by rw[R.1];exact a7) a6.o (by rw[R.1];exact a5.o k d c u.o D.o);rw[R.1]at a1;refine ψ a1 ?_;rintro e w'⟨rfl,r',L⟩;have A:=L.chg;have Q:=o.renew k d L.rep L.d.zX A;have hz:w.heap.size<=b.drew.heap.size:=ς H.o.size B.size;have K:=(t.o.below B).chg A XI;obtain⟨cs,r1,r2⟩:=o.row;refine⟨rfl,⟨r',Q,L.d.mono hz,((H.o.below B).wide (λ_ e=>τ e)).then (A.wide (λ_ e=>υ ⟨k,d,e⟩))⟩,((o.blk.chg A (o.xr k d)).cell 2).trans rfl,((r1.chg A (o.qr k d)).cell k).trans (r2 k d),(K.cell 0).trans rfl,(K.cell 1).trans rfl,(K.cell 2).trans rfl,(K.cell 3).trans rfl⟩
    clear h H G4 t XI XH;go_wp2_with fail;go_region_held3 (λw'=>w'.cell? (O x 2)=some (.slice (some (z q)) ds.length cap)/\w'.cell? (O q k)=some (.pointer (some (z (ds[k].rb))))/\w'.cell? (z a.heap.size)=some (.string ⟨c.path.toArray⟩)/\w'.cell? (O a.heap.size 1)=some (.int .u8 (c.act.toNat:Int))/\w'.cell? (O a.heap.size 2)=some (.string (au c.act ⟨c.val.toArray⟩))/\w'.cell? (O a.heap.size 3)=some (.int .i64 c.n)) ((refine⟨?_, ?_, ?_, ?_, ?_, ?_⟩<;>assumption)) (first|(go_at_call 49;refine ψ HA.o ?_;rintro e w4⟨rfl,hE,d0,d1,d2,d3,d4,d5⟩));obtain⟨r',Q,a3,j⟩:=hE;have X:J<|_:=Q;have HN:J<|_:=a3;have HH:J<|_:=j;clear Q a3 j HA c2 cq v0 v1 v2 v3 d0 d1 d2 d3 d4 d5;go_wp2_with fail;refine leaves_cons (f:=44) (args:=#[.pointer (some (z x))]) Ω (by simp[go_sem]) ?_;refine(unlock_deferred muLib (z x) .returning _ ((X.o.blk.cell 0).trans rfl) (X.o.blk.frozen 0)).mono ?_;rintro e u' w9⟨rfl,rfl,rfl⟩;exact⟨_,results_tmp rfl _ _ _,_,_,rfl,JG.done c k d r' rfl u.o D.o HN.o,X.o.turn 0,Chg.setCell (M:=gy x ds) (p:=(z x)) HH.o (τ rfl) _⟩
 .have C:namedR ds.length i=2:=by unfold namedR;rw[ύ l]
  have G:J<|_:=l;rw[C];clear C l;go_wp2_with fail;refine leaves_cons (f:=44) (args:=#[.pointer (some (z x))]) Ω (by simp[go_sem]) ?_;refine(unlock_deferred muLib (z x) .returning _ ((g.o.blk.cell 0).trans rfl) (g.o.blk.frozen 0)).mono ?_;rintro e u' w9⟨rfl,rfl,rfl⟩;exact⟨_,results_tmp rfl _ _ _,_,_,rfl,JG.rep G.o,g.o.turn 0,Chg.setCell (M:=gy x ds) (p:=(z x)) (Z.o.wide (λk e=>τ e)) (τ rfl) _⟩
end Go.Proofs.YtfmmllpjgkgeaaaGreatDoor
namespace Go.Proofs.YtfmmllpjgkgeaaaGreatDoor
open Go.Proofs.Tryz Go.RowKit Go.Maps Go.WideMaps Go.Deep
variable{ds:List RD}{n room:Nat}{rv:Value}{w w0:World}
def ptrs(bs:List Nat):List Value:=bs.map λb=>.pointer (some (z b))
def others(i n:Nat):List Nat:=(List.range n).filter λj=>decide (j≠i)
theorem vP{i j:Nat}:j∈others i n↔j<n/\j≠i:=by unfold others;rw[List.mem_filter,List.mem_range];simp
theorem Dw(i n:Nat):others i (n+1)=if n=i then others i n else others i n++[n]:=by
 unfold others;rw[List.range_succ,List.filter_append];by_cases e:n=i
 .subst e;simp
 .simp[e]
theorem vS(i n:Nat):(others i n).length<=n:=by unfold others;exact ς (List.length_filter_le _ _) Ω
def initR(rb kb db ab j room n:Nat):RD:=⟨rb,j,none,none,none,kb,db,room,.slice none 0 0,0,ab,others j n,λ_=>0,[],λ_=>0,λ_=>none,0,false,0⟩
theorem JJ{rb b a ab j k:Nat}(h:(initR rb b a ab j room n).own k):k=rb\/k=b\/k=a\/k=ab:=by
 rcases h with h|h|h|h
 .exact τ h
 .rcases h with h|h|h<;>cases h
 .rcases h with h|h|h|⟨p,c,_⟩
  .exact υ (τ h)
  .cases h
  .exact υ (υ (υ h))
  .exact absurd c (by show p ∉ ([]:List PcD);simp)
 .exact υ (υ (τ h))
structure vT(w0:World)(w:World)(rv:Value)(n room:Nat)(ds:List RD):Prop where
 blk:ah w w0.heap.size #[.int .i32 0,.int .u32 0,rv,.slice none 0 0] 79
 row:w.ownsRow w0.heap.size 81 1 rv ds.length (ptrs (ds.map RD.rb))
 rep:∀j(h:j<ds.length),bH w ds[j]/\(∃rb kb db ab,ds[j]=initR rb kb db ab j room n)/\∀k,ds[j].own k->w0.heap.size<=k
 apart:∀i j(hi:i<ds.length)(hj:j<ds.length),i≠j->∀k,ds[i].own k->¬ds[j].own k
 bel:Below w0.heap.size w0 w
theorem vT.ne(h:vT w0 w rv n room ds){b:Nat}{cs:Array Value}{t:TypeId}(a:ah w b cs t)(c:t≠81):rv.ownBlock≠some b:=row_ne a h.row c
theorem vT.more{l w6:World}(h:vT w0 w rv n room ds)(u:Below w.heap.size w l){r:RD}(K:bH l r)(M:∃rb kb Q N,r=initR rb kb Q N ds.length room n)(x:∀k,r.own k->w.heap.size<=k){g c:Nat}(H:w6.ownsRow w0.heap.size 81 1 (.slice (some (z g)) (ds.length+1) c) (ds.length+1) (ptrs (ds.map RD.rb)++[.pointer (some (z r.rb))]))(E:(l.alloc (.cells #[.pointer (some (z r.rb))] 81)).grownBy w6 rv.ownBlock):vT w0 (w6.setCell (O w0.heap.size 2) (.slice (some (z g)) (ds.length+1) c)) (.slice (some (z g)) (ds.length+1) c) n room (ds++[r]):=by
 have P:Below w.heap.size w (l.alloc (.cells #[.pointer (some (z r.rb))] 81)):=u.alloc u.size _;have U:Chg (λk=>rv.ownBlock=some k) (l.alloc (.cells #[.pointer (some (z r.rb))] 81)) w6:=(Chg.refl _ _).grown E (λk e=>τ e);have D:Chg (λk=>rv.ownBlock=some k) l w6:=(Chg.of_below ((φ _ l).alloc (χ _) _)).trans U;have L:Chg (λk=>rv.ownBlock=some k) w w6:=(Chg.of_below u).trans D;have y:ah w6 w0.heap.size #[.int .i32 0,.int .u32 0,rv,.slice none 0 0] 79:=h.blk.chg L (h.ne h.blk Ψ);have A:Chg (λk=>k=w0.heap.size) w6 (w6.setCell (O w0.heap.size 2) (.slice (some (z g)) (ds.length+1) c)):=(Chg.refl (λk=>k=w0.heap.size) w6).setCell (p:=(O w0.heap.size 2)) rfl _;have a1:∀q,rv.ownBlock=some q->q<w.heap.size:=λq e=>(h.row.lt q e).2;have a0:∃s,rv.ownBlock=none\/∃g,rv.ownBlock=some g/\ah w g s 81:=by
  obtain⟨_,⟨d,_⟩|⟨C,a3,s,d,t,T,_⟩⟩:=h.row
  .exact⟨#[],τ (by rw[d];rfl)⟩
  .exact⟨s,υ ⟨C,by rw[d];rfl,T⟩⟩
 have Z:∀j(b:j<ds.length)k,ds[j].own k->¬rv.ownBlock=some k:=λj b k a e=>by
  obtain⟨s,d|⟨C,d,t⟩⟩:=a0
  .rw[d]at e;cases e
  .rw[d]at e;cases e
   exact(h.rep j b).1.iL t Ψ Ψ Ψ Ψ a
 have hx:∀j(b:j<ds.length)k,ds[j].own k->k≠w0.heap.size:=λj b k a e=>(h.rep j b).1.iL h.blk Ψ Ψ Ψ Ψ (e▸a);have a2:∀k,r.own k->k≠w0.heap.size:=λk a e=>K.iL (h.blk.below u) Ψ Ψ Ψ Ψ (e▸a);have W:g≠w0.heap.size:=λe=>by subst e;exact row_ne y H Ψ rfl
 have v:∀j(b:j<(ds++[r]).length),(∃f:j<ds.length,(ds++[r])[j]=ds[j])\/(j=ds.length/\(ds++[r])[j]=r):=λj b=>by
  by_cases G:j<ds.length
  .exact τ ⟨G,List.getElem_append_left G⟩
  .have e:j=ds.length:=by simp at b;omega
   subst e;exact υ ⟨rfl,Ω⟩
 refine⟨?_, ?_,λj b=>?_,λi j X b Y k a o=>?_, ?_⟩
 .unfold ah at y⊢;simp[World.setCell,μ,y]
 .have e:ptrs ((ds++[r]).map RD.rb)=ptrs (ds.map RD.rb)++[.pointer (some (z r.rb))]:=by simp[ptrs]
  rw[e,ρ];exact nD H A (λk a e=>by cases a;exact W e)
 .rcases v j b with⟨f,e⟩|⟨B,e⟩
  .rw[e];obtain⟨r1,r2,r3⟩:=h.rep j f;exact⟨(r1.chg L (Z j f)).chg A (hx j f),r2,r3⟩
  .rw[e];subst B;refine⟨(K.chg D (λk a S=>?_)).chg A a2,M,λk a=>ς h.bel.size (x k a)⟩;have:=x k a;have:=a1 k S;omega
 .rcases v i X with⟨F,e⟩|⟨B,e⟩
  .rw[e]at a;rcases v j b with⟨f,m⟩|⟨R,m⟩
   .rw[m]at o;exact h.apart i j F f Y k a o
   .rw[m]at o;have:=x k o;have:=(h.rep i F).1.lt a;omega
  .rw[e]at a;rcases v j b with⟨f,m⟩|⟨R,m⟩
   .rw[m]at o;have:=x k a;have:=(h.rep j f).1.lt o;omega
   .omega
 .have d:Below w0.heap.size w0 (l.alloc (.cells #[.pointer (some (z r.rb))] 81)):=h.bel.trans (P.mono h.bel.size);have t:Below w0.heap.size w0 w6:=d.grown E d.size (λk a=>(h.row.lt k a).1);exact t.setCell (p:=(O w0.heap.size 2)) (χ _) _
theorem vT.done(h:vT w0 w rv n room ds)(d:4<=w0.heap.size)(t:1<=ds.length)(f:ds.length<=6)(k:ds.length=n):∃q cap,rv=.slice (some (z q)) ds.length cap/\w0.heap.size<=q/\CluP w w0.heap.size q cap (.slice none 0 0) 0 ds []:=by
 obtain⟨v,⟨r,s⟩|⟨q,cap,b,rfl,l,c,g,_,u,m⟩⟩:=h.row
 .omega
 .refine⟨q,cap,rfl,l,h.blk,⟨b,c,λj a=>?_⟩,World.ownsRow_nil _ _ _ _,λj a=>(h.rep j a).1,λj a=>?_,h.apart,λj a=>?_,λj a=>?_,f,g,d,Ω⟩
  .have e:b.toList[j]?=(ptrs (ds.map RD.rb))[j]?:=by rw[<- m,List.getElem?_take,ώ V]
   rw[<- Array.getElem?_toList,e];simp[ptrs,a]
  .obtain⟨y,x,p,o,e⟩:=(h.rep j a).2.1;rw[e,k];exact⟨rfl,rfl,λi=>vP⟩
  .exact(h.rep j a).1.iL h.blk Ψ Ψ Ψ Ψ
  .exact(h.rep j a).1.iL (cs:=b) c Ψ Ψ Ψ Ψ
