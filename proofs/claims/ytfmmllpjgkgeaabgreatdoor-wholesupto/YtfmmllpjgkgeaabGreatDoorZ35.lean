import Derived.Conc.MuLone
import Derived.Conc.MuData
import Derived.Test.YtfmmllpjgkgeaabGreatDoorZ24
import Derived.Test.YtfmmllpjgkgeaabGreatDoorZ34
set_option linter.all false
set_option maxHeartbeats 0
set_option maxRecDepth 100000
namespace Go.Proofs
open Go.Proofs.Tryz
abbrev YtfmmllpjgkgeaabGreatDoor.muLink:Go.Conc.Locks.MuLink:={ lock:=30,unlock:=31,ilock:=67,iunlock:=68,lockSlow:=125,unlockSlow:=128,disable:=121,enable:=123,acquire:=124,relMerge:=126,cas32:=122,add32:=127,tMutex:=73,tIMutex:=71,tPMutex:=132,tPIMutex:=192,tPI32:=194,tUP:=196,tNoCopy:=68,tU32:=69 }
def YtfmmllpjgkgeaabGreatDoor.muLib:Go.Conc.Locks.MuLib prog YtfmmllpjgkgeaabGreatDoor.muLink :=
 ⟨func30,func31,func67,func68,func121,func123,func124,func126,func122,func127,
  underlying71,runUnderlying71,sizeOf71,isAgg71,zeroValue71,underlying73,runUnderlying73,sizeOf73,isAgg73,zeroValue73,underlying132,runUnderlying132,sizeOf132,isAgg132,zeroValue132,underlying192,runUnderlying192,sizeOf192,isAgg192,zeroValue192,underlying194,runUnderlying194,sizeOf194,isAgg194,zeroValue194,underlying196,runUnderlying196,sizeOf196,isAgg196,zeroValue196,underlying68,runUnderlying68,sizeOf68,isAgg68,zeroValue68,underlying21,runUnderlying21,sizeOf21,isAgg21,zeroValue21,(by kernel_rfl)⟩
end Go.Proofs
namespace Go.Proofs.YtfmmllpjgkgeaabGreatDoor
open Go.Proofs.Tryz Go.RowKit Go.Maps Go.WideMaps
abbrev bI:=RD
def UA(bs:List (Nat×ByteArray)):List Value:=bs.flatMap λb=>[I b.1,.string b.2]
def XQ(bs:List (Nat×ByteArray))(b:Nat×ByteArray):UA (bs++[b])=UA bs++[I b.1,.string b.2]:=by simp[UA]
def tZ:∀(bs:List (Nat×ByteArray))(i:Nat)(h:i<bs.length),(UA bs)[i*2]?=some (I (bs[i].1))/\(UA bs)[i*2+1]?=some (.string bs[i].2)
 | [],i,h=>by simp at h
 | b::r,0,h=>by simp[UA]
 | b::r,i+1,h=>by have:=tZ r i (by simpa using h);have e:UA (b::r)=[I b.1,.string b.2]++UA r:=rfl;rw[e,ϋ Θ,ϋ Θ];simp only[δ,List.length_nil,List.getElem_cons_succ];rw[show(i+1)*2-(0+1+1)=i*2 by omega,show(i+1)*2+1-(0+1+1)=i*2+1 by omega];exact this
structure aV(w:World)(x q cap:Nat)(fv:Value)(st:Int)(ds:List bI)(bs:List (Nat×ByteArray)):Prop where
 blk:aC w x #[.int .i32 st,.int .u32 0,.slice (some (z q)) ds.length cap,fv] 77
 row:∃cs,aC w q cs 78/\∀j(h:j<ds.length),cs[j]?=some (.pointer (some (z (ds[j].rb))))
 fr:w.ownsRow 0 108 2 fv bs.length (UA bs)
 rep:∀j(h:j<ds.length),cO w ds[j]
 ra:∀j(h:j<ds.length),ds[j].a=j/\Q8 ds[j]/\∀i,i∈ds[j].nb↔i<ds.length/\i≠j
 apart:∀i j(hi:i<ds.length)(hj:j<ds.length),i≠j->∀k,ds[i].own k->¬ds[j].own k
 xr:∀j(h:j<ds.length),¬ds[j].own x
 qr:∀j(h:j<ds.length),¬ds[j].own q
 len:ds.length<=6
 cap:ds.length<=cap
 x4:4<=x
 FK:bs.length<=500
section
variable{w w':World}{x q cap:Nat}{fv:Value}{st:Int}{ds:List bI}{bs:List (Nat×ByteArray)}
def aV.frT(h:aV w x q cap fv st ds bs):∀g,fv.ownBlock=some g->Tagged w g 108:=by
 intro g a;obtain⟨_,c|⟨e,cap,b,rfl,_,d,_⟩⟩:=h.fr
 .rw[c.1]at a;cases a
 .cases a;exact⟨b,d⟩
def aV.xq(h:aV w x q cap fv st ds bs):x≠q:=by
 intro e;obtain⟨c,b,_⟩:=h.row;have:=h.blk;subst e;have a:some (Obj.cells _ _ _)=some (Obj.cells _ _ _):=(show w.heap[x]?=_ from this).symm.trans b;injection a with a
 injection a with _ e3;exact absurd e3 Ψ
def aV.aJ{M:Nat->Prop}(h:aV w x q cap fv st ds bs)(a:aA M w w')(d:¬M x)(e:¬M q)(f:∀j(h:j<ds.length)k,ds[j].own k->¬M k)(i:∀g,fv.ownBlock=some g->¬M g):aV w' x q cap fv st ds bs:=by obtain⟨c,l,m⟩:=h.row;exact⟨h.blk.aJ a d,⟨c,l.aJ a e,m⟩,bG h.fr a i,λj b=>(h.rep j b).aJ a (f j b),h.ra,h.apart,h.xr,h.qr,h.len,h.cap,h.x4,h.FK⟩
def aV.below(h:aV w x q cap fv st ds bs)(a:Below w.heap.size w w'):aV w' x q cap fv st ds bs:=h.aJ (M:=λ_=>False) (aA.of_below a) (λh=>h) (λh=>h) (λ_ _ _ _ h=>h) (λ_ _ h=>h)
def aV.cell(h:aV w x q cap fv st ds bs)(j:Nat)(a:j<ds.length):w.cell? (O q j)=some (.pointer (some (z (ds[j].rb)))):=by obtain⟨d,b,c⟩:=h.row;exact(b.cell j).trans (c j a)
def aV.turn(h:aV w x q cap fv st ds bs)(b:Int):aV (w.setCell (z x) (.int .i32 b)) x q cap fv b ds bs:=by have a:aA (λk=>k=x) w (w.setCell (z x) (.int .i32 b)):=aA.setCell (M:=λk=>k=x) (p:=(z x)) (aA.refl _ w) rfl _;obtain⟨f,m,n⟩:=h.row;refine⟨?_,⟨f,m.aJ a (Ne.symm h.xq),n⟩,bG h.fr a (λg i e=>Tagged.ne (h.frT g i) ⟨_,h.blk⟩ Ψ e),λj d=>(h.rep j d).aJ a (λk l e=>h.xr j d (e▸l)),h.ra,h.apart,h.xr,h.qr,h.len,h.cap,h.x4,h.FK⟩;have c:=h.blk;unfold aC at c⊢;simp[World.setCell,μ,c]
end
def dnD(ds:List bI)(i:Int):Bool:=(ds[i.toNat]?.bind RD.dd).isSome
def qB(ds:List bI)(k:Nat)(h:k<ds.length):dnD ds (k:Int)=ds[k].dd.isSome:=by unfold dnD;simp[h]
def aK(ds:List bI)(i:Int):Int:=if 0<=i/\i<ds.length then(if dnD ds i then 3 else 0)else 2
def dS(ds:List bI):List Int->Int
 | []=>0
 | i::r=>if aK ds i=0 then dS ds r else aK ds i
def MV(ds:List bI)(i:Int):dS ds [i]=aK ds i:=by unfold dS dS;split<;>simp_all
def Ea(ds:List bI)(i j:Int):dS ds [i,j]=if aK ds i=0 then aK ds j else aK ds i:=by rw[dS,MV]
def gY(ds:List bI)(i:Int):aK ds i=0\/aK ds i=2\/aK ds i=3:=by unfold aK;split;split;exact υ (υ rfl);exact τ rfl;exact υ (τ rfl)
def gK{ds:List bI}{i:Int}(h:aK ds i=0):∃k:Nat,i=(k:Int)/\∃a:k<ds.length,ds[k].dd=none:=by
 unfold aK at h;split at h
 .rename_i hi;obtain⟨k,rfl⟩:=Int.eq_ofNat_of_zero_le hi.1;have a:k<ds.length:=V
  rw[qB ds k a]at h;refine⟨k,rfl,a, ?_⟩;cases hd:ds[k].dd with
  | none=>rfl
  | some d=>rw[hd]at h;cases h
 .cases h
def Aw{ds:List bI}:∀{l:List Int}{i:Nat}(h:i<l.length),(∀j(h:j<l.length),j<i->aK ds l[j]=0)->aK ds l[i]≠0->dS ds l=aK ds l[i]
 | [],i,h,_,_=>by simp at h
 | y::r,0,_,_,hn=>by unfold dS;exact ύ hn
 | y::r,i+1,h,hz,hn=>by unfold dS;rw[ώ (show aK ds y=0 from hz 0 Ω V)];exact Aw (by simpa using h) (λj a b=>hz (j+1) (by simpa using a) V) hn
def Eb{ds:List bI}:∀{l:List Int},(∀j(h:j<l.length),aK ds l[j]=0)->dS ds l=0
 | [],_=>rfl
 | y::r,h=>by unfold dS;rw[ώ (show aK ds y=0 from h 0 Ω)];exact Eb (λj a=>h (j+1) (by simpa using a))
def aV.ak0{w:World}{x q cap:Nat}{fv:Value}{st:Int}{ds:List bI}{bs:List (Nat×ByteArray)}(h:aV w x q cap fv st ds bs)(j:Nat)(a:j<ds.length):vH w ds[j].rb j ds[j].io ds[j].co ds[j].lo ds[j].K ds[j].C:=by have:=(h.rep j a).rep;rw[(h.ra j a).1]at this;exact this
def wB(w:World)(x q cap L:Nat)(c2:w.cell? (O x 2)=some (.slice (some (z q)) L cap))(i:Int):Calls prog 69 #[.pointer (some (z x)),I i] w λe w'=>e=.returned (.bool (decide (0<=i/\i<L)))/\w'=w:=by
 by_cases a:0<=i
 .by_cases b:i<L
  .have e:decide (0<=i/\i<L)=true:=by simp[a,b]
   rw[e];have c:decide ((0:Int)<=i)=true:=by simpa using a
   have hd1:decide (i<(L:Int))=true:=by simpa using b
   clear e;go_enter func69,ntmps69;go_wp2;go_ret;exact⟨rfl,rfl⟩
  .have e:decide (0<=i/\i<L)=false:=by simp[b]
   rw[e];have c:decide ((0:Int)<=i)=true:=by simpa using a
   have hd1:decide (i<(L:Int))=false:=by simpa using b
   clear e;go_enter func69,ntmps69;go_wp2;go_ret;exact⟨rfl,rfl⟩
 .have e:decide (0<=i/\i<L)=false:=by simp[a]
  rw[e];have c:decide ((0:Int)<=i)=false:=by simpa using a
  clear e;go_enter func69,ntmps69;go_wp2;go_ret;exact⟨rfl,rfl⟩
def Ec(w:World)(x q cap:Nat)(fv:Value)(st:Int)(ds:List bI)(bs:List (Nat×ByteArray))(a:aV w x q cap fv st ds bs)(g:Nat)(l:List Int)(Y:l.length<=10)(B:∀j(h:j<l.length),w.cell? (O g j)=some (I l[j])):Calls prog 32 #[.pointer (some (z x)),.slice (some (z g)) l.length l.length] w λe w'=>e=.returned (I (dS ds l))/\w'=w:=by
 have K:w.cell? (O x 2)=some (.slice (some (z q)) ds.length cap):=(a.blk.cell 2).trans rfl;have Z:=a.len;have n:J<|ds.length<=cap/\∀(k:Nat)(h:k<ds.length),w.cell? (O q k)=some (.pointer (some (z (ds[k].rb))))/\Calls prog 70 #[.pointer (some (z (ds[k].rb)))] w λe w'=>e=.returned (.bool ds[k].dd.isSome)/\w'=w:=⟨a.cap,λk h=>⟨a.cell k h,D8 w ds[k] (a.rep k h)⟩⟩;have t:=ω<|λi=>wB w x q cap ds.length K i
 clear a;have Hs:J<|∀{i:Nat}(h:i<l.length),(∀j(h:j<l.length),j<i->aK ds l[j]=0)->aK ds l[i]≠0->dS ds l=aK ds l[i]:=λ{i}h=>Aw h;have D:J<|(∀j(h:j<l.length),aK ds l[j]=0)->dS ds l=0:=Eb;generalize dS ds l=T at *;have F:=ω B;clear B;go_enter func32,ntmps32;go_wp2;go_loopg [6,9] l.length (λL v6 Q S=>∃i:Nat,i+L=l.length/\Q=I i/\J (∀j(h:j<l.length),j<i->aK ds l[j]=0)/\S=w);case atStart=>exact⟨0,V,rfl,λj _ h=>absurd h V,rfl⟩
 case round =>
  obtain⟨i,W,rfl,p,rfl⟩:=hrel;by_cases C:i<l.length
  .have U:=F.o i C;have E:J<|∀j(h:j<l.length),j<i+1->j<i\/l[j]=l[i]:=λj h A=>by
    by_cases e:j=i
    .subst e;exact υ rfl
    .exact τ V
   have m:=ω<|Hs.o C p.o
   generalize l[i]=y at *;by_cases c:0<=y/\y<(ds.length:Int)
   .obtain⟨k,rfl⟩:∃k:Nat,y=(k:Int):=⟨y.toNat,V⟩;have r:k<ds.length:=V
    have f:J<|aK ds (k:Int)=if ds[k].dd.isSome then 3 else 0:=by unfold J aK;rw[ώ c,qB ds k r]
    have d:decide (0<=(k:Int)/\(k:Int)<(ds.length:Int))=true:=by simpa using c
    have X:=n.o.1;have N:=(n.o.2 k r).1;have s:J<|_:=(n.o.2 k r).2;generalize ds[k].rb=a0 at *;generalize ds[k].dd.isSome=H at *;have b:=t.o (k:Int);rw[d]at b;clear d;go_wp2_with fail;refine ψ b ?_;rintro e R⟨rfl,rfl⟩;go_wp2_with fail;refine ψ s.o ?_;rintro e w3⟨rfl,rfl⟩;clear s N;cases H with
    | false =>
     have G:J<|aK ds (k:Int)=0:=f.o;clear f m;go_wp2;go_roundg (l.length-(i+1));case measure=>omega
     case rel=>exact⟨i+1,V,Λ,λj h A=>by
      rcases E.o j h A with o|o
      .exact p.o j h o
      .rw[o];exact G.o,rfl⟩
    | true =>have v:J<|aK ds (k:Int)=3:=f.o;clear f;go_wp2;go_ret;exact⟨by rw[m.o (by rw[v.o];decide),v.o];rfl,rfl⟩
   .have d:decide (0<=y/\y<(ds.length:Int))=false:=by simpa using c
    have u:J<|aK ds y=2:=by unfold J aK;rw[ύ c]
    have b:=t.o y;rw[d]at b;clear d c;go_wp2_with fail;refine ψ b ?_;rintro e R⟨rfl,rfl⟩;go_wp2;go_ret;exact⟨by rw[m.o (by rw[u.o];decide),u.o];rfl,rfl⟩
  .have P:J<|∀j(h:j<l.length),aK ds l[j]=0:=λj M=>p.o j M V;go_wp2;go_ret;exact⟨by rw[D.o P.o];rfl,rfl⟩
def lD(w:World)(x q cap:Nat)(fv:Value)(st:Int)(ds:List bI)(bs:List (Nat×ByteArray))(a:aV w x q cap fv st ds bs)(g:Nat)(i:Int)(b:w.cell? (z g)=some (I i)):Calls prog 32 #[.pointer (some (z x)),.slice (some (z g)) 1 1] w λe w'=>e=.returned (I (aK ds i))/\w'=w:=by
 rw[<- MV];exact Ec w x q cap fv st ds bs a g [i] Ω (λj h=>by
  have:j=0:=by simpa using h
  subst this;exact b)
def UC(w:World)(x q cap:Nat)(fv:Value)(st:Int)(ds:List bI)(bs:List (Nat×ByteArray))(b:aV w x q cap fv st ds bs)(g:Nat)(i j:Int)(c:w.cell? (z g)=some (I i))(d:w.cell? (O g 1)=some (I j)):Calls prog 32 #[.pointer (some (z x)),.slice (some (z g)) 2 2] w λe w'=>e=.returned (I (dS ds [i,j]))/\w'=w:=by
 exact Ec w x q cap fv st ds bs b g [i,j] Ω (λk h=>by
  have a:k<2:=by simpa using h
  match k,a with
  | 0,_=>exact c
  | 1,_=>exact d)
def yQ(ds:List bI)(j:Nat):Nat:=(ds[j]?.map λd=>d.K j).getD 0
def lF(ds:List bI):Nat->Nat
 | 0=>0
 | k+1=>lF ds k+yQ ds k
def Jr(ds:List bI)(k:Nat)(h:k<ds.length):yQ ds k=ds[k].K k:=by unfold yQ;simp[h]
def zM(ds:List bI)(k:Nat)(h:k<ds.length):lF ds (k+1)=lF ds k+ds[k].K k:=by rw[lF,Jr ds k h]
def Rn(ds:List bI)(a:∀j(h:j<ds.length),ds[j].K j<=500):∀k,k<=ds.length->lF ds k<=500*k
 | 0,_=>by simp[lF]
 | k+1,h=>by rw[zM ds k V];have:=Rn ds a k V;have:=a k V;omega
def Qd(w:World)(x q cap:Nat)(fv:Value)(st:Int)(ds:List bI)(bs:List (Nat×ByteArray))(c:aV w x q cap fv st ds bs):Calls prog 34 #[.pointer (some (z x))] w λe w'=>e=.returned (I (lF ds ds.length))/\Below w.heap.size w w':=by
 have u:w.cell? (O x 2)=some (.slice (some (z q)) ds.length cap):=(c.blk.cell 2).trans rfl;have A:=c.len;have Hs:=ω<|Rn ds (λj h=>(c.rep j h).nI j)
 have l:J<|∀j(h:j<ds.length)b,Below w.heap.size w b->b.cell? (O q j)=some (.pointer (some (z (ds[j].rb))))/\Calls prog 77 #[.pointer (some (z (ds[j].rb)))] b λe w'=>e=.returned (I (ds[j].K j))/\Below w.heap.size w w':=λj f b a=>by refine⟨(c.below a).cell j f,ψ (Xt b _ _ _ _ _ _ _ ((c.below a).ak0 j f)) ?_⟩;rintro e w'⟨rfl,o⟩;exact⟨rfl,a.trans (o.mono a.size)⟩
 clear c;go_enter func34,ntmps34;go_wp2;go_loopg [3,11] ds.length (λm t s b=>∃i:Nat,i+m=ds.length/\t=I (lF ds i)/\s=I i/\Below w.heap.size w b);case atStart=>exact⟨0,V,rfl,rfl,φ _ w⟩
 case round =>
  obtain⟨i,v,rfl,rfl,a⟩:=hrel;by_cases g:i<ds.length
  .obtain⟨p,k⟩:=l.o i g _ a;have d:J<|_:=k;have B:=zM ds i g;have y:=Hs.o (i+1) V;clear k;generalize ds[i].K i=C at *;go_wp2_with fail;refine ψ d.o ?_;rintro e D⟨rfl,n⟩;clear d p;go_wp2_with fail;go_roundg (ds.length-(i+1));case measure=>omega
   case rel=>exact⟨i+1,V,Λ,Λ,n⟩
  .have r:i=ds.length:=V
   subst r;go_wp2_with fail;go_ret;exact⟨rfl,a⟩
end Go.Proofs.YtfmmllpjgkgeaabGreatDoor
namespace Go.Proofs.YtfmmllpjgkgeaabGreatDoor
open Go.Proofs.Tryz Go.RowKit Go.Maps Go.WideMaps Go.MuLone
variable{B fr:Nat}{K:Nat->Nat}{M:Nat->Prop}{r r':RD}{w w':World}
def gZ{x:Nat}(h:M x)(v:Value):aA M w (w.setCell (z x) v):=aA.setCell (M:=M) (p:=(z x)) (aA.refl _ w) h v
def uf(ds:List bI)(i:Int):Int×Int:=if aK ds i=0 then(((ds[i.toNat]?.map λd=>aF d.K).getD 0:Nat),0) else(0,aK ds i)
def Qe(w:World)(x q cap:Nat)(fv:Value)(ds:List bI)(bs:List (Nat×ByteArray))(c:aV w x q cap fv 0 ds bs)(i:Int):Calls prog 13 #[.pointer (some (z x)),I i] w λe w'=>e=.returned (.tuple #[I (uf ds i).1,I (uf ds i).2])/\aV w' x q cap fv 0 ds bs/\aA (λk=>k=x) w w':=by
 have B:=ω c;have v:w.cell? (z x)=some (.int .i32 0):=(c.blk.cell 0).trans rfl;have A:=c.blk.frozen 0;have a:=ω<|c.turn 1
 have E:=c.blk.lt;clear c;go_enter_defers func13,ntmps13;go_wp2_with (go_at_call 30;refine(lock_free muLib (z x) _ v A).mono ?_;rintro e w'⟨rfl,rfl⟩);have j:Below (w.setCell (z x) (.int .i32 1)).heap.size (w.setCell (z x) (.int .i32 1)) ((w.setCell (z x) (.int .i32 1)).alloc (.cells #[I i] 3)):=(φ _ _).alloc (χ _) _;have t:((w.setCell (z x) (.int .i32 1)).alloc (.cells #[I i] 3)).cell? (z w.heap.size)=some (I i):=by have:=(aC.new (w.setCell (z x) (.int .i32 1)) #[I i] 3).cell 0;simpa using this
 have m:=(gZ (M:=λk=>k=x) rfl _).below j;have d:=a.o.below j;refine ψ (lD _ x q cap fv 1 ds bs d w.heap.size i t) ?_;rintro e y⟨rfl,u⟩;rw[<- u]at d m;clear t j u a v A E;have a:=ω d;have r:=ω m;clear d m B;by_cases b:aK ds i=0
 .have g:=b;obtain⟨k,rfl,n,_⟩:=gK b;have o:J<|uf ds (k:Int)=((aF ds[k].K:Int),0):=by unfold J uf;rw[ώ b];simp[n]
  rw[g];have C:y.cell? (O x 2)=some (.slice (some (z q)) ds.length cap):=(a.o.blk.cell 2).trans rfl;have D:=a.o.cell k n;have s:J<|_:=mP y _ _ _ _ _ _ _ (a.o.ak0 k n);clear g b;go_wp2_with fail;refine ψ s.o ?_;rintro e L⟨rfl,l⟩;have h:=ω<|a.o.below l
  have H:=ω<|r.o.below l
  clear s a r l C D;go_wp2_with fail;refine leaves_cons (f:=31) (args:=#[.pointer (some (z x))]) Ω (by simp[go_sem]) ?_;refine(unlock_deferred muLib (z x) .returning _ ((h.o.blk.cell 0).trans rfl) (h.o.blk.frozen 0)).mono ?_;rintro e F G⟨rfl,rfl,rfl⟩;exact⟨_,results_tmp2 rfl _ _ _,by rw[o.o];rfl,h.o.turn 0,aA.setCell (M:=λk=>k=x) (p:=(z x)) H.o rfl _⟩
 .have o:J<|uf ds i=(0,aK ds i):=by unfold J uf;rw[ύ b]
  have g:=(gY ds i).resolve_left b;generalize aK ds i=K at *;rcases g with rfl|rfl
  all_goals
  clear b;go_wp2_with fail;refine leaves_cons (f:=31) (args:=#[.pointer (some (z x))]) Ω (by simp[go_sem]) ?_;refine(unlock_deferred muLib (z x) .returning _ ((a.o.blk.cell 0).trans rfl) (a.o.blk.frozen 0)).mono ?_;rintro e F G⟨rfl,rfl,rfl⟩;exact⟨_,results_tmp2 rfl _ _ _,by rw[o.o];rfl,a.o.turn 0,aA.setCell (M:=λk=>k=x) (p:=(z x)) r.o rfl _⟩
def Glob.Ed(j:Glob w)(b:aA M w w')(l:∀k,M k->4<=k):Glob w':=by obtain⟨⟨n,g1⟩,⟨c,g2,e⟩,⟨d,g3,f⟩,h,i⟩:=j;have a:Below 4 w w':=⟨b.os,b.tape,b.output,b.size,λk o=>b.block k V (λm=>by have:=l k m;omega)⟩;refine⟨⟨n,(a.cell (p:=(z 0)) Ψ).trans g1⟩,⟨c,(a.cell (p:=(z 1)) Ψ).trans g2,e⟩,⟨d,(a.cell (p:=(z 2)) Ψ).trans g3,f⟩, ?_,ο i a.size⟩;exact var?_below (g:=3) a (by kernel_rfl) Ψ h
def XR(ds:List bI)(i:Int)(s t:ByteArray)(r:Int):Prop :=
 (aK ds i≠0/\t=⟨#[]⟩/\r=aK ds i)\/(aK ds i=0/\Thk.path (ay s)=false/\t=⟨#[]⟩/\r=4) \/
 aK ds i=0/\∃k,∃h:k<ds.length,i=(k:Int)/\Thk.path (ay s)=true/\r=0/\∃xs,ny (aU ds[k].C) xs/\t=⟨(wu (ay s) xs).toArray⟩
def XT(w:World)(L:Glob w)(x q cap:Nat)(fv:Value)(ds:List bI)(bs:List (Nat×ByteArray))(d:aV w x q cap fv 0 ds bs)(Q:∀j(K:j<ds.length),DV (ny (aU ds[j].C)))(i:Int)(s:ByteArray)(R:s.size<=1048576):Calls prog 12 #[.pointer (some (z x)),I i,.string s] w λe w'=>∃t r,e=.returned (.tuple #[.string t,I r])/\XR ds i s t r/\aV w' x q cap fv 0 ds bs/\aA (λk=>k=x) w w':=by
 have Cj:=ω Q;clear Q;have E:=ω d;have W:w.cell? (z x)=some (.int .i32 0):=(d.blk.cell 0).trans rfl;have z0:=d.blk.frozen 0;have b:=ω<|d.turn 1
 have F:=ω L;clear d L;go_enter_defers func12,ntmps12;go_wp2_with (go_at_call 30;refine(lock_free muLib (z x) _ W z0).mono ?_;rintro e w'⟨rfl,rfl⟩);have a1:Below (w.setCell (z x) (.int .i32 1)).heap.size (w.setCell (z x) (.int .i32 1)) ((w.setCell (z x) (.int .i32 1)).alloc (.cells #[I i] 3)):=(φ _ _).alloc (χ _) _;have N:((w.setCell (z x) (.int .i32 1)).alloc (.cells #[I i] 3)).cell? (z w.heap.size)=some (I i):=by have:=(aC.new (w.setCell (z x) (.int .i32 1)) #[I i] 3).cell 0;simpa using this
 have a0:=(gZ (M:=λk=>k=x) rfl _).below a1;have g:=b.o.below a1;refine ψ (lD _ x q cap fv 1 ds bs g w.heap.size i N) ?_;rintro e Y⟨rfl,T⟩;rw[<- T]at g a0;clear N a1 T b W z0;have o:J<|Glob Y:=F.o.Ed a0 (λk e=>by subst e;exact E.o.x4);have b:=ω g;have A:=ω a0;clear g a0 E F;by_cases c:aK ds i=0
 .obtain⟨k,rfl,n,_⟩:=gK c;have h:J<|_:=c;rw[c];clear c;obtain⟨m,P⟩:=o.o.len;have G:J<|_:=xX s m Y R P;clear P;go_wp2_with fail;refine ψ G.o ?_;rintro e Z⟨rfl,l⟩;have a:=ω<|b.o.below l;have C:=ω<|A.o.below l;have D:=ω<|o.o.mono l;clear G b A o l;cases hp:Thk.path (ay s) with
  | false =>have u:J<|_:=hp;clear hp;go_wp2_with fail;refine leaves_cons (f:=31) (args:=#[.pointer (some (z x))]) Ω (by simp[go_sem]) ?_;refine(unlock_deferred muLib (z x) .returning _ ((a.o.blk.cell 0).trans rfl) (a.o.blk.frozen 0)).mono ?_;rintro e X w9⟨rfl,rfl,rfl⟩;exact⟨_,results_tmp2 rfl _ _ _,_,_,rfl,υ (τ ⟨h.o,u.o,rfl,rfl⟩),a.o.turn 0,aA.setCell (M:=λk=>k=x) (p:=(z x)) C.o rfl _⟩
  | true =>
   have H:J<|_:=MF Z D.o _ _ _ _ _ _ _ (a.o.ak0 k n) (Cj.o k n) s R hp;have u:J<|_:=hp;have c2:Z.cell? (O x 2)=some (.slice (some (z q)) ds.length cap):=(a.o.blk.cell 2).trans rfl;have cq:=a.o.cell k n;clear hp D;go_wp2_with fail;refine ψ H.o ?_;rintro e w3⟨xs,U,rfl,y⟩;have B:=ω<|a.o.below y
   have Bf:=ω<|C.o.below y
   have Hx:J<|_:=U;clear H a C y c2 cq U;generalize S:(⟨(wu (ay s) xs).toArray⟩:ByteArray)=tt at *;have Ht:J<|_:=S.symm;clear S;go_wp2_with fail;refine leaves_cons (f:=31) (args:=#[.pointer (some (z x))]) Ω (by simp[go_sem]) ?_;refine(unlock_deferred muLib (z x) .returning _ ((B.o.blk.cell 0).trans rfl) (B.o.blk.frozen 0)).mono ?_;rintro e X w9⟨rfl,rfl,rfl⟩;exact⟨_,results_tmp2 rfl _ _ _,_,_,rfl,υ (υ ⟨h.o,k,n,rfl,u.o,rfl,xs,Hx.o,Ht.o⟩),B.o.turn 0,aA.setCell (M:=λk=>k=x) (p:=(z x)) Bf.o rfl _⟩
 .have h:J<|∀t r,t=⟨#[]⟩/\r=aK ds i->XR ds i s t r:=λt r K=>τ ⟨c,K⟩;have hn:=(gY ds i).resolve_left c;generalize aK ds i=v at *;rcases hn with rfl|rfl
  all_goals
  clear c;go_wp2_with fail;refine leaves_cons (f:=31) (args:=#[.pointer (some (z x))]) Ω (by simp[go_sem]) ?_;refine(unlock_deferred muLib (z x) .returning _ ((b.o.blk.cell 0).trans rfl) (b.o.blk.frozen 0)).mono ?_;rintro e X w9⟨rfl,rfl,rfl⟩;exact⟨_,results_tmp2 rfl _ _ _,_,_,rfl,h.o _ _ ⟨rfl,rfl⟩,b.o.turn 0,aA.setCell (M:=λk=>k=x) (p:=(z x)) A.o rfl _⟩
def aA.wide{a:Nat->Prop}(h:aA M w w')(c:∀k,M k->a k):aA a w w':=⟨h.os,h.tape,h.output,h.size,λk b d=>h.block k b (λe=>d (c k e))⟩
def aA.then{w1 w2:World}(h:aA M w w1)(a:aA M w1 w2):aA M w w2:=⟨a.os.trans h.os,a.tape.trans h.tape,a.output.trans h.output,ς h.size a.size,λk b c=>(a.block k (ο b h.size) c).trans (h.block k b c)⟩
structure jo(B:Nat)(r r':RD):Prop where
 rb:r'.rb=r.rb
 a:r'.a=r.a
 arm:Q8 r->Q8 r'
 nb:r'.nb=r.nb
 own:∀b,r'.own b->r.own b\/B<=b
def jo.mono{a:Nat}(h:jo B r r')(c:a<=B):jo a r r':=⟨h.rb,h.a,h.arm,h.nb,λb d=>(h.own b d).imp id (λh=>ς c h)⟩
def aV.renew{x q cap:Nat}{fv:Value}{st:Int}{ds:List bI}{bs:List (Nat×ByteArray)}(h:aV w x q cap fv st ds bs)(k:Nat)(l:k<ds.length)(H:cO w' r')(m:jo w.heap.size ds[k] r')(o:aA ds[k].own w w'):aV w' x q cap fv st (ds.set k r') bs:=by
 obtain⟨cs,B,K⟩:=h.row;have A:=h.xr k l;have y:=h.qr k l;have n:∀j(b:j<ds.length),(ds.set k r')[j]'(by simpa using b)=if k=j then r' else ds[j]:=λj b=>by rw[ϑi]
 have v:∀j(b:j<ds.length)c,ds[j].own c->c<w.heap.size:=λj b c f=>(h.rep j b).lt f;refine⟨?_,⟨cs,B.aJ o y,λj b=>?_⟩,bG h.fr o (λD F e=>by obtain⟨C,E⟩:=h.frT D F;exact(h.rep k l).mQ (cs:=C) (t:=108) E Ψ Ψ Ψ Ψ e),λj b=>?_,λj b=>?_,λi j G b r c f g=>?_,λj b=>?_,λj b=>?_,by simpa using h.len,by simpa using h.cap,h.x4,h.FK⟩
 .rw[List.length_set];exact h.blk.aJ o A
 .have a:j<ds.length:=by simpa using b
  rw[n j a,K j a];by_cases e:k=j
  .subst e;rw[ώ rfl,m.rb]
  .rw[ύ e]
 .have a:j<ds.length:=by simpa using b
  rw[n j a];by_cases e:k=j
  .subst e;rw[ώ rfl];exact H
  .rw[ύ e];exact(h.rep j a).aJ o (λc f g=>h.apart k j l a e c g f)
 .have a:j<ds.length:=by simpa using b
  rw[n j a,List.length_set];by_cases e:k=j
  .subst e;rw[ώ rfl,m.a,m.nb];exact⟨(h.ra k l).1,m.arm (h.ra k l).2.1,(h.ra k l).2.2⟩
  .rw[ύ e];exact h.ra j a
 .have p:i<ds.length:=by simpa using G
  have a:j<ds.length:=by simpa using b
  rw[n i p]at f;rw[n j a]at g;by_cases e:k=i
  .subst e;rw[ώ rfl]at f;rw[ύ r]at g;rcases m.own c f with d|d
   .exact h.apart k j l a r c d g
   .have:=v j a c g;omega
  .rw[ύ e]at f;by_cases u:k=j
   .subst u;rw[ώ rfl]at g;rcases m.own c g with d|d
    .exact h.apart i k p l r c f d
    .have:=v i p c f;omega
   .rw[ύ u]at g;exact h.apart i j p a r c f g
 .have a:j<ds.length:=by simpa using b
  rw[n j a];by_cases e:k=j
  .subst e;rw[ώ rfl];intro s;rcases m.own x s with d|d
   .exact A d
   .have:=h.blk.lt;omega
  .rw[ύ e];exact h.xr j a
 .have a:j<ds.length:=by simpa using b
  rw[n j a];by_cases e:k=j
  .subst e;rw[ώ rfl];intro s;rcases m.own q s with d|d
   .exact y d
   .have:=B.lt;omega
  .rw[ύ e];exact h.qr j a
def yR(B:Nat)(r:RD)(fr:Nat)(K:Nat->Nat)(C:Nat->Option Thk.Ch)(r':RD):Prop :=
 ∃(io co lo:Nat)(st:jF)(pv:Value),r'=r.more io co lo pv fr st K C/\st.S=eY r K C/\st.It=aU (newC r K C)/\(B<=io/\B<=co/\B<=lo)/\(∀k,st.own k->B<=k)/\(pv.ownBlock=r.pv.ownBlock\/∃k,pv.ownBlock=some k/\B<=k)
def yR.nK{C:Nat->Option Thk.Ch}(h:yR B r fr K C r'):jo B r r':=by
 obtain⟨o,l,s,st,k,rfl,_,_,n,g,c⟩:=h;refine⟨rfl,rfl,id,rfl,λb a=>?_⟩;rcases a with a|a|a|a
 .exact τ (τ a)
 .refine υ ?_;rcases a with e|e|e<;>(have m:=Option.some.inj e;omega)
 .rcases a with a|a|a|⟨p,j,a⟩
  .exact τ (υ (υ (τ (τ a))))
  .have f:k.ownBlock=some b:=a;rcases c with c|⟨q,c,i⟩
   .exact τ (υ (υ (τ (υ (τ (by rw[<- c];exact f))))))
   .rw[c]at f;cases f;exact υ i
  .exact τ (υ (υ (τ (υ (υ (τ a))))))
  .have d:p∈qU r.room r.ps ⟨aF K,fr,st⟩:=j;have:p∈r.ps++[⟨aF K,fr,st⟩]:=by
    unfold qU at d;split at d
    .exact List.mem_of_mem_tail d
    .exact d
   rcases θ.1 this with h|h
   .exact τ (υ (υ (τ (υ (υ (υ ⟨p,h,a⟩))))))
   .rw[ϑe]at h;subst h;exact υ (g b a)
 .exact τ (υ (υ (υ a)))
def yR.mono{a:Nat}{C:Nat->Option Thk.Ch}(h:yR B r fr K C r')(b:a<=B):yR a r fr K C r':=by obtain⟨n,c,o,st,p,d,e,f,q,g,i⟩:=h;exact⟨n,c,o,st,p,d,e,f,V,λk m=>ς b (g k m),i.imp id (λ⟨k,j,l⟩=>⟨k,j,ς b l⟩)⟩
def D9.d{C:Nat->Option Thk.Ch}(h:D9 w w' r fr K C r'):yR w.heap.size r fr K C r':=h.eq
def fK(x:Nat)(ds:List bI)(k:Nat):Prop:=k=x\/∃j,∃h:j<ds.length,ds[j].own k
def Ee(r:RD)(K':Nat->Nat)(C':Nat->Option Thk.Ch)(r':RD):Prop :=
 ∃rs its d,dW (fst K') C' rs its/\(∀m:Nat,r.k=(m:Int)->Q9 m (slotL (r.n+1) (encS rs its)).length r K' C' d)/\r'=r.kV d
def oL.d{m:Nat}{b:Nat->Nat}{a:Nat->Option Thk.Ch}(h:oL w w' r m b a)(l:r.k=(m:Int)):∃r',Ee r b a r'/\cO w' r'/\aA r.own w w':=by
 obtain⟨f,c,d,g,i,j,k⟩:=h;exact⟨_,⟨f,c,d,g,λe n=>by
  have:e=m:=V
  rw[this];exact i,rfl⟩,j,k⟩
def Ee.nK{C:Nat->Option Thk.Ch}(h:Ee r K C r'):jo B r r':=by obtain⟨_,_,d,_,_,rfl⟩:=h;exact⟨rfl,rfl,λ_=>τ rfl,rfl,λb a=>τ a⟩
def UD(B:Nat)(r:RD)(fr:Nat)(K:Nat->Nat)(C:Nat->Option Thk.Ch)(r':RD)(b:Bool):Prop:=(b=true/\r.cut=false/\yR B r fr K C r')\/(b=false/\r.cut=true/\Ee r K C r')
def UD.nK{C:Nat->Option Thk.Ch}{b:Bool}(h:UD B r fr K C r' b):jo B r r':=by
 rcases h with⟨_,_,h⟩|⟨_,_,h⟩
 .exact h.nK
 .exact h.nK
def Rh.d{c:Thk.Ch}{b:Bool}(h:Rh w w' r c b)(i:Q8 r)(g:B<=w.heap.size):∃r',UD B r r.a (inc r.K r.a) (iD r.C c (dX r.a (r.K r.a+1))) r' b/\UD w.heap.size r r.a (inc r.K r.a) (iD r.C c (dX r.a (r.K r.a+1))) r' b/\cO w' r'/\aA r.own w w':=by
 rcases h with⟨rfl,a,j⟩|⟨rfl,a,r',h⟩
 .obtain⟨m,e⟩:∃m:Nat,r.k=(m:Int):=i.elim (λh=>by rw[h]at a;cases a) And.right;obtain⟨r',d,f⟩:=(j m e).d e;exact⟨r',υ ⟨rfl,a,d⟩,υ ⟨rfl,a,d⟩,f⟩
 .exact⟨r',τ ⟨rfl,a,h.d.mono g⟩,τ ⟨rfl,a,h.d⟩,h.rep,h.aJ⟩
def DoD(w:World)(ds:List bI)(i:Int)(s:ByteArray)(r:Int)(ds':List bI):Prop :=
 (aK ds i≠0/\r=aK ds i/\ds'=ds) \/
 (∃m:Nat,aK ds i=0/\Thk.read (ay s)=.inl m/\r=(m:Int)/\ds'=ds) \/
 (∃c:Thk.Ch,aK ds i=0/\Thk.read (ay s)=.inr c/\500<=lF ds ds.length/\r=7/\ds'=ds) \/
 ∃(c:Thk.Ch)(k:Nat)(hk:k<ds.length)(r':RD),i=(k:Int)/\ds[k].dd=none/\Thk.read (ay s)=.inr c/\lF ds ds.length<500/\UD w.heap.size ds[k] k (inc ds[k].K k) (iD ds[k].C c (dX k (ds[k].K k+1))) r' (decide (r=0)) /\
  (r=0\/r=8)/\ds'=ds.set k r'
section
variable{w:World}{ds:List bI}{i:Int}{s:ByteArray}
def DoD.bad(m:Nat)(h:aK ds i=0)(a:Thk.read (ay s)=.inl m):DoD w ds i s m ds:=υ (τ ⟨m,h,a,rfl,rfl⟩)
def DoD.full(c:Thk.Ch)(h:aK ds i=0)(b:Thk.read (ay s)=.inr c)(a:500<=lF ds ds.length):DoD w ds i s 7 ds:=υ (υ (τ ⟨c,h,b,a,rfl,rfl⟩))
end
def zN(ds:List bI)(k:Nat)(a:k<ds.length):∀m,k<m->m<=ds.length->ds[k].K k<=lF ds m
 | 0,h,_=>V
 | m+1,h,hm=>by
  rw[zM ds m V];by_cases e:k=m
  .subst e;omega
  .have:=zN ds k a m V V;omega
def UE(m:Nat):QU (.inl m)=.tuple #[.agg #[.string ⟨#[]⟩,.int .u8 0,.string ⟨#[]⟩,I 0],I m]:=rfl
def UF(c:Thk.Ch):QU (.inr c)=.tuple #[.agg #[.string ⟨c.path.toArray⟩,.int .u8 (c.act.toNat:Int),.string (aG c.act ⟨c.val.toArray⟩),I c.n],I 0]:=rfl
def ZY(w:World)(hG:Glob w)(x q cap:Nat)(fv:Value)(ds:List bI)(bs:List (Nat×ByteArray))(ad:aV w x q cap fv 0 ds bs)(i:Int)(s:ByteArray)(hs:s.size<=1048576)(hB:∀k(b:k<ds.length)c,ds[k].dd=none->Thk.read (ay s)=.inr c->lF ds ds.length<500->jT (fst (inc ds[k].K k)) (iD ds[k].C c (dX k (ds[k].K k+1)))):Calls prog 11 #[.pointer (some (z x)),I i,.string s] w λe w'=>∃r a3,e=.returned (I r)/\DoD w ds i s r a3/\aV w' x q cap fv 0 a3 bs/\aA (fK x ds) w w':=by
 have a8:=ω hB;clear hB;have HC:=ω ad;have k0:w.cell? (z x)=some (.int .i32 0):=(ad.blk.cell 0).trans rfl;have z0:=ad.blk.frozen 0;have g:=ω<|ad.turn 1
 have HG:=ω hG;clear ad hG;go_enter_defers func11,ntmps11;go_wp2_with (go_at_call 30;refine(lock_free muLib (z x) _ k0 z0).mono ?_;rintro e w'⟨rfl,rfl⟩);have X:Below (w.setCell (z x) (.int .i32 1)).heap.size (w.setCell (z x) (.int .i32 1)) ((w.setCell (z x) (.int .i32 1)).alloc (.cells #[I i] 3)):=(φ _ _).alloc (χ _) _;have a5:((w.setCell (z x) (.int .i32 1)).alloc (.cells #[I i] 3)).cell? (z w.heap.size)=some (I i):=by have:=(aC.new (w.setCell (z x) (.int .i32 1)) #[I i] 3).cell 0;simpa using this
 have j:=(gZ (M:=λk=>k=x) rfl _).below X;have F:=g.o.below X;refine ψ (lD _ x q cap fv 1 ds bs F w.heap.size i a5) ?_;rintro e w1⟨rfl,a7⟩;rw[<- a7]at F j;clear a5 X a7 g k0 z0;have S:J<|Glob w1:=HG.o.Ed j (λk e=>by subst e;exact HC.o.x4);have g:=ω F;have Y:=ω j;clear F j HC HG;by_cases l:aK ds i=0
 .obtain⟨k,rfl,b,hu⟩:=gK l;have U:=ω hu;have H:J<|_:=l;rw[l];clear l hu;have HP:J<|_:=yw s w1 hs S.o;go_wp2_with fail;refine ψ HP.o ?_;rintro e a⟨rfl,P⟩;have G:=ω<|g.o.below P;have yM:=ω<|Y.o.below P;have T:=ω<|S.o.mono P;clear HP g Y S P;cases hp:Thk.read (ay s) with
  | inl m =>have u:J<|_:=hp;have hm:=Thk.JV _ _ hp;clear hp T;rw[UE];have n:J<|aV (a.alloc (.cells #[.string ⟨#[]⟩,.int .u8 0,.string ⟨#[]⟩,I 0] 85)) x q cap fv 1 ds bs:=G.o.below ((φ _ _).alloc (χ _) _);have D:J<|aA (λk=>k=x) w (a.alloc (.cells #[.string ⟨#[]⟩,.int .u8 0,.string ⟨#[]⟩,I 0] 85)):=yM.o.below ((φ _ _).alloc (χ _) _);go_wp2_with fail;refine leaves_cons (f:=31) (args:=#[.pointer (some (z x))]) Ω (by simp[go_sem]) ?_;refine(unlock_deferred muLib (z x) .returning _ ((n.o.blk.cell 0).trans rfl) (n.o.blk.frozen 0)).mono ?_;rintro e Z w9⟨rfl,rfl,rfl⟩;exact⟨_,results_tmp rfl _ _ _,_,_,rfl,DoD.bad m H.o u.o,n.o.turn 0,aA.setCell (M:=fK x ds) (p:=(z x)) (D.o.wide (λk e=>τ e)) (τ rfl) _⟩
  | inr c =>
   have u:J<|_:=hp;have a9:J<|c.path.length<=1048576:=ς (Thk.xM _ _ hp).1 Ψ;clear hp;rw[UF];have Q:Below a.heap.size a (a.alloc (.cells #[.string ⟨c.path.toArray⟩,.int .u8 (c.act.toNat:Int),.string (aG c.act ⟨c.val.toArray⟩),I c.n] 85)):=(φ _ _).alloc (χ _) _;have n:=ω<|G.o.below Q
   have D:=ω<|yM.o.below Q
   have G3:=ω<|T.o.mono Q
   have a0:J<|aC (a.alloc (.cells #[.string ⟨c.path.toArray⟩,.int .u8 (c.act.toNat:Int),.string (aG c.act ⟨c.val.toArray⟩),I c.n] 85)) a.heap.size #[.string ⟨c.path.toArray⟩,.int .u8 (c.act.toNat:Int),.string (aG c.act ⟨c.val.toArray⟩),I c.n] 85:=aC.new a _ _;have a1:=G;clear Q G yM T;go_wp2_with fail;refine ψ (Qd _ x q cap fv 1 ds bs n.o) ?_;rintro e d⟨rfl,y⟩;have ac:=ω<|n.o.below y
   have K:=ω<|D.o.below y
   have G4:=ω<|G3.o.mono y
   have o:=ω<|a0.o.below y
   clear y n D G3 a0;by_cases h5:500<=lF ds ds.length
   .have E:J<|_:=h5;go_wp2_with fail;refine leaves_cons (f:=31) (args:=#[.pointer (some (z x))]) Ω (by simp[go_sem]) ?_;refine(unlock_deferred muLib (z x) .returning _ ((ac.o.blk.cell 0).trans rfl) (ac.o.blk.frozen 0)).mono ?_;rintro e Z w9⟨rfl,rfl,rfl⟩;exact⟨_,results_tmp rfl _ _ _,_,_,rfl,DoD.full c H.o u.o E.o,ac.o.turn 0,aA.setCell (M:=fK x ds) (p:=(z x)) (K.o.wide (λk e=>τ e)) (τ rfl) _⟩
   .have E:J<|lF ds ds.length<500:=ω V
    have Kr:ds[k].K k+1<=500:=by have:=zN ds k b ds.length b (χ _);omega
    have c2:d.cell? (O x 2)=some (.slice (some (z q)) ds.length cap):=(ac.o.blk.cell 2).trans rfl;have cq:=ac.o.cell k b;have v0:d.cell? (z a.heap.size)=some (.string ⟨c.path.toArray⟩):=(o.o.cell 0).trans rfl;have v1:d.cell? (O a.heap.size 1)=some (.int .u8 (c.act.toNat:Int)):=(o.o.cell 1).trans rfl;have v2:d.cell? (O a.heap.size 2)=some (.string (aG c.act ⟨c.val.toArray⟩)):=(o.o.cell 2).trans rfl;have v3:d.cell? (O a.heap.size 3)=some (I c.n):=(o.o.cell 3).trans rfl;have a2:¬ds[k].own a.heap.size:=λe=>by have:=(a1.o.rep k b).lt e;omega
    have HA:J<|Calls prog 35 #[.pointer (some (z (ds[k].rb))),.agg #[.string ⟨c.path.toArray⟩,.int .u8 (c.act.toNat:Int),.string (aG c.act ⟨c.val.toArray⟩),I c.n]] d.drew λe w'=>∃L,e=.returned (.bool L)/\(∃r',aV w' x q cap fv 1 (ds.set k r') bs/\UD w.heap.size ds[k] k (inc ds[k].K k) (iD ds[k].C c (dX k (ds[k].K k+1))) r' L/\aA (fK x ds) w w') /\
      w'.cell? (O x 2)=some (.slice (some (z q)) ds.length cap)/\w'.cell? (O q k)=some (.pointer (some (z (ds[k].rb))))/\w'.cell? (z a.heap.size)=some (.string ⟨c.path.toArray⟩)/\w'.cell? (O a.heap.size 1)=some (.int .u8 (c.act.toNat:Int))/\w'.cell? (O a.heap.size 2)=some (.string (aG c.act ⟨c.val.toArray⟩))/\w'.cell? (O a.heap.size 3)=some (I c.n):=by
     have B:Below d.heap.size d d.drew:=(φ _ d).drew;have t:=ac.o.below B;have C:=ac.o.ra k b;refine ψ (P8 d.drew (G4.o.mono B) ds[k] (t.rep k b) U.o C.2.1 c (by rw[C.1];exact Kr) a9.o (by rw[C.1];exact a8.o k b c U.o u.o E.o)) ?_;rintro e w'⟨L,rfl,hM⟩;have hz:=ς K.o.size B.size;obtain⟨r',a4,aa,ab,A⟩:=hM.d C.2.1 hz;rw[C.1]at a4;have R:=t.renew k b ab aa.nK A;have N:=(o.o.below B).aJ A a2;obtain⟨cs,r1,r2⟩:=t.row;refine⟨L,rfl,⟨r',R,a4,((K.o.below B).wide (λ_ e=>τ e)).then (A.wide (λ_ e=>υ ⟨k,b,e⟩))⟩,((t.blk.aJ A (t.xr k b)).cell 2).trans rfl,((r1.aJ A (t.qr k b)).cell k).trans (r2 k b),(N.cell 0).trans rfl,(N.cell 1).trans rfl,(N.cell 2).trans rfl,(N.cell 3).trans rfl⟩
    clear ac K G4 o a2 a1;go_wp2_with fail;go_region_held3 (λw'=>w'.cell? (O x 2)=some (.slice (some (z q)) ds.length cap)/\w'.cell? (O q k)=some (.pointer (some (z (ds[k].rb))))/\w'.cell? (z a.heap.size)=some (.string ⟨c.path.toArray⟩)/\w'.cell? (O a.heap.size 1)=some (.int .u8 (c.act.toNat:Int))/\w'.cell? (O a.heap.size 2)=some (.string (aG c.act ⟨c.val.toArray⟩))/\w'.cell? (O a.heap.size 3)=some (I c.n)) ((refine⟨?_, ?_, ?_, ?_, ?_, ?_⟩<;>assumption)) (first|(go_at_call 35;refine ψ HA.o ?_;rintro e w4⟨b4,rfl,hE,d0,d1,d2,d3,d4,d5⟩));obtain⟨r',R,a6,j⟩:=hE;have W:J<|_:=R;have HN:=ω a6;have HH:J<|_:=j;clear R a6 j HA c2 cq v0 v1 v2 v3 d0 d1 d2 d3 d4 d5;cases b4
    all_goals
    go_wp2_with fail;refine leaves_cons (f:=31) (args:=#[.pointer (some (z x))]) Ω (by simp[go_sem]) ?_;refine(unlock_deferred muLib (z x) .returning _ ((W.o.blk.cell 0).trans rfl) (W.o.blk.frozen 0)).mono ?_;rintro e Z w9⟨rfl,rfl,rfl⟩;exact⟨_,results_tmp rfl _ _ _,_,_,rfl,υ (υ (υ ⟨c,k,b,r',rfl,U.o,u.o,E.o,by exact HN.o,Ψ,rfl⟩)),W.o.turn 0,aA.setCell (M:=fK x ds) (p:=(z x)) HH.o (τ rfl) _⟩
 .have H:J<|∀r,r=aK ds i->DoD w ds i s r ds:=λr h=>τ ⟨l,h,rfl⟩;have hn:=(gY ds i).resolve_left l;generalize aK ds i=v at *;rcases hn with rfl|rfl
  all_goals
  clear l;go_wp2_with fail;refine leaves_cons (f:=31) (args:=#[.pointer (some (z x))]) Ω (by simp[go_sem]) ?_;refine(unlock_deferred muLib (z x) .returning _ ((g.o.blk.cell 0).trans rfl) (g.o.blk.frozen 0)).mono ?_;rintro e Z w9⟨rfl,rfl,rfl⟩;exact⟨_,results_tmp rfl _ _ _,_,_,rfl,H.o _ rfl,g.o.turn 0,aA.setCell (M:=fK x ds) (p:=(z x)) (Y.o.wide (λk e=>τ e)) (τ rfl) _⟩
end Go.Proofs.YtfmmllpjgkgeaabGreatDoor
namespace Go.Proofs.YtfmmllpjgkgeaabGreatDoor
open Go.Proofs.Tryz Go.RowKit Go.Maps Go.WideMaps Go.Deep
variable{ds:List RD}{n room:Nat}{rv:Value}{w w0:World}
def ptrs(bs:List Nat):List Value:=bs.map λb=>.pointer (some (z b))
def others(i n:Nat):List Nat:=(List.range n).filter λj=>decide (j≠i)
def Ef{i j:Nat}:j∈others i n↔j<n/\j≠i:=by unfold others;rw[ϑf,ϑp];simp
def MW(i n:Nat):others i (n+1)=if n=i then others i n else others i n++[n]:=by
 unfold others;rw[List.range_succ,ϑH];by_cases e:n=i
 .subst e;simp
 .simp[e]
def Eh(i n:Nat):(others i n).length<=n:=by unfold others;exact ς (List.length_filter_le _ _) Ω
def GH(rb kb db ab j room n:Nat):RD:=⟨rb,j,none,none,none,kb,db,room,.slice none 0 0,0,ab,others j n,λ_=>0,[],λ_=>0,λ_=>none,0,false,0,none⟩
def UG{rb b a ab j k:Nat}(h:(GH rb b a ab j room n).own k):k=rb\/k=b\/k=a\/k=ab:=by
 rcases h with h|h|h|h
 .exact τ h
 .rcases h with h|h|h<;>cases h
 .rcases h with h|h|h|⟨p,c,_⟩
  .exact υ (τ h)
  .cases h
  .exact υ (υ (υ h))
  .exact absurd c (by show p ∉ ([]:List iJ);simp)
 .exact υ (υ (τ h))
structure Js(w0:World)(w:World)(rv:Value)(n room:Nat)(ds:List RD):Prop where
 blk:aC w w0.heap.size #[.int .i32 0,.int .u32 0,rv,.slice none 0 0] 77
 row:w.ownsRow w0.heap.size 78 1 rv ds.length (ptrs (ds.map RD.rb))
 rep:∀j(h:j<ds.length),cO w ds[j]/\(∃rb kb db ab,ds[j]=GH rb kb db ab j room n)/\∀k,ds[j].own k->w0.heap.size<=k
 apart:∀i j(hi:i<ds.length)(hj:j<ds.length),i≠j->∀k,ds[i].own k->¬ds[j].own k
 bel:Below w0.heap.size w0 w
def Js.ne(h:Js w0 w rv n room ds){b:Nat}{cs:Array Value}{t:TypeId}(a:aC w b cs t)(c:t≠78):rv.ownBlock≠some b:=row_ne a h.row c
def Js.more{q l:World}(h:Js w0 w rv n room ds)(u:Below w.heap.size w q){r:RD}(K:cO q r)(a1:∃rb kb Q N,r=GH rb kb Q N ds.length room n)(x:∀k,r.own k->w.heap.size<=k){g c:Nat}(H:l.ownsRow w0.heap.size 78 1 (.slice (some (z g)) (ds.length+1) c) (ds.length+1) (ptrs (ds.map RD.rb)++[.pointer (some (z r.rb))]))(E:(q.alloc (.cells #[.pointer (some (z r.rb))] 78)).grownBy l rv.ownBlock):Js w0 (l.setCell (O w0.heap.size 2) (.slice (some (z g)) (ds.length+1) c)) (.slice (some (z g)) (ds.length+1) c) n room (ds++[r]):=by
 have M:Below w.heap.size w (q.alloc (.cells #[.pointer (some (z r.rb))] 78)):=u.alloc u.size _;have U:=(aA.refl _ _).grown E (λk e=>τ e);have D:=(aA.of_below ((φ _ q).alloc (χ _) _)).trans U;have L:=(aA.of_below u).trans D;have y:aC l w0.heap.size #[.int .i32 0,.int .u32 0,rv,.slice none 0 0] 77:=h.blk.aJ L (h.ne h.blk Ψ);have A:aA (λk=>k=w0.heap.size) l (l.setCell (O w0.heap.size 2) (.slice (some (z g)) (ds.length+1) c)):=(aA.refl (λk=>k=w0.heap.size) l).setCell (p:=(O w0.heap.size 2)) rfl _;have a2:=λP e=>(h.row.lt P e).2;have a0:∃s,rv.ownBlock=none\/∃g,rv.ownBlock=some g/\aC w g s 78:=by
  obtain⟨_,⟨d,_⟩|⟨C,a4,s,d,t,T,_⟩⟩:=h.row
  .exact⟨#[],τ (by rw[d];rfl)⟩
  .exact⟨s,υ ⟨C,by rw[d];rfl,T⟩⟩
 have Z:∀j(b:j<ds.length)k,ds[j].own k->¬rv.ownBlock=some k:=λj b k a e=>by
  obtain⟨s,d|⟨C,d,t⟩⟩:=a0
  .rw[d]at e;cases e
  .rw[d]at e;cases e
   exact(h.rep j b).1.mQ t Ψ Ψ Ψ Ψ a
 have hx:∀j(b:j<ds.length)k,ds[j].own k->k≠w0.heap.size:=λj b k a e=>(h.rep j b).1.mQ h.blk Ψ Ψ Ψ Ψ (e▸a);have a3:∀k,r.own k->k≠w0.heap.size:=λk a e=>K.mQ (h.blk.below u) Ψ Ψ Ψ Ψ (e▸a);have W:g≠w0.heap.size:=λe=>by subst e;exact row_ne y H Ψ rfl
 have v:∀j(b:j<(ds++[r]).length),(∃f:j<ds.length,(ds++[r])[j]=ds[j])\/(j=ds.length/\(ds++[r])[j]=r):=λj b=>by
  by_cases G:j<ds.length
  .exact τ ⟨G,ϑk G⟩
  .have e:j=ds.length:=by simp at b;omega
   subst e;exact υ ⟨rfl,Ω⟩
 refine⟨?_, ?_,λj b=>?_,λi j X b Y k a o=>?_, ?_⟩
 .unfold aC at y⊢;simp[World.setCell,μ,y]
 .have e:ptrs ((ds++[r]).map RD.rb)=ptrs (ds.map RD.rb)++[.pointer (some (z r.rb))]:=by simp[ptrs]
  rw[e,ρ];exact uQ H A (λk a e=>by cases a;exact W e)
 .rcases v j b with⟨f,e⟩|⟨B,e⟩
  .rw[e];obtain⟨r1,r2,r3⟩:=h.rep j f;exact⟨(r1.aJ L (Z j f)).aJ A (hx j f),r2,r3⟩
  .rw[e];subst B;refine⟨(K.aJ D (λk a S=>?_)).aJ A a3,a1,λk a=>ς h.bel.size (x k a)⟩;have:=x k a;have:=a2 k S;omega
 .rcases v i X with⟨F,e⟩|⟨B,e⟩
  .rw[e]at a;rcases v j b with⟨f,m⟩|⟨R,m⟩
   .rw[m]at o;exact h.apart i j F f Y k a o
   .rw[m]at o;have:=x k o;have:=(h.rep i F).1.lt a;omega
  .rw[e]at a;rcases v j b with⟨f,m⟩|⟨R,m⟩
   .rw[m]at o;have:=x k a;have:=(h.rep j f).1.lt o;omega
   .omega
 .have d:=h.bel.trans (M.mono h.bel.size);have t:=d.grown E d.size (λk a=>(h.row.lt k a).1);exact t.setCell (p:=(O w0.heap.size 2)) (χ _) _
def Js.done(h:Js w0 w rv n room ds)(d:4<=w0.heap.size)(t:1<=ds.length)(f:ds.length<=6)(k:ds.length=n):∃q cap,rv=.slice (some (z q)) ds.length cap/\w0.heap.size<=q/\aV w w0.heap.size q cap (.slice none 0 0) 0 ds []:=by
 obtain⟨v,⟨r,s⟩|⟨q,cap,b,rfl,l,c,g,_,u,m⟩⟩:=h.row
 .omega
 .refine⟨q,cap,rfl,l,h.blk,⟨b,c,λj a=>?_⟩,ϑj _ _ _ _,λj a=>(h.rep j a).1,λj a=>?_,h.apart,λj a=>?_,λj a=>?_,f,g,d,Ω⟩
  .have e:b.toList[j]?=(ptrs (ds.map RD.rb))[j]?:=by rw[<- m,List.getElem?_take,ώ V]
   rw[<- ϑD,e];simp[ptrs,a]
  .obtain⟨y,x,p,o,e⟩:=(h.rep j a).2.1;rw[e,k];exact⟨rfl,τ rfl,λi=>Ef⟩
  .exact(h.rep j a).1.mQ h.blk Ψ Ψ Ψ Ψ
  .exact(h.rep j a).1.mQ (cs:=b) c Ψ Ψ Ψ Ψ
