import Derived.Test.YtfmmllpjgkgeaabGreatDoorZ12
set_option linter.all false
set_option maxHeartbeats 0
set_option maxRecDepth 100000
namespace Go.Proofs.YtfmmllpjgkgeaabGreatDoor
section
open Go.Proofs.Tryz
def aZ(n:Nat):Thk.Bs:=if n<128 then [UInt8.ofNat n]else [UInt8.ofNat (n % 128+128),UInt8.ofNat (n / 128)]
def ku(d:Nat):Thk.Bs:=aZ (who d)++aZ (nth d)
def encR(r:Nat×Nat):Thk.Bs:=ku r.1++aZ r.2
def encI(x:Nat×Thk.Bs):Thk.Bs:=ku x.1++aZ x.2.length++x.2
def encS(rs:List (Nat×Nat))(its:List (Nat×Thk.Bs)):Thk.Bs:=aZ rs.length++rs.flatMap encR++aZ its.length++its.flatMap encI
def iP(r:Nat×Nat):List Nat:=(List.range r.2).map (λk=>r.1+k)
def bP(rs:List (Nat×Nat)):List Nat:=rs.flatMap iP
def Gm(d m:Nat):iP (d,m+1)=iP (d,m)++[d+m]:=by simp[iP,List.range_succ]
def wU(rs:List (Nat×Nat))(r:Nat×Nat):bP (rs++[r])=bP rs++iP r:=by simp[bP]
def yC{d k:Nat}(h:nth d+k<512):who (d+k)=who d:=by unfold who nth at *;omega
def uO{d k:Nat}(h:nth d+k<512):nth (d+k)=nth d+k:=by unfold nth at *;omega
def sO{n:Nat}(h:n<128):aZ n=[UInt8.ofNat n]:=ώ h
def sQ{n:Nat}(h:¬n<128):aZ n=[UInt8.ofNat (n % 128+128),UInt8.ofNat (n / 128)]:=ύ h
def aO(n:Nat):1<=(aZ n).length/\(aZ n).length<=2:=by unfold aZ;split<;>simp
end
section
open Go.Proofs.Tryz
def uP(k n:Nat)(h:n<2 ^ k):(BitVec.ofInt k (n:Int)).toNat=n:=by
 rw[BitVec.toNat_ofInt];have a:((2 ^ k:Nat):Int)=(2:Int) ^ k:=Ω
 rw[Int.emod_eq_of_lt V V];exact ϑE n
def yD(k:IntKind)(x y:Nat)(a:x<2 ^ k.bits)(b:y<2 ^ k.bits):bits .and k (x:Int) (y:Int)=k.wrap ((x &&& y:Nat):Int):=by show k.wrap _=_;rw[BitVec.toNat_and,uP _ _ a,uP _ _ b]
def og(k:IntKind)(x y:Nat)(a:x<2 ^ k.bits)(b:y<2 ^ k.bits):bits .or k (x:Int) (y:Int)=k.wrap ((x ||| y:Nat):Int):=by show k.wrap _=_;rw[BitVec.toNat_or,uP _ _ a,uP _ _ b]
def wrap_i64(n:Nat)(h:n<9223372036854775808):IntKind.i64.wrap (n:Int)=n:=by simp[IntKind.wrap,IntKind.bits,IntKind.signed];omega
def wrap_u8(n:Nat)(h:n<256):IntKind.u8.wrap (n:Int)=n:=by simp[IntKind.wrap,IntKind.bits,IntKind.signed];omega
def WI(n:Nat):n &&& 127=n % 128:=Nat.and_two_pow_sub_one_eq_mod n 7
def WJ(a b:Nat)(h:a<128):a ||| (b*128)=a+b*128:=by have:=Nat.two_pow_add_eq_or_of_lt (i:=7) (b:=a) h b;rw[Nat.or_comm,<- Nat.mul_comm 128 b];rw[show(2:Nat) ^ 7=128 from rfl]at this;omega
def I5(n:Nat)(h:n<4611686018427387904):bits .and .i64 (n:Int) 127=((n % 128:Nat):Int):=by have:=yD .i64 n 127 (ο h Ψ) Ψ;rw[WI,wrap_i64 _ V]at this;exact this
def Dl(n:Nat)(h:n<128):bits .or .i64 (n:Int) 128=((n+128:Nat):Int):=by have:=og .i64 n 128 (ο h Ψ) Ψ;have e:=WJ n 1 h;rw[show(128:Nat)=1*128 from rfl,e,wrap_i64 _ V]at this;exact this
def Dp(n:Nat)(h:n<256):bits .and .u8 (n:Int) 127=((n % 128:Nat):Int):=by have:=yD .u8 n 127 h Ψ;rw[WI,wrap_u8 _ V]at this;exact this
def Dq(n:Nat)(h:n<256):bits .and .u8 (n:Int) 128=if n<128 then 0 else 128:=by
 have a:∀m:Fin 256,bits .and .u8 ((m.val:Nat):Int) 128=if m.val<128 then 0 else 128:=by decide +kernel
 exact a ⟨n,h⟩
def ah8(a b:Nat)(h:a<128)(c:b<1048576):bits .or .i64 (a:Int) ((b*128:Nat):Int)=((a+b*128:Nat):Int):=by have:=og .i64 a (b*128) (ο h Ψ) (ο (V:b*128<134217728) Ψ);rw[WJ a b h,wrap_i64 _ V]at this;exact this
def or_zero(b:Nat)(a:b<1048576):bits .or .i64 0 (b:Int)=(b:Int):=by have:=og .i64 0 b Ψ (ο a Ψ);rw[Nat.zero_or,wrap_i64 _ V]at this;exact this
end
section
open Go.Proofs.Tryz Go.RowKit Go.Maps
variable{B:Nat}{v:Value}{w w':World}
def Tryz.infoU8:(prog.info? 5).map (λi=>(i.zero,i.size,i.bytes))=some (some (.int .u8 0),1,1):=by kernel_rfl
def nO(l:Thk.Bs):List Value:=l.map λb=>.int .u8 (b.toNat:Int)
def jd(l m:Thk.Bs):nO (l++m)=nO l++nO m:=by simp[nO]
def QW(l:Thk.Bs):(nO l).length=l.length:=by simp[nO]
def bU(B:Nat)(w:World)(v:Value)(l:Thk.Bs):Prop:=w.ownsRow B 5 1 v l.length (nO l)
def U8(w:World)(k:Nat):Prop:=∃cs fz,w.heap[k]?=some (.cells cs 5 fz)
def dV(B:Nat)(w w':World):Prop:=aA (λk=>B<=k/\U8 w k) w w'
def dV.refl(B:Nat)(w:World):dV B w w:=aA.refl _ w
def dV.trans{a b c:World}(h:dV B a b)(k:dV B b c):dV B a c:=by have g:=h.size;refine⟨k.os.trans h.os,k.tape.trans h.tape,k.output.trans h.output,ς g k.size,λi d f=>?_⟩;have e:=h.block i d f;refine(k.block i (ο d g) (λo=>?_)).trans e;obtain⟨m,j,l,n⟩:=o;exact f ⟨m,j,l,e▸n⟩
def dV.of_below(a:Below w.heap.size w w'):dV B w w':=aA.of_below a
def dV.app{o:Obj}{l:Thk.Bs}(h:bU B w v l)(a:(w.alloc o).grownBy w' v.ownBlock):dV B w w':=by
 refine(aA.of_below ((φ _ w).alloc (χ _) o):aA (λk=>B<=k/\U8 w k) w (w.alloc o)).grown a (λk e=>τ ?_);rcases h.2 with⟨rfl,_⟩|⟨g,d,b,rfl,c,a,_⟩
 .cases e
 .cases e;exact⟨c,b,_,a⟩
def dV.app0{l:Thk.Bs}(h:bU B w v l)(a:w.grownBy w' v.ownBlock):dV B w w':=by
 refine(aA.refl _ w).grown a (λk e=>τ ?_);rcases h.2 with⟨rfl,_⟩|⟨g,d,b,rfl,c,a,_⟩
 .cases e
 .cases e;exact⟨c,b,_,a⟩
def dV.blk{b:Nat}{cs:Array Value}{t:TypeId}(h:dV B w w')(k:aC w b cs t)(d:t≠5):aC w' b cs t:=by
 refine k.aJ h (λc=>?_);obtain⟨_,e,f,a⟩:=c;rw[show w.heap[b]?=_ from k]at a;cases a
 exact d rfl
def dV.below(h:dV B w w')(b:B<=w.heap.size):Below B w w':=⟨h.os,h.tape,h.output,h.size,λk c=>h.block k V (λa=>by have:=a.1;omega)⟩
def bU.heap{l:Thk.Bs}(h:bU B w v l)(e:w'.heap=w.heap):bU B w' v l:=by unfold bU World.ownsRow at h⊢;rw[e];exact h
def dV.heap(a:w'.heap=w.heap)(b:w'.os=w.os)(d:w'.tape=w.tape)(c:w'.output=w.output):dV B w w' :=
 ⟨b,d,c,by rw[a];exact χ _,λk _ _=>by rw[a]⟩
def bU.nil(B:Nat)(w:World):bU B w (.slice none 0 0) []:=ϑj _ _ _ _
def Pn(B:Nat)(w:World)(v:Value)(l:Thk.Bs)(n:Nat)(k:bU B w v l)(W:B<=w.heap.size)(hl:l.length<=1000000)(hn:n<16384):Calls prog 174 #[v,I n] w λS w'=>∃F,S=.returned F/\bU B w' F (l++aZ n)/\dV B w w':=by
 obtain⟨x,m,s,t,u⟩:=info_parts Tryz.infoU8;have H:=ω k;have A:l.length+1<=maxLen:=by unfold maxLen;omega
 have C:(l.length+1)*1<=140737488355328:=V
 by_cases e:n<128
 .have a2:IntKind.u8.wrap (n:Int)=n:=wrap_u8 n V;have Z:((n:Int) > 127)=False:=Θ
  have P:J<|nO (l++aZ n)=nO l++[.int .u8 (n:Int)]:=ω<|by rw[sO e,jd];simp[nO,UInt8.toNat_ofNat'];omega
  clear k;go_enter func174,ntmps174;go_wp2_with fail;go_loopg [0,1] 0 (λj f g d=>f=v/\g=I n/\d=w);case atStart=>exact⟨rfl,rfl,rfl⟩
  case round =>obtain⟨rfl,rfl,rfl⟩:=hrel;go_wp2_with (first|(at_builtin;refine wpList_append_own_at _ rfl (.tmp 16) (.tmp 19) 190 rfl B 5 x (.int .u8 0) 1 1 underlying190 m s t u rfl Ψ _ _ _ rfl (H.o.alloc _) (z wr.heap.size) 1 1 [.int .u8 (n:Int)] rfl rfl (cell_one_new _ _ _) (by intro E a;simp at a;subst a;rfl) A C Θ ?_;intro G K c b y h));go_ret;refine⟨_,rfl, ?_,dV.app H.o b⟩;unfold bU;rw[P.o,ρ,sO e];exact c
 .have X:n % 128+128<256:=V
  obtain⟨q,D⟩:∃q,n / 128=q:=⟨_,rfl⟩;obtain⟨r,p⟩:∃r,n % 128+128=r:=⟨_,rfl⟩;have a7:bits .and .i64 (n:Int) 127=(n:Int) % 128:=by rw[I5 n V];omega
  have a8:bits .or .i64 ((n:Int) % 128) 128=(r:Int):=by have:=Dl (n % 128) V;rw[<- p,<- this];congr 1
  have a3:(r:Int) % 256=r:=V
  have a4:(q:Int) % 256=q:=V
  have a5:(n:Int) / 128=(q:Int):=V
  have Z:(n:Int) > 127:=V
  have a0:q<128:=V
  have Q:J<|nO (l++[UInt8.ofNat r])=nO l++[.int .u8 (r:Int)]:=ω<|by rw[jd];simp[nO,UInt8.toNat_ofNat'];omega
  have R:J<|nO (l++aZ n)=nO (l++[UInt8.ofNat r])++[.int .u8 (q:Int)]:=ω<|by rw[sQ e,p,D,jd,jd,ϑl];simp[nO,UInt8.toNat_ofNat'];omega
  have T:l.length+1+1<=maxLen:=by unfold maxLen;omega
  have U:(l.length+1+1)*1<=140737488355328:=V
  clear D p X;clear k;go_enter func174,ntmps174;go_wp2_with fail;go_loopg [0,1] 1 (λj f g d=>(j=1/\f=v/\g=I n/\d=w)\/(j=0/\g=I q/\d.ownsRow B 5 1 f (l.length+1) (nO (l++[UInt8.ofNat r]))/\dV B w d));case atStart=>exact τ ⟨rfl,rfl,rfl,rfl⟩
  case round =>
   rcases hrel with⟨Y,rfl,rfl,rfl⟩|⟨Y,rfl,a9,hF⟩
   .go_wp2_with (first|(at_builtin;refine wpList_append_own_at _ rfl (.tmp 7) (.tmp 12) 190 rfl B 5 x (.int .u8 0) 1 1 underlying190 m s t u rfl Ψ _ _ _ rfl (H.o.alloc _) (z wr.heap.size) 1 1 [.int .u8 (r:Int)] rfl rfl (cell_one_new _ _ _) (by intro E a;simp at a;subst a;rfl) A C Θ ?_;intro G K c b y h;have i:=dV.app H.o b;clear b h));go_roundg 0;case measure=>omega
    case rel=>exact υ ⟨rfl,rfl,by rw[Q.o];exact c,i⟩
   .have L:=ω hF;have N:J<|bU B wr u0 (l++[UInt8.ofNat r]):=by unfold J bU;rw[ρ];exact a9
    have a1:=ς W hF.size;have a6:¬((q:Int) > 127):=V
    have M:=ω<|λo=>a9.alloc o
    clear hF a9;go_wp2_with (first|(at_builtin;refine wpList_append_own_at _ rfl (.tmp 16) (.tmp 19) 190 rfl B 5 x (.int .u8 0) 1 1 underlying190 m s t u rfl Ψ _ _ _ rfl (M.o _) (z wr.heap.size) 1 1 [.int .u8 (q:Int)] rfl rfl (cell_one_new _ _ _) (by intro E a;simp at a;subst a;rfl) T U Θ ?_;intro G K c b y h;have i:=dV.app N.o b;clear b h));go_ret;refine⟨_,rfl, ?_,L.o.trans i⟩;unfold bU;rw[R.o,ρ,sQ e];exact c
def yF(s:ByteArray):Lib.strCells s=nO (ay s):=by unfold Lib.strCells nO ay;rfl
end
section
open Go.Proofs.Tryz Go.RowKit Go.Maps Go.WideMaps
abbrev Zv(d m:Nat):Value:=.agg #[I (who d),I (nth d),I m]
def WL(w:World)(d m k:Nat)(c:nth d+k<512):Calls prog 246 #[Zv d m,I k] w λe w'=>e=.returned (aW (d+k))/\Below w.heap.size w w':=by
 unfold aW Zv;rw[yC c,uO c];generalize who d=b at *;generalize nth d=n at *;have a:=aC.new (w.alloc (.cells #[I b,I n,I m] 239)) #[I 0,I 0] 140;rw[ϊ]at a;have g:=(a.cell 0).trans rfl;have h:=(a.cell 1).trans rfl;have f0:=a.frozen;have f:wrap64 ((n:Int)+(k:Int))=(n:Int)+(k:Int):=by unfold wrap64;omega
 clear a;go_enter func246,ntmps246;go_wp2_with fail;refine ϐ (v:=.agg #[I b,I ((n+k:Nat):Int)]) (by simp[results,Tryz.results246,go_sem,g,h,f,bV,aT,World.cell?_setCell_other]) rfl ⟨rfl,Γ⟩
def Le(w:World)(d m:Nat)(hm:nth d+m<=512):Calls prog 217 #[Zv d m] w λe w'=>∃v,e=.returned v/\w'.ownsRow w.heap.size 140 2 v m (bK (iP (d,m)))/\Below w.heap.size w w':=by
 obtain⟨W,Q,S,T,U⟩:=info_parts Tryz.infoDot;have a3:=zl d;have k:=aC.new w #[I (who d),I (nth d),I m] 239;have q:Below w.heap.size w (w.alloc (.cells #[I (who d),I (nth d),I m] 239)):=(φ _ w).alloc (χ _) _;go_enter func217,ntmps217;generalize a4:w.alloc (.cells #[I (who d),I (nth d),I m] 239)=w0 at *;have A:w0.cell? (O w.heap.size 2)=some (I m):=(k.cell 2).trans rfl;go_wp2_with fail;go_loopg [3,7] m (λK v3 v7 s=>∃i:Nat,i+K=m/\v7=I i/\s.ownsRow w.heap.size 140 2 v3 i (bK (iP (d,i)))/\Below w.heap.size w s/\aC s w.heap.size #[I (who d),I (nth d),I m] 239);case atStart=>exact⟨0,V,rfl,ϑj _ _ _ _,q,k⟩
 case round =>
  obtain⟨i,a1,rfl,r,p,b⟩:=hrel;have l:=ω r;have g:=ω p;have t:=ω b;by_cases a2:i<m
  .have X:=(b.cell 0).trans rfl;have Y:=(b.cell 1).trans rfl;have Z:=(b.cell 2).trans rfl;have y:J<|_:=WL wr d m i V;have F:J<|bK (iP (d,i+1))=bK (iP (d,i))++[I (who (d+i)),I (nth (d+i))]:=ω<|by rw[Gm,sH]
   clear r p b k q A;generalize d+i=x at *;go_wp2_with fail;refine ψ y.o ?_;rintro e a⟨rfl,h⟩;have n:=g.o.trans (h.mono g.o.size);have a6:=own_below l.o h;have D:=t.o.below h;have G:=ω<|λo=>a6.alloc o
   have c:J<|a.ownsRow w.heap.size 140 2 u3 i (bK (iP (d,i)))/\Below w.heap.size w a/\aC a w.heap.size #[I (who d),I (nth d),I m] 239:=⟨a6,n,D⟩;have a5:=n.size;have L:i+1<=maxLen:=by unfold maxLen;omega
   have N:(i+1)*16<=140737488355328:=V
   have H:J<|∀j u,([I (who x),I (nth x)]:List Value)[j]?=some u->(a.alloc (.cells #[I (who x),I (nth x)] 140)).cell? (((z a.heap.size):Addr).add j)=some u:=λj u f=>by
    match j,f with
    | 0,f=>cases f;simp[Addr.add]
    | 1,f=>cases f;simp[Addr.add]
   clear a6 n D h l g t y X Y Z;go_wp2_with (first|(at_builtin;refine wpList_append_own_at _ rfl (.tmp 10) (.tmp 14) 143 rfl w.heap.size 140 W (.agg #[I 0,I 0]) 2 16 underlying143 Q S T U rfl Ψ _ _ _ rfl (G.o _) (z a.heap.size) 1 1 [I (who x),I (nth x)] rfl rfl H.o (by simp[Value.oneCell']) L N Θ ?_;intro v6 w6 kL B ET yE));have P:=grown_below c.o.2.1 (χ _) c.o.1 B;have R:aC w6 w.heap.size #[I (who d),I (nth d),I m] 239:=by refine((c.o.2.2.alloc _).aJ (M:=λE=>u3.ownBlock=some E) ((aA.refl _ _).grown B (λE e=>τ e)) (λe=>?_));exact ownsRow_ne c.o.1 (λa0 fz C=>by rw[show a.heap[w.heap.size]?=_ from c.o.2.2]at C;cases C) e
   go_roundg (m-(i+1));case measure=>omega
   case rel=>exact⟨i+1,V,Λ,by rw[F.o];exact kL,P,R⟩
  .clear r p b k q A;have e:i=m:=V
   subst e;go_wp2_with fail;go_ret;exact⟨_,rfl,l.o,g.o⟩
end
section
open Go.Proofs.Tryz Go.RowKit Go.Maps Go.WideMaps Go.Shelf
attribute [local go_sem] Oper.semAt_some
def TI(w:World)(io:Option Nat):Calls prog 232 #[.map io] w λe w'=>e=.returned (.func (.func 261) #[] #[.pointer (some (z w.heap.size))])/\w'=w.alloc (.cells #[.map io] 97):=by go_enter func232,ntmps232;go_wp2;go_ret;exact⟨rfl,rfl⟩
def Lh(w0:World)(f:Nat)(io:Option Nat)(It:Nat->Option Value)(N:Nat)(a:aC w0 f #[.map io] 97)(F:dQ prog 140 w0 (.map io) N (im It))(kM:∀n,It n≠none->okD n):Iter prog 261 #[.pointer (some (z f))] (λn:Nat=>#[Value.agg #[I (who n),I (nth n)]]) (AllOf It) (λk=>k=f\/io=some k) w0:=by
 intro l q Jx W A C ab hY Z;have H:aC W f #[.map io] 97:=(A.2 f (τ rfl)).trans a;have c0:W.cell? (z f)=some (.map io):=(H.cell 0).trans rfl;have u:dQ prog 140 W (.map io) N (im It):=by
  rcases F with h|⟨i,ah,h⟩
  .exact τ h
  .exact υ ⟨i,ah,h.block (A.2 i (υ (by cases ah;rfl)))⟩
 have ac:∀k,(k=f\/io=some k)->k<W.heap.size:=by
  rintro k (rfl|h)
  .exact H.lt
  .exact u.lt k (by rw[h])
 clear F a;refine callsIn_of_wp func261 rfl trivial ?_ rfl;simp only[ntmps261,List.size_toArray,δ,List.length_nil,Nat.reduceAdd,Nat.reduceSub,Array.replicate_succ,Array.replicate_zero,List.push_toArray,List.append_toArray,List.nil_append,List.cons_append];gi_wp2_with (first|(gi_at_range;refine qO rfl (.tmp 4) 97 rfl 67 jE underlying97 rfl u ?_;intro w1 Q a3 ae;go_frame));obtain⟨T,j⟩:∃T:Nat->Prop,T=λk=>k=W.heap.size:=⟨_,rfl⟩;have D:q T [] w1:=C _ _ _ _ _ Z ((aA.refl _ W).grown a3 (λk e=>by cases e)) (λk a=>by rw[j]at a;subst a;exact⟨υ (χ _),V⟩)
 gi_loopw [3] (λ_ p=>∃(left:Value->Prop)(R:Nat)(b:List Nat),bY prog 140 p (.map io) W.heap.size N (im It) left R/\q T b p/\b.Nodup/\∀k,k∈b↔It k≠none/\¬left (aW k)) (λ_ p=>Ae (.map io) W.heap.size p)
 case atStart =>refine⟨_,_,[],Q,D,List.Pairwise.nil,λk=>?_⟩;simp only[List.not_mem_nil,false_iff,jh];rintro⟨d,g⟩;exact g (Option.isSome_iff_ne_none.2 d)
 case round =>
  obtain⟨left,R,b,r,E,P,L⟩:=hrel;clear Q D;have t:=ω r;have qM:J<|∀key v,left key->im It key=some v->∃x:Nat×Value,key=(λx:Nat×Value=>aW x.1) x/\v=(λx:Nat×Value=>x.2) x:=λkey v _ a=>by obtain⟨n,d,g⟩:=oZ a;exact⟨(n,v),d,rfl⟩
  have s:=ω E;have c:J<|b.Nodup/\∀k,k∈b↔It k≠none/\¬left (aW k):=⟨P,L⟩;have ad:=r.lt;clear r E P L;gi_wp2_with (first|(gi_at_next;refine sG rfl (.tmp 5) rfl jE (λx:Nat×Value=>aW x.1) (λx:Nat×Value=>x.2) rfl t.o qM.o ?_ ?_))
  .intro a5;gi_wp2
   go_end0
   refine⟨⟨_,rfl⟩,τ ⟨b,⟨c.o.1,λn=>?_⟩,T,s.o⟩⟩;rw[c.o.2 n];exact⟨λh=>h.1,λh=>⟨h,a5 _⟩⟩
  .intro n v o q4 K a7 lV a6 a4 af a8;have B:It n≠none:=by rw[<- jh It n];exact λe=>by rw[show aW n=_ from rfl]at e;rw[a7]at e;cases e
   have a2:aA T wr (o.alloc (.cells #[I (who n),I (nth n)] 140)):=((aA.refl T wr).grown a4 (λk e=>by cases e;left;rw[j])).below ((φ _ o).alloc (χ _) _);have S:q T b (o.alloc (.cells #[I (who n),I (nth n)] 140)):=C _ _ _ _ _ s.o a2 (λk a=>⟨τ a,by rw[j]at a;subst a;simp;omega⟩);obtain⟨fn,ag,a9,aa,m,U⟩:=hY T b n _ S (CZ kM c.o.1 c.o.2 K B);try dsimp only at m
   gi_wp2;refine(fZ U).mono ?_;rintro e X (⟨rfl,a0,G⟩|⟨rfl,a1,_⟩)
   .have w:bY prog 140 X (.map io) W.heap.size N (im It) (λy=>left y/\y≠aW n) q4:=by have h5:=lV.aJ (M:=λ_=>False) (aA.of_below ((φ _ o).alloc (χ _) (.cells #[I (who n),I (nth n)] 140))) (λ_ _ h=>h) (λh=>h);exact h5.keep (λi ah=>G.2 i (τ (υ (by cases ah;rfl)))) (G.2 _ (υ (by rw[j])))
    gi_wp2;go_roundw;case rel =>
     refine⟨_,q4,b++[n],w,a0, ?_,λk=>?_⟩
     .rw[List.nodup_append];exact⟨c.o.1,Ω,λx hx y m e=>by simp at m;subst m;subst e;exact((c.o.2 _).1 hx).2 K⟩
     .rw[θ,ϑe,c.o.2 k];constructor
      .rintro(⟨d,g⟩|rfl)
       .exact⟨d,λh=>g h.1⟩
       .exact⟨B,λh=>h.2 rfl⟩
      .rintro⟨d,g⟩;by_cases e:k=n
       .exact υ e
       .exact τ ⟨d,λh=>g ⟨h,λY=>e (iW Y)⟩⟩
    case measure=>rw[w.Ae,t.o.Ae];exact a6
   .gi_wp2;refine ϐ (results_none rfl _ _ _) rfl ?_;exact⟨⟨_,rfl⟩,υ ⟨b++[n],T,a1⟩⟩
def Lj(L:Nat->Bool):Nat->Option Value:=λn=>if L n=true then some rZ else none
def aq6(L:Nat->Bool):lm L=im (Lj L):=by
 refine OH (λn=>?_) (λkey c=>?_)
 .unfold Lj;by_cases h:L n=true
  .rw[ώ h];unfold lm;rw[ώ ⟨n,h,rfl⟩]
  .rw[ύ h];unfold lm;rw[ύ];rintro⟨m,b,a⟩;exact h (iW a▸b)
 .unfold lm;rw[ύ];rintro⟨m,_,a⟩;exact c m a
def QX(L:Nat->Bool)(n:Nat):Lj L n≠none↔L n=true:=by unfold Lj;by_cases h:L n=true<;>simp[h]
end
section
open Go.Proofs.Tryz Go.RowKit Go.Maps Go.WideMaps Go.Shelf
variable{ns:List Nat}{left:Value->Prop}
def Ll{a m d:Nat}(i:m<=501):d∈iP (dX a 1,m)↔who d=a/\1<=nth d/\nth d<=m:=by
 have b:nth (dX a 1)=1:=dG V;have c:who (dX a 1)=a:=dI V;unfold iP;rw[ι];dsimp only;constructor
 .rintro⟨k,e,rfl⟩;have h:=ϑp.1 e;rw[yC V,uO V,b,c];exact⟨rfl,V,V⟩
 .rintro⟨rfl,f,g⟩;refine⟨nth d-1,ϑp.2 V, ?_⟩;refine mJ ?_ ?_
  .rw[yC V,c]
  .rw[uO V,b];omega
def Po(r:Nat×Nat):(iP r).Nodup:=by unfold iP;rw[List.nodup_iff_pairwise_ne,List.pairwise_map];exact List.Pairwise.imp (λh=>V) (List.pairwise_lt_range (n:=r.2))
def sS(r:Nat×Nat):(iP r).length=r.2:=by simp[iP]
def Dt(a b:List Nat):bK (a++b)=bK a++bK b:=by simp[bK]
def Du(a:List Nat):(bK a).length=a.length*2:=by
 induction a with
 | nil=>rfl
 | cons x r b=>simp[bK]at b⊢;omega
def Dv(a:List Nat):∀u∈bK a,u.oneCell'=true:=by intro u b;unfold bK at b;obtain⟨x,_,c⟩:=List.mem_flatMap.1 b;simp at c;rcases c with rfl|rfl<;>rfl
def dY.gV{P:Program}{k:TypeId}{w:World}{b r N cnt:Nat}{m:Value->Option Value}{t:TypeId}{a:Array Value}{c:Nat×Nat}(h:dY P k w b r N m left cnt)(e:w.heap[r]?=some (.cells a t c)):False:=by obtain⟨D,j,⟨i,g,l,seen,f,_,_,_,_,d,_⟩,_⟩:=h;rw[d]at e;cases e
structure Got(c:Nat->Nat)(L:Nat->Bool)(left:Value->Prop)(ns:List Nat):Prop where
 nd:ns.Nodup
 mem:∀d,d∈ns↔(L d=true\/(1<=nth d/\nth d<=c (who d)/\¬left (I (who d))))
def Got.len{c:Nat->Nat}{L:Nat->Bool}(h:Got c L left ns)(f:∀a,c a<=501)(e:∀a,c a≠0->a<=5)(i:∀d,L d=true->okD d):ns.length<=3072 :=
 lI 3072 ns h.nd (λd g=>by
  rcases(h.mem d).1 g with b|⟨b,j,_⟩
  .exact ng (i d b)
  .exact ng ⟨e _ V,b,by have:=f (who d);omega⟩)
def Got.step{c:Nat->Nat}{L:Nat->Bool}{a:Nat}(h:Got c L left ns)(j:left (I a))(k:c a<=501)(l:∀e,L e=true->c (who e)<nth e):Got c L (λy=>left y/\¬y=I a) (ns++iP (dX a 1,c a)):=by
 refine⟨?_,λe=>?_⟩
 .rw[List.nodup_append];refine⟨h.nd,Po _,λx n y o g=>?_⟩;subst g;obtain⟨b,d,f⟩:=(Ll k).1 o;rcases(h.mem x).1 n with i|⟨_,_,i⟩
  .have:=l x i;rw[b]at this;omega
  .rw[b]at i;exact i j
 .rw[θ,h.mem,Ll k];by_cases g:who e=a
  .rw[g];constructor
   .rintro((b|⟨b,d,f⟩)|⟨_,b,d⟩)
    .exact τ b
    .exact absurd j f
    .exact υ ⟨b,d,λh=>h.2 rfl⟩
   .rintro(b|⟨b,d,_⟩)
    .exact τ (τ b)
    .exact υ ⟨rfl,b,d⟩
  .have m:¬(Value.int IntKind.i64 (who e:Int)=I a):=λh=>g (by simp at h;omega);constructor
   .rintro((b|⟨b,d,f⟩)|⟨b,_⟩)
    .exact τ b
    .exact υ ⟨b,d,λh=>f h.1⟩
    .exact absurd b g
   .rintro(b|⟨b,d,f⟩)
    .exact τ (τ b)
    .exact τ (υ ⟨b,d,λh=>f ⟨h,m⟩⟩)
def NR(ns:List Nat):Prop:=ns.Pairwise (· < ·)
def NR.nodup(h:NR ns):ns.Nodup:=h.imp (λh e=>V)
def QY(w:World)(co lo:Option Nat)(c:Nat->Nat)(L:Nat->Bool)(h:ni w (.map co) (.map lo) c L):Calls prog 202 #[.agg #[.map co,.map lo]] w λe w'=>∃v ns,e=.returned v/\dN w' v ns/\NR ns/\(∀d,d∈ns↔1<=nth d/\oW c L d)/\(∀m,v.ownBlock=some m->w.heap.size<=m)/\Below w.heap.size w w':=by
 obtain⟨⟨R,f⟩,⟨N',a⟩,C,h4,W⟩:=h;obtain⟨i0,hi,bb,bc,bd⟩:=info_parts Tryz.infoDot;have HM:J<|∀wy,Below w.heap.size w wy->dQ prog 3 wy (.map co) R (cm c):=λwy l=>f.below l;have zo:=ω C;have H5:=ω h4;have P:=ω W;have kb:=aC.new w #[.map co,.map lo] 99;have X:Below w.heap.size w (w.alloc (.cells #[.map co,.map lo] 99)):=(φ _ w).alloc (χ _) _;have a5:J<|∀b,Below w.heap.size w b->Calls prog 225 #[.func (.func 261) #[] #[.pointer (some (z b.heap.size))]] (b.alloc (.cells #[.map lo] 97)) λe w'=>∃v ns,e=.returned v/\AllOf (Lj L) ns/\w'.ownsRow (b.heap.size+1) 140 2 v ns.length (bK ns)/\Below (b.heap.size+1) (b.alloc (.cells #[.map lo] 97)) w':=λb l=>by
  have b2:Below b.heap.size b (b.alloc (.cells #[.map lo] 97)):=(φ _ b).alloc (χ _) _;have a7:dQ prog 140 (b.alloc (.cells #[.map lo] 97)) (.map lo) N' (im (Lj L)):=by rw[<- aq6];exact(a.below l).below b2
  have kM:=λu hn=>(W u ((QX L u).1 hn)).1;have:=Af _ _ _ (AllOf (Lj L)) _ (Lh _ b.heap.size lo (Lj L) N' (aC.new b _ _) a7 kM) (enters_of func261 (by kernel_rfl) rfl) (by
   rintro k (rfl|bm)
   .simp
   .exact a7.lt k (by rw[bm])) (λns bl=>ς (lI 3072 ns bl.1 (λu hn=>ng (kM u ((bl.2 u).1 hn)))) Ψ)
  rw[ϊ]at this;exact this
 clear f a C h4 W;go_enter func202,ntmps202;go_wp2_with fail;generalize al:w.alloc (.cells #[.map co,.map lo] 99)=H at *;have aq:J<|H.heap.size=w.heap.size+1:=by rw[<- al];unfold J;simp
 clear al;refine ψ (TI _ lo) ?_;rintro e w1⟨rfl,rfl⟩;go_wp2_with fail;refine ψ (a5.o _ X) ?_;rintro e w2⟨v2,ns0,rfl,bl,t,aa⟩;have b6:=aq.o;have S:Below H.heap.size H w2:=((φ _ H).alloc (χ _) _).trans (aa.mono V);have Z:Below w.heap.size w w2:=X.trans (S.mono V);have k2:=kb.below S;have c0:=(k2.cell 0).trans rfl;have ah:w2.ownsRow w.heap.size 140 2 v2 ns0.length (bK ns0):=ownsRow_base t V;have ae:Got c L (λkey=>(cm c key).isSome=true) ns0:=⟨bl.1,λd=>by
  rw[bl.2,QX];constructor
  .exact τ
  .rintro(h|⟨f,a,C⟩)
   .exact h
   .exact absurd (by rw[su,ύ V];rfl) C⟩
 have o:J<|w2.ownsRow w.heap.size 140 2 v2 ns0.length (bK ns0)/\Below w.heap.size w w2/\Got c L (λkey=>(cm c key).isSome=true) ns0:=⟨ah,Z,ae⟩;have a6:=HM.o _ Z;clear a5 kb X bl t aa S Z k2 ah ae HM b6;go_wp2_with (first|(at_range;refine fV rfl (.tmp 11) 96 rfl 3 lU underlying96 rfl a6 ?_;intro w3 ai af b7;have Y:Below w2.heap.size w2 w3:=((φ _ w2).grown af (χ _) (λk e=>by cases e));have Q:J<|w3.ownsRow w.heap.size 140 2 v2 ns0.length (bK ns0)/\Below w.heap.size w w3:=⟨own_below o.o.1 Y,o.o.2.1.trans (Y.mono o.o.2.1.size)⟩;have b9:w.heap.size<=w2.heap.size:=o.o.2.1.size;clear af b7 a6 Y;go_frame));go_loopg [3] R (λg v3 b=>∃(left:Value->Prop)(q:Nat)(ns:List Nat),g=q/\bY prog 3 b (.map co) w2.heap.size R (cm c) left q/\b.ownsRow w.heap.size 140 2 v3 ns.length (bK ns)/\Below w.heap.size w b/\Got c L left ns);case atStart=>exact⟨_,_,ns0,rfl,ai,Q.o.1,Q.o.2,o.o.2.2⟩
 case round =>
  obtain⟨left,q,ns,hq,hR,t,l,T⟩:=hrel;have r:=ω hR;have i:J<|wr.ownsRow w.heap.size 140 2 u3 ns.length (bK ns)/\Below w.heap.size w wr/\Got c L left ns:=⟨t,l,T⟩;have qM:J<|∀key v,left key->cm c key=some v->∃x:Nat,key=(λx:Nat=>Value.int .i64 x) x/\v=(λx:Nat=>Value.int .i64 (c x)) x:=λkey v _ bm=>by obtain⟨x,f,a,_⟩:=oV bm;exact⟨x,f,a⟩
  have bh:=T.len zo.o H5.o (λd hd=>(P.o d hd).1);clear hR t l T ai o Q;go_wp2_with (first|(at_next;refine gU rfl (.tmp 12) rfl lU (λx:Nat=>I x) (λx:Nat=>I (c x)) rfl r.o qM.o ?_ ?_))
  .intro b4;have a3:J<|_:=yj wr w.heap.size u3 ns i.o.1 V;have b8:∃ao cap,u3=.slice ao ns.length cap:=by
    rcases i.o.1.2 with⟨f,a⟩|⟨g,cap,U,f,_⟩
    .exact⟨none,0,by rw[f,a]⟩
    .exact⟨_,cap,f⟩
   obtain⟨ao,cap,F⟩:=b8;have a4:=ω F;clear F;have ar:J<|∀d,d∈ns↔1<=nth d/\oW c L d:=λd=>by
    rw[i.o.2.2.mem];unfold oW;constructor
    .rintro(h|⟨f,a,_⟩)
     .exact⟨(P.o d h).1.2.1,υ h⟩
     .exact⟨f,τ a⟩
    .rintro⟨f,h|h⟩
     .exact υ ⟨f,h,b4 _⟩
     .exact τ h
   clear r qM;go_wp2_with fail;refine ψ a3.o ?_;rintro e y⟨rfl,G,hp,aj,p,ak⟩;have HF:J<|dN y u3 G/\NR G/\(∀d,d∈G↔1<=nth d/\oW c L d)/\(∀m,u3.ownBlock=some m->w.heap.size<=m)/\Below w.heap.size w y:=⟨aj,(ak.and (hp.nodup_iff.2 i.o.2.2.nd)).imp (λh=>Nat.lt_of_le_of_ne h.1 h.2),λd=>hp.mem_iff.trans (ar.o d),λm l=>(i.o.1.lt m l).1,i.o.2.1.trans ⟨p.os,p.tape,p.output,p.size,λk bm=>p.block k (ο bm i.o.2.1.size) (λe=>by have:=(i.o.1.lt k e).1;omega)⟩⟩;clear hp aj p ak a3 i;have F:=a4.o;clear a4;subst F;go_wp2_with fail;go_ret;exact⟨_,G,rfl,HF.o⟩
  .intro j w4 q' ag a0 lV bi E bk bg;have bf:c j≠0:=by intro h0;rw[su,ώ h0]at a0;cases a0
   have b3:=zo.o j;have bj:w2.heap.size<w4.heap.size:=by have:=r.o.lt;omega
   have av:aA (λk=>k=w2.heap.size) wr w4:=(aA.refl _ wr).grown E (λk e=>by cases e;exact τ rfl);have ab:Below w.heap.size w w4:=i.o.2.1.grown E i.o.2.1.size (λk e=>by cases e;exact b9);have a8:w4.ownsRow w.heap.size 140 2 u3 ns.length (bK ns):=i.o.1.kept E (by
    by_cases e:u3.ownBlock=none
    .exact τ e
    .refine υ (λe2=>?_);refine ownsRow_ne i.o.1 (λU fz h=>?_) e2;rcases r.o with⟨_,⟨s,seen,cc,a⟩,_⟩|⟨m,_,a⟩
     .rw[a]at h;cases h
     .exact a.gV h)
   have aw:=ω<|i.o.2.2.step ag b3 (λd hd=>(P.o d hd).2)
   have a2:=ω lV;have A:J<|w4.ownsRow w.heap.size 140 2 u3 ns.length (bK ns)/\Below w.heap.size w w4:=⟨a8,ab⟩;have Hd:J<|Calls prog 217 #[.agg #[I j,I 1,I (c j)]] w4 λe w'=>∃v,e=.returned v/\w'.ownsRow w4.heap.size 140 2 v (c j) (bK (iP (dX j 1,c j)))/\Below w4.heap.size w4 w':=by have:=Le w4 (dX j 1) (c j) (by rw[dG V];omega);unfold Zv at this;rw[dI V,dG V]at this;exact this
   generalize be:c j=n at *;clear r i qM lV a8 ab av E a0 ag;go_wp2_with fail;refine ψ Hd.o ?_;rintro e y⟨v5,rfl,a1,D⟩;obtain⟨g5,ax,ba⟩:=dK a1 V;subst ba;have a9:=own_below A.o.1 D;have K:=A.o.2.trans (D.mono A.o.2.size);have ad:=a1.cells (g:=g5) rfl;have ap:=ω ad;have B:=ω a9;have an:=ω K;have N:=ω<|a2.o.aJ (M:=λ_=>False) (aA.of_below D) (λ_ _ h=>h) (λh=>h)
   have az:ns.length+n<=maxLen:=by unfold maxLen;omega
   have b0:(ns.length+n)*16<=140737488355328:=V
   have b5:(bK (iP (dX j 1,n))).length=n*2:=by rw[Du,sS]
   have ac:=K.size;clear ad a9 K a1 D Hd A a2;go_wp2_with (first|(at_builtin;refine wpList_append_own_at _ rfl (.tmp 18) (.tmp 23) 143 rfl w.heap.size 140 i0 (.agg #[I 0,I 0]) 2 16 underlying143 hi bb bc bd rfl Ψ _ _ _ rfl B.o (z g5) n ax (bK (iP (dX j 1,n))) rfl b5 ap.o (Dv _) az b0 ac ?_;intro v6 w6 kL eG ET yE));have b1:=an.o.grown eG ac (λk e=>(B.o.lt k e).1);have I7:aA (λk=>u3.ownBlock=some k) y w6:=(aA.refl _ y).grown eG (λk e=>τ e);go_roundg q';case measure=>omega
   case rel =>
    refine⟨_,q',ns++iP (dX j 1,n),rfl,N.o.aJ I7 (λm l e=>?_) (λe=>?_), ?_,b1,aw.o⟩
    .refine ownsRow_ne B.o (λU fz h=>?_) e;rcases N.o.map with⟨N2,f|⟨b',f,a⟩⟩
     .rw[f.1]at l;cases l
     .rw[f]at l;cases l
      exact a.l7 h
    .refine ownsRow_ne B.o (λU fz h=>?_) e;rcases N.o with⟨_,⟨s,seen,cc,a⟩,_⟩|⟨m,_,a⟩
     .rw[a]at h;cases h
     .exact a.gV h
    .rw[Dt,ρ,sS];exact kL
end
section
open Go.Proofs.Tryz Go.RowKit Go.Maps Go.WideMaps
variable{rs:List (Nat×Nat)}{ns:List Nat}{w:World}
def Tryz.infoRun:(prog.info? 239).map (λi=>(i.zero,i.size,i.bytes))=some (some (.agg #[I 0,I 0,I 0]),3,24):=by kernel_rfl
def gI(rs:List (Nat×Nat)):List Value:=rs.flatMap λr=>[I (who r.1),I (nth r.1),I r.2]
def sU(rs:List (Nat×Nat))(r:Nat×Nat):gI (rs++[r])=gI rs++[I (who r.1),I (nth r.1),I r.2]:=by simp[gI]
def Dw(rs:List (Nat×Nat)):(gI rs).length=rs.length*3:=by
 induction rs with
 | nil=>rfl
 | cons x r a=>simp[gI]at a⊢;omega
def wV:∀(rs:List (Nat×Nat))(i:Nat)(h:i<rs.length),(gI rs)[i*3]?=some (I (who rs[i].1))/\(gI rs)[i*3+1]?=some (I (nth rs[i].1))/\(gI rs)[i*3+2]?=some (I (rs[i].2))
 | [],i,h=>absurd h Ω
 | r::rs,0,h=>⟨rfl,rfl,rfl⟩
 | r::rs,i+1,h=>by
  have:=wV rs i (by simpa using h);have e:gI (r::rs)=[I (who r.1),I (nth r.1),I r.2]++gI rs:=rfl;refine⟨?_, ?_, ?_⟩
  .rw[e,ϋ Θ];simp only[δ,List.length_nil,List.getElem_cons_succ];rw[show(i+1)*3-(0+1+1+1)=i*3 by omega];exact this.1
  .rw[e,ϋ Θ];simp only[δ,List.length_nil,List.getElem_cons_succ];rw[show(i+1)*3+1-(0+1+1+1)=i*3+1 by omega];exact this.2.1
  .rw[e,ϋ Θ];simp only[δ,List.length_nil,List.getElem_cons_succ];rw[show(i+1)*3+2-(0+1+1+1)=i*3+2 by omega];exact this.2.2
structure Runs(ns:List Nat)(i:Nat)(rs:List (Nat×Nat)):Prop where
 flat:bP rs=ns.take i
 ok:∀r∈rs,okD r.1/\1<=r.2/\nth r.1+r.2<=502
 len:rs.length<=i
 gap:∀j(h:j+1<rs.length),rs[j].1+rs[j].2≠rs[j+1].1
def Runs.more{i d m:Nat}(h:Runs ns i (rs++[(d,m)]))(o:i<ns.length)(e:d+m=ns[i])(q:okD ns[i])(t:who ns[i]=who d):Runs ns (i+1) (rs++[(d,m+1)]):=by
 have g:=h.ok (d,m) Ω;refine⟨?_,λr a=>?_, ?_,λj k=>?_⟩
 rotate_left 3
 .have p:j+1<(rs++[(d,m)]).length:=by simpa using k
  have c:=h.gap j p;have l:j<rs.length:=by simp at k;omega
  have b:(rs++[(d,m+1)])[j].1=(rs++[(d,m)])[j].1/\(rs++[(d,m+1)])[j].2=(rs++[(d,m)])[j].2:=by rw[ϑk l,ϑk l];exact⟨rfl,rfl⟩
  have n:(rs++[(d,m+1)])[j+1].1=(rs++[(d,m)])[j+1].1:=by
   by_cases f:j+1<rs.length
   .rw[ϑk f,ϑk f]
   .have:j+1=rs.length:=V
    simp[this]
  rw[b.1,b.2,n];exact c
 .have:=h.flat;rw[wU]at this⊢;rw[Gm,<- ϑl,this,e,ν o]
 .rcases θ.1 a with a|a
  .exact h.ok r (θ.2 (τ a))
  .simp at a;subst a;refine⟨g.1,Ω, ?_⟩;have s:nth ns[i]=nth d+m:=by rw[<- e];exact uO (by have:=g.2.2;simp only at this;omega)
   have c:=q.2.2;simp only;omega
 .have:=h.len;simp at this⊢;omega
def Runs.new{i:Nat}(h:Runs ns i rs)(n:i<ns.length)(f:okD ns[i])(l:∀g d m,rs=g++[(d,m)]->d+m≠ns[i]):Runs ns (i+1) (rs++[(ns[i],1)]):=by
 refine⟨?_,λr a=>?_, ?_,λj o=>?_⟩
 rotate_left 3
 .have c:j<rs.length:=by simp at o;omega
  rw[ϑk c];by_cases b:j+1<rs.length
  .rw[ϑk b];exact h.gap j b
  .have e:j+1=rs.length:=V
   have k:(rs++[(ns[i],1)])[j+1].1=ns[i]:=by simp[e]
   rw[k];refine l (rs.take j) rs[j].1 rs[j].2 ?_;have:=ν c;rw[e,ϑm]at this;exact this
 .rw[wU,h.flat,ν n];simp[iP]
 .rcases θ.1 a with a|a
  .exact h.ok r a
  .simp at a;subst a;exact⟨f,Ω,by have:=f.2.2;simp only;omega⟩
 .have:=h.len;simp;omega
def starts(v:(bP rs).Pairwise (· < ·))(e:∀r∈rs,1<=r.2)(x:∀j(h:j+1<rs.length),rs[j].1+rs[j].2≠rs[j+1].1):(rs.map Prod.fst).Nodup/\∀r∈rs,1<=r.1->r.1-1 ∉ bP rs:=by
 obtain⟨_,s⟩:=List.pairwise_flatMap.1 v;have d:∀r:Nat×Nat,∀k,k<r.2->r.1+k∈iP r:=λr k g=>ι.2 ⟨k,ϑp.2 g,rfl⟩;have l:=λi j f c y=>List.pairwise_iff_getElem.1 s i j f c y;refine⟨?_,λr t D w=>?_⟩
 .refine List.pairwise_map.2 (s.imp_of_mem λ{a b}ha hb h n=>?_);have:=h _ (d a 0 (e a ha)) _ (d b 0 (e b hb));omega
 .obtain⟨j,c,rfl⟩:=ϑd t;obtain⟨L,B,C⟩:=List.mem_flatMap.1 w;obtain⟨i,f,rfl⟩:=ϑd B;obtain⟨k,g,H⟩:=ι.1 C;have A:=ϑp.1 g;have u:=d rs[i] k A;have o:=d rs[j] 0 (e _ t);rcases Nat.lt_trichotomy i j with h|h|h
  .obtain⟨p,rfl⟩:∃p,j=p+1:=⟨j-1,V⟩;have m:p<rs.length:=V
   have K:=e _ (κ m);have q:=d rs[p] (rs[p].2-1) V;have E:=l p (p+1) m c V _ q _ o;have F:=x p c;by_cases n:i=p
   .subst n;omega
   .have G:=l i p f m V _ u _ q;omega
  .subst h;omega
  .have:=l j i c f h _ o _ u;omega
def QZ(g k:Nat):((z g):Addr).add k=(O g k):=by unfold Addr.add;by_cases h:k=0<;>simp[h]
def Zw{base:Nat}{e:TypeId}{size:Nat}{g n b:Nat}{xs:List Value}(h:w.ownsRow base e size (.slice (some (z g)) n b) n xs)(k:Nat)(r:k<xs.length)(u:Value):(w.setCell (O g k) u).ownsRow base e size (.slice (some (z g)) n b) n (xs.set k u):=by
 obtain⟨o,h⟩:=h;refine⟨by rw[List.length_set];exact o,υ ?_⟩;rcases h with⟨a,_⟩|⟨q,p,c,a,d,f,i,j,l,m⟩
 .cases a
 .simp only[ϑa,ϑb,ϑz]at a;obtain⟨⟨rfl,_⟩,_,rfl⟩:=a;refine⟨g,b,c.setIfInBounds k u,rfl,d, ?_,i,j,by simpa using l, ?_⟩
  .simp[World.setCell,μ,f]
  .rw[Array.toList_setIfInBounds,List.take_set,m]
def WM{base:Nat}{e:TypeId}{size:Nat}{g n b:Nat}{xs:List Value}(h:w.ownsRow base e size (.slice (some (z g)) n b) n xs)(k:Nat):w.frozen? (O g k)=false:=by
 rcases h.2 with⟨a,_⟩|⟨i,d,f,a,j,c,_⟩
 .cases a
 .simp only[ϑa,ϑb,ϑz]at a;obtain⟨⟨rfl,_⟩,_,_⟩:=a;simp[World.frozen?,c]
def Pq(rs:List (Nat×Nat))(d m:Nat):(gI (rs++[(d,m)])).set (rs.length*3+2) (I ((m+1:Nat):Int))=gI (rs++[(d,m+1)]):=by rw[sU,sU,<- Dw,List.set_append_right _ _ V];simp
structure RN(w:World)(B:Nat)(v8 v3:Value)(ns:List Nat)(rs:List (Nat×Nat))(wx:World):Prop where
 row:wx.ownsRow B 239 3 v3 rs.length (gI rs)
 old:∀b,v8.ownBlock=some b->b<B
 le:w.heap.size<=B/\B<=wx.heap.size
 sl:dN wx v8 ns
 below:Below w.heap.size w wx
def RN.mono{B:Nat}{c b:Value}{wx wy:World}(h:RN w B c b ns rs wx)(a:Below wx.heap.size wx wy):RN w B c b ns rs wy:=⟨own_below h.row a,h.old,⟨h.le.1,ς h.le.2 a.size⟩,h.sl.below a,h.below.trans (a.mono h.below.size)⟩
def dN.blk{v:Value}(h:dN w v ns):∃a cap,v=.slice a ns.length cap/\ns.length<=cap:=by
 rcases h with⟨rfl,rfl⟩|⟨c,d,cap,rfl,b,_⟩
 .exact⟨none,0,rfl,χ _⟩
 .exact⟨_,cap,rfl,b⟩
def WO(w:World)(co lo:Option Nat)(c:Nat->Nat)(L:Nat->Bool)(h:ni w (.map co) (.map lo) c L):Calls prog 220 #[.agg #[.map co,.map lo]] w λe w'=>∃v ns rs,e=.returned v/\NR ns/\(∀d,d∈ns↔1<=nth d/\oW c L d)/\Runs ns ns.length rs/\w'.ownsRow w.heap.size 239 3 v rs.length (gI rs)/\Below w.heap.size w w':=by
 obtain⟨i0,hi,ac,ad,ae⟩:=info_parts Tryz.infoRun;have zo:=ω h.vC;have H5:=ω h.c5;have HL:=ω h.CV;have fD:J<|∀c0,Calls prog 202 #[.agg #[.map co,.map lo]] (w.alloc c0) λe w'=>∃v ns,e=.returned v/\dN w' v ns/\NR ns/\(∀d,d∈ns↔1<=nth d/\oW c L d)/\Below w.heap.size w w':=λc0=>by have f:Below w.heap.size w (w.alloc c0):=(φ _ w).alloc (χ _) _;refine ψ (QY _ co lo c L (h.below f)) ?_;rintro e w'⟨v,ns,rfl,D,c2,h3,_,b⟩;exact⟨v,ns,rfl,D,c2,h3,f.trans (b.mono f.size)⟩
 clear h;go_enter func220,ntmps220;go_wp2_with fail;refine ψ (fD.o _) ?_;rintro e r⟨v8,ns,rfl,a2,ab,aa,aj⟩;obtain⟨ao,Y,rfl,bo⟩:=a2.blk;have a0:J<|dN r (.slice ao ns.length Y) ns/\Below w.heap.size w r:=⟨a2,aj⟩;have aw:J<|∀n,(Value.slice ao ns.length Y).ownBlock=some n->n<r.heap.size:=by
  rcases a2 with⟨h,_⟩|⟨n,af,b3,h,_,h3,_⟩
  .intro n f;rw[h]at f;cases f
  .intro b' f;rw[h]at f;cases f;exact h3
 have HN:J<|NR ns/\(∀d,d∈ns↔1<=nth d/\oW c L d):=⟨ab,aa⟩;have Cj:J<|∀d∈ns,okD d:=λd hd=>by
  obtain⟨D,c2⟩:=(aa d).1 hd;rcases c2 with c2|c2
  .exact⟨H5.o _ V,D,by have:=zo.o (who d);omega⟩
  .exact(HL.o d c2).1
 have bv:=lI 3072 ns ab.nodup (λd hd=>ng (Cj.o d hd));clear a2 ab aa aj fD zo H5 HL;go_wp2_with fail;go_loopg [3,10] ns.length (λg v3 bj wx=>∃(i:Nat)(rs:List (Nat×Nat)),i+g=ns.length/\bj=I i/\Runs ns i rs/\RN w r.heap.size (.slice ao ns.length Y) v3 ns rs wx);case atStart=>exact⟨0,[],V,rfl,⟨by simp[bP],λU hr=>(by cases hr),Ω,λj y=>absurd y Ω⟩,ϑj _ _ _ _,aw.o,⟨a0.o.2.size,χ _⟩,a0.o.1,a0.o.2⟩
 case round =>
  obtain⟨i,rs,bu,rfl,hR,S⟩:=hrel;have HR:=ω hR;have k:=ω S;have bx:=hR.len;clear a0;by_cases H:i<ns.length
  .obtain⟨n,af,b3,hv,bp,f,a8⟩:=S.sl.resolve_left (λh=>by rw[h.2]at H;simp at H);simp only[ϑa]at hv;obtain⟨rfl,_,rfl⟩:=hv;have k0:=(a8 i H).1;have k1:=(a8 i H).2;have a4:=Cj.o _ (κ H);have a5:rs.length+1<=maxLen:=by unfold maxLen;omega
   have a6:(rs.length+1)*24<=140737488355328:=V
   have a7:=S.le.2;have bh:∃R cap3,u3=.slice R rs.length cap3:=by
    rcases S.row.2 with⟨D,c2⟩|⟨g,cp,bl,D,_⟩
    .exact⟨none,0,by rw[D,c2]⟩
    .exact⟨_,cp,D⟩
   obtain⟨R,cap3,rfl⟩:=bh;have OT:J<|∀(wz:World)(x:Nat)j u,([I (who x),I (nth x),I 1]:List Value)[j]?=some u->(wz.alloc (.cells #[I (who x),I (nth x),I 1] 239)).cell? (((z wz.heap.size):Addr).add j)=some u:=λwz x j u y=>by
    match j,y with
    | 0,y=>cases y;simp[Addr.add]
    | 1,y=>cases y;simp[Addr.add]
    | 2,y=>cases y;simp[Addr.add]
   have ag:J<|(Value.slice R rs.length cap3).ownBlock≠some n:=λe=>by have D:=(k.o.row.lt n e).1;have c2:=k.o.old n rfl;omega
   have HA:J<|∀x,x=ns[i]->(∀X d m,rs=X++[(d,m)]->d+m≠x)->∀G,Below wr.heap.size wr G->∀c0 W w6,w6.ownsRow r.heap.size 239 3 W (rs.length+1) (gI rs++[I (who x),I (nth x),I 1])->(G.alloc c0).grownBy w6 (Value.slice R rs.length cap3).ownBlock->Runs ns (i+1) (rs++[(x,1)])/\RN w r.heap.size (.slice (some (O n af)) ns.length Y) W ns (rs++[(x,1)]) w6:=λx A b9 G f c0 W w6 K t=>by
    subst A;have s:=k.o.mono f;have b5:Below w.heap.size w w6:=(s.below.alloc s.below.size c0).grown t (by have:=s.below.size;simp;omega) (λo hk=>ς s.le.1 (s.row.lt o hk).1);refine⟨HR.o.new H a4 b9,⟨by rw[sU,ρ];exact K,s.old,⟨s.le.1,ς s.le.2 (by have:=t.size;simp at this;omega)⟩, ?_,b5⟩⟩;refine(s.sl.below ((φ _ G).alloc (χ _) c0)).aJ (M:=λo=>(Value.slice R rs.length cap3).ownBlock=some o) ((aA.refl _ _).grown t (λo e=>τ e)) (λo hk e=>?_);cases hk
    exact ag.o e
   have HO:J<|∀G,Below wr.heap.size wr G->∀c0,(G.alloc c0).ownsRow r.heap.size 239 3 (.slice R rs.length cap3) rs.length (gI rs):=λG f c0=>(k.o.mono f).row.alloc c0;obtain⟨x,A⟩:∃x,ns[i]=x:=⟨_,rfl⟩;rw[A]at k0 k1 a4;have Q:=ω A.symm;clear S hR a8 A;have b7:rs=[]\/∃a U,rs=a++[U]:=by
    rcases List.eq_nil_or_concat rs with h|⟨l,U,h⟩
    .exact τ h
    .exact υ ⟨l,U,by rw[h,List.concat_eq_append]⟩
   rcases b7 with rfl|⟨a,U,rfl⟩
   .simp only[List.length_nil]at *;have F:=aC.new wr #[I (who x),I (nth x)] 140;have q:Below wr.heap.size wr (wr.alloc (.cells #[I (who x),I (nth x)] 140)):=(φ _ wr).alloc (χ _) _;go_wp2_with fail;generalize wr.alloc (.cells #[I (who x),I (nth x)] 140)=C at *;have d0:=(F.cell 0).trans rfl;have d1:=(F.cell 1).trans rfl;have aq:=ω q.drew;have ar:=ω q;have bz:=ς a7 q.size;have bm:C.drew.cell? (z wr.heap.size)=some (I (who x)):=d0;have bn:C.drew.cell? (O wr.heap.size 1)=some (I (nth x)):=d1;clear F q k0 k1;have b8:decide ((-1:Int) ≥ 0)=false:=Ψ
    go_quiet (fail)
    go_wp2_with (first|(at_builtin;refine wpList_append_own_at _ rfl (.tmp 41) (.tmp 44) 236 rfl r.heap.size 239 i0 (.agg #[I 0,I 0,I 0]) 3 24 underlying236 hi ac ad ae rfl Ψ _ _ _ rfl (HO.o _ aq.o _) (z C.heap.size) 1 1 [I (who x),I (nth x),I 1] rfl rfl (OT.o _ x) (by simp[Value.oneCell']) a5 a6 Θ ?_;intro W w6 K t ET yE));have E:=HA.o x Q.o (λX d m e=>by simp at e) (C.drewN nq) (below_drewN ar.o nq) _ _ _ K t;go_roundg (ns.length-(i+1));case measure=>omega
    case rel=>exact⟨i+1,_,V,Λ,E.1,E.2⟩
   .obtain⟨d,m⟩:=U;have bg:=HR.o.ok (d,m) Ω;obtain⟨ax,bb,bc⟩:=bg;simp only at bb bc ax;obtain⟨g3,bk,ap⟩:=dK k.o.row Ω;simp only[ϑa]at ap;obtain⟨rfl,_,rfl⟩:=ap;have a1:=k.o.row.cells (g:=g3) rfl;have Z:=wV (a++[(d,m)]) a.length Ω;simp only[ϑu (χ _),Nat.sub_self,List.getElem_cons_zero]at Z;have q0:=a1 _ _ Z.1;have q1:=a1 _ _ Z.2.1;have q2:=a1 _ _ Z.2.2;rw[QZ]at q0 q1 q2;have ba:J<|(gI (a++[(d,m)])).length=(a.length+1)*3:=ω<|by rw[Dw];simp
    have b1:(a++[(d,m)]).length=a.length+1:=Ω
    simp only[b1]at *;have F:=aC.new wr #[I (who x),I (nth x)] 140;have q:Below wr.heap.size wr (wr.alloc (.cells #[I (who x),I (nth x)] 140)):=(φ _ wr).alloc (χ _) _;have T:=(k.o.row.lt g3 rfl).2;have b6:n≠g3:=λe=>ag.o (by rw[e];rfl);clear a1 Z;go_wp2_with fail;have z0:=(q.cell (p:=(O g3 (a.length*3))) T).trans q0;have z1:=(q.cell (p:=(O g3 (a.length*3+1))) T).trans q1;have z2:=(q.cell (p:=(O g3 (a.length*3+2))) T).trans q2;have z3:=(F.cell 0).trans rfl;have z4:=(F.cell 1).trans rfl;generalize wr.alloc (.cells #[I (who x),I (nth x)] 140)=C at *;have a3:J<|∀wx,wx.heap=C.heap->wx.os=C.os->wx.tape=C.tape->wx.output=C.output->Calls prog 246 #[.agg #[I (who d),I (nth d),I m],I m] wx λe w'=>e=.returned (aW (d+m))/\(w'.cell? (O g3 (a.length*3))=some (I (who d))/\w'.cell? (O g3 (a.length*3+1))=some (I (nth d))/\w'.cell? (O g3 (a.length*3+2))=some (I m)/\w'.cell? (z wr.heap.size)=some (I (who x))/\w'.cell? (O wr.heap.size 1)=some (I (nth x)))/\Below wr.heap.size wr w'/\aC w' wr.heap.size #[I (who x),I (nth x)] 140:=λwx A ho ht hp=>by
     have ak:Below wr.heap.size wr wx:=q.trans ⟨ho,ht,hp,by rw[A];exact χ _,λo _=>by rw[A]⟩;have kx:aC wx wr.heap.size #[I (who x),I (nth x)] 140:=by unfold aC;rw[A];exact F
     refine ψ (WL wx d m m V) ?_;rintro e w'⟨rfl,ai⟩;have Zy:=ak.trans (ai.mono ak.size);have WQ:=kx.below ai;exact⟨rfl,⟨(Zy.cell (p:=(O g3 (a.length*3))) T).trans q0,(Zy.cell (p:=(O g3 (a.length*3+1))) T).trans q1,(Zy.cell (p:=(O g3 (a.length*3+2))) T).trans q2,(WQ.cell 0).trans rfl,(WQ.cell 1).trans rfl⟩,Zy,WQ⟩
    clear F q q0 q1 q2 k0 k1;have b8:decide ((a.length:Int) ≥ 0)=true:=Ω
    have br:(0:Int)<=(a.length:Int):=V
    have bs:(a.length:Int)<(a.length:Int)+1:=V
    have bt:(a.length:Int)<((a.length+1:Nat):Int):=V
    by_cases a9:d+m=x
    .subst a9;go_region_held3 (λw'=>w'.cell? (O g3 (a.length*3))=some (I (who d))/\w'.cell? (O g3 (a.length*3+1))=some (I (nth d))/\w'.cell? (O g3 (a.length*3+2))=some (I m)/\w'.cell? (z wr.heap.size)=some (I (who (d+m)))/\w'.cell? (O wr.heap.size 1)=some (I (nth (d+m)))) (first|assumption|exact⟨z0,z1,z2,z3,z4⟩|exact b.1) (first|(go_at_call 246;refine ψ (a3.o _ rfl rfl rfl rfl) ?_;rintro e B⟨rfl,b⟩;have e0:=b.1.1;have e1:=b.1.2.1;have e2:=b.1.2.2.1;have e3:=b.1.2.2.2.1;have e4:=b.1.2.2.2.2));have c1:=k.o.mono b.2.1;have P:=c1.row;rw[show(a++[(d,m)]).length=a.length+1 by simp]at P;have bq:=WM P;have av:=ω c1;have b2:=ω P;clear c1 P;go_wp2_with fail;have c1:=av.o;have P:=b2.o;have an:=Zw P (a.length*3+2) (by rw[ba.o];omega) (I ((m+1:Nat):Int));rw[Pq]at an;have az:dN (B.setCell (O g3 (a.length*3+2)) (I ((m+1:Nat):Int))) (.slice (some (O n af)) ns.length Y) ns:=c1.sl.aJ (M:=λo=>o=g3) ((aA.refl (λo=>o=g3) B).setCell (p:=(O g3 (a.length*3+2))) rfl _) (λo hk e=>by cases hk;exact b6 e);have b0:Below w.heap.size w (B.setCell (O g3 (a.length*3+2)) (I ((m+1:Nat):Int))):=c1.below.setCell (p:=(O g3 (a.length*3+2))) (ς c1.le.1 (c1.row.lt g3 rfl).1) _;have b4:=HR.o.more H (by rw[<- Q.o]) (by rw[<- Q.o];exact a4) (by rw[<- Q.o];exact yC V);go_roundg (ns.length-(i+1));case measure=>omega
     case rel=>exact⟨i+1,a++[(d,m+1)],V,Λ,b4,⟨by simpa using an,c1.old,⟨c1.le.1,by have:=c1.le.2;simpa using this⟩,by simpa using az,by simpa using b0⟩⟩
    .have bw:¬(who (d+m)=who x/\nth (d+m)=nth x):=λh=>a9 (mJ h.1 h.2);have ah:J<|∀X d' m',a++[(d,m)]=X++[(d',m')]->d'+m'≠x:=λX d' m' e=>by have h9:=List.append_inj_right' e rfl;simp only[List.cons.injEq,Prod.mk.injEq,ϑN]at h9;rw[<- h9.1,<- h9.2];exact a9
     generalize d+m=N at *;have bd:(¬((who N:Int)=(who x:Int)))\/((who N:Int)=(who x:Int)/\¬((nth N:Int)=(nth x:Int))):=V
     rcases bd with hp|⟨hp,al⟩
     .have be:((who N:Int)==(who x:Int))=false:=by simpa using hp
      have bf:decide ((who N:Int)=(who x:Int))=false:=by simpa using hp
      go_region_held3 (λw'=>w'.cell? (O g3 (a.length*3))=some (I (who d))/\w'.cell? (O g3 (a.length*3+1))=some (I (nth d))/\w'.cell? (O g3 (a.length*3+2))=some (I m)/\w'.cell? (z wr.heap.size)=some (I (who x))/\w'.cell? (O wr.heap.size 1)=some (I (nth x))) (first|assumption|exact⟨z0,z1,z2,z3,z4⟩|exact b.1) (first|(go_at_call 246;refine ψ (a3.o _ rfl rfl rfl rfl) ?_;rintro e B⟨rfl,b⟩;have e0:=b.1.1;have e1:=b.1.2.1;have e2:=b.1.2.2.1;have e3:=b.1.2.2.2.1;have e4:=b.1.2.2.2.2));have bi:=ς a7 b.2.1.size;go_wp2_with (first|(at_builtin;refine wpList_append_own_at _ rfl (.tmp 41) (.tmp 44) 236 rfl r.heap.size 239 i0 (.agg #[I 0,I 0,I 0]) 3 24 underlying236 hi ac ad ae rfl Ψ _ _ _ rfl (HO.o _ b.2.1 _) (z B.heap.size) 1 1 [I (who x),I (nth x),I 1] rfl rfl (OT.o _ x) (by simp[Value.oneCell']) a5 a6 Θ ?_;intro W w6 K t ET yE));have E:=HA.o x Q.o ah.o B b.2.1 _ _ _ K t;go_roundg (ns.length-(i+1));case measure=>omega
      case rel=>exact⟨i+1,_,V,Λ,E.1,E.2⟩
     .have be:((nth N:Int)==(nth x:Int))=false:=by simpa using al
      have bf:decide ((nth N:Int)=(nth x:Int))=false:=by simpa using al
      go_region_held3 (λw'=>w'.cell? (O g3 (a.length*3))=some (I (who d))/\w'.cell? (O g3 (a.length*3+1))=some (I (nth d))/\w'.cell? (O g3 (a.length*3+2))=some (I m)/\w'.cell? (z wr.heap.size)=some (I (who x))/\w'.cell? (O wr.heap.size 1)=some (I (nth x))) (first|assumption|exact⟨z0,z1,z2,z3,z4⟩|exact b.1) (first|(go_at_call 246;refine ψ (a3.o _ rfl rfl rfl rfl) ?_;rintro e B⟨rfl,b⟩;have e0:=b.1.1;have e1:=b.1.2.1;have e2:=b.1.2.2.1;have e3:=b.1.2.2.2.1;have e4:=b.1.2.2.2.2));have bi:=ς a7 b.2.1.size;go_wp2_with (first|(at_builtin;refine wpList_append_own_at _ rfl (.tmp 41) (.tmp 44) 236 rfl r.heap.size 239 i0 (.agg #[I 0,I 0,I 0]) 3 24 underlying236 hi ac ad ae rfl Ψ _ _ _ rfl (HO.o _ b.2.1 _) (z B.heap.size) 1 1 [I (who x),I (nth x),I 1] rfl rfl (OT.o _ x) (by simp[Value.oneCell']) a5 a6 Θ ?_;intro W w6 K t ET yE));have E:=HA.o x Q.o ah.o B b.2.1 _ _ _ K t;go_roundg (ns.length-(i+1));case measure=>omega
      case rel=>exact⟨i+1,_,V,Λ,E.1,E.2⟩
  .have e:i=ns.length:=V
   subst e;clear hR S;go_wp2_with fail;go_ret;exact⟨_,ns,rs,rfl,HN.o.1,HN.o.2,HR.o,ownsRow_base k.o.row k.o.le.1,k.o.below⟩
def Dx(p:ByteArray)(a:UInt8)(v:ByteArray)(n:Int):Thk.Bs:=ay p++[a]++ay v++(if a.toNat=62 then Lib.itoa n else [])
def mM(a b:ByteArray):ay (a++b)=ay a++ay b:=by unfold ay;simp[ByteArray.data_append]
def WS(w:World)(g:Glob w)(p v:ByteArray)(a:UInt8)(n:Int)(o:a=43\/a=94\/a=61\/a=62)(d:-9223372036854775808<=n/\n<=9223372036854775807)(A:p.size<=1048576)(B:v.size<=1048576):Calls prog 178 #[.agg #[.string p,.int .u8 (a.toNat:Int),.string v,I n]] w λe w'=>∃s,e=.returned (.string s)/\ay s=Dx p a v n/\Below w.heap.size w w':=by
 have x:=ω g;have m:J<|∀f,Below w.heap.size w f->Calls prog 192 #[I n,I 10] f λe w'=>e=.returned (.string ⟨(Lib.itoa n).toArray⟩)/\Below w.heap.size w w':=λf h=>by refine ψ (Tryz.strconv_FormatInt_10 n d.1 d.2 f (g.mono h).tab) ?_;rintro e w'⟨rfl,t,u,rfl⟩;exact⟨rfl,CS (below_drewN h t) (by have:=h.size;simpa using this) u⟩
 clear g;have q:(Lib.itoa n).length<=1000:=ς (Lib.itoa_length_le n d.1 d.2) Ψ;rcases o with rfl|rfl|rfl|rfl
 .have b:Utf8.encode 43=⟨#[43]⟩:=by rfl
  have i:p.size+(Utf8.encode 43).size<=9223372036854775807:=by rw[b];show p.size+1<=_;omega
  have j:(p++Utf8.encode 43).size+v.size<=9223372036854775807:=by rw[ByteArray.size_append,b];show p.size+1+v.size<=_;omega
  have c:J<|ay (p++Utf8.encode 43++v)=ay p++[43]++ay v:=ω<|by rw[mM,mM,b];(first|done|rfl)
  clear b;go_enter func178,ntmps178;go_wp2_with fail;go_ret;refine⟨_,rfl, ?_,Γ⟩;rw[c.o];unfold Dx;rw[ύ Ψ,List.append_nil]
 .have b:Utf8.encode 94=⟨#[94]⟩:=by rfl
  have i:p.size+(Utf8.encode 94).size<=9223372036854775807:=by rw[b];show p.size+1<=_;omega
  have j:(p++Utf8.encode 94).size+v.size<=9223372036854775807:=by rw[ByteArray.size_append,b];show p.size+1+v.size<=_;omega
  have c:J<|ay (p++Utf8.encode 94++v)=ay p++[94]++ay v:=ω<|by rw[mM,mM,b];(first|done|rfl)
  clear b;go_enter func178,ntmps178;go_wp2_with fail;go_ret;refine⟨_,rfl, ?_,Γ⟩;rw[c.o];unfold Dx;rw[ύ Ψ,List.append_nil]
 .have b:Utf8.encode 61=⟨#[61]⟩:=by rfl
  have i:p.size+(Utf8.encode 61).size<=9223372036854775807:=by rw[b];show p.size+1<=_;omega
  have j:(p++Utf8.encode 61).size+v.size<=9223372036854775807:=by rw[ByteArray.size_append,b];show p.size+1+v.size<=_;omega
  have c:J<|ay (p++Utf8.encode 61++v)=ay p++[61]++ay v:=ω<|by rw[mM,mM,b];(first|done|rfl)
  clear b;go_enter func178,ntmps178;go_wp2_with fail;go_ret;refine⟨_,rfl, ?_,Γ⟩;rw[c.o];unfold Dx;rw[ύ Ψ,List.append_nil]
 .have b:Utf8.encode 62=⟨#[62]⟩:=by rfl
  have i:p.size+(Utf8.encode 62).size<=9223372036854775807:=by rw[b];show p.size+1<=_;omega
  have j:(p++Utf8.encode 62).size+v.size<=9223372036854775807:=by rw[ByteArray.size_append,b];show p.size+1+v.size<=_;omega
  have c:J<|ay (p++Utf8.encode 62++v)=ay p++[62]++ay v:=ω<|by rw[mM,mM,b];(first|done|rfl)
  have r:(p++Utf8.encode 62++v).size+(Lib.itoa n).toArray.size<=9223372036854775807:=by rw[ByteArray.size_append,ByteArray.size_append,b];show p.size+1+v.size+_<=_;have:=q;simp at this⊢;omega
  have y:(p++Utf8.encode 62++v).size+(⟨(Lib.itoa n).toArray⟩:ByteArray).size<=9223372036854775807:=r;clear b;go_enter func178,ntmps178;go_wp2_with fail;refine ψ (m.o _ ((φ _ w).alloc (χ _) _)) ?_;rintro e C⟨rfl,k⟩;have l:=ω k;clear k;go_wp2_with fail;go_ret;refine⟨_,rfl, ?_,l.o⟩;rw[mM,c.o];unfold Dx;rw[ώ (show UInt8.toNat 62=62 from rfl)];rfl
abbrev mO(w:World)(rb:Nat)(s:ByteArray):Prop:=aC w rb #[.string s,.bool false] 277
def mO.set0{rb:Nat}{s:ByteArray}(h:mO w rb s)(t:ByteArray):mO (w.setCell (z rb) (.string t)) rb t:=by unfold mO aC at h⊢;simp[World.setCell,μ,h]
def iK(w:World)(rb:Nat)(s:ByteArray)(n lo l:Nat)(r:Thk.Bs)(h:mO w rb s)(a:ay s=aZ n++r)(U:n<16384)(P:lo<=n)(Q:n<=l)(T:l<=1000000000)(X:s.size<=1000000000):Calls prog 160 #[.pointer (some (z rb)),I lo,I l] w λA w'=>∃y,A=.returned (I n)/\mO w' rb y/\ay y=r/\aA (λk=>k=rb) w w':=by
 have M:=(h.cell 0).trans rfl;have N:=(h.cell 1).trans rfl;have f0:=h.frozen;have d:s.size=(aZ n++r).length:=by rw[<- a];simp[ay]
 have o:=ω h;by_cases e:n<128
 .rw[sO e]at a d;simp at d;have c:0<s.size:=V
  have Y:(s[0]'c).toNat=n:=by have:s[0]'c=(ay s)[0]'(by rw[a];simp):=rfl;rw[this];simp only[a];simp;omega
  have B:=Dp n V;rw[Nat.mod_eq_of_lt e]at B;have D:=Dq n V;rw[ώ e]at D;have W:=or_zero n V;have j:J<|ay (s.extract 1 (r.length+1))=r:=ω<|by rw[fU,a,ϑg Ω];rfl
  clear a h;go_enter func160,ntmps160;go_wp2_with fail;go_loopg [7,8] 1 (λg f i m=>g=1/\f=I 0/\i=I 0/\m=w);case atStart=>exact⟨rfl,rfl,rfl,rfl⟩
  case round =>obtain⟨v,rfl,rfl,rfl⟩:=hrel;go_wp2_with fail;go_ret;refine⟨_,rfl,o.o.set0 _,j.o,(aA.refl (λk=>k=rb) wr).setCell (p:=(z rb)) rfl _⟩
 .rw[sQ e]at a d;simp at d;have c:0<s.size:=V
  have t:1<s.size:=V
  obtain⟨b0,u⟩:∃b,n % 128+128=b:=⟨_,rfl⟩;obtain⟨b1,C⟩:∃b,n / 128=b:=⟨_,rfl⟩;obtain⟨q,x⟩:∃q,n % 128=q:=⟨_,rfl⟩;have Z:(s[0]'c).toNat=b0:=by have:s[0]'c=(ay s)[0]'(by rw[a];simp):=rfl;rw[this];simp only[a];simp;omega
  have a0:(s[1]'t).toNat=b1:=by have:s[1]'t=(ay s)[1]'(by rw[a];simp):=rfl;rw[this];simp only[a];simp;omega
  have R:bits .and .u8 (b0:Int) 127=(q:Int):=by have:=Dp b0 V;rw[this,<- u,<- x];omega
  have F:bits .and .u8 (b0:Int) 128=128:=by have:=Dq b0 V;rw[ύ V]at this;exact this
  have K:=or_zero q V;have S:bits .and .u8 (b1:Int) 127=(b1:Int):=by have:=Dp b1 V;rw[Nat.mod_eq_of_lt V]at this;exact this
  have G:bits .and .u8 (b1:Int) 128=0:=by have:=Dq b1 V;rw[ώ V]at this;exact this
  have L:bits .or .i64 (q:Int) ((b1:Int)*128)=(n:Int):=by have:=ah8 q b1 V V;rw[show((b1:Int)*128)=((b1*128:Nat):Int)by omega,this];omega
  have H:q<128:=V
  have E:b1<128:=V
  have j:J<|ay (s.extract 2 (r.length+1+1))=r:=ω<|by rw[fU,a,ϑg Ω];rfl
  clear a h u C x;go_enter func160,ntmps160;go_wp2_with fail;go_loopg [7,8] 1 (λg f i m=>((g=1/\f=I 0/\i=I 0)\/(g=0/\f=I q/\i=I 1))/\m=w);case atStart=>exact⟨τ ⟨rfl,rfl,rfl⟩,rfl⟩
  case round =>
   obtain⟨⟨v,rfl,rfl⟩|⟨v,rfl,rfl⟩,rfl⟩:=hrel
   .go_wp2_with fail;go_roundg 0;case measure=>omega
    case rel=>exact⟨υ ⟨rfl,rfl,rfl⟩,rfl⟩
   .go_wp2_with fail;go_ret;refine⟨_,rfl,o.o.set0 _,j.o,(aA.refl (λk=>k=rb) wr).setCell (p:=(z rb)) rfl _⟩
def TJ(w:World)(rb:Nat)(s:ByteArray)(t r:Thk.Bs)(h:mO w rb s)(d:ay s=aZ t.length++t++r)(x:t.length<16384)(l:s.size<=1000000000):Calls prog 247 #[.pointer (some (z rb))] w λg w'=>∃u m,g=.returned (.string u)/\ay u=t/\mO w' rb m/\ay m=r/\aA (λk=>k=rb) w w':=by
 have v:=(h.cell 0).trans rfl;have j:s.size=(aZ t.length++t++r).length:=by rw[<- d];simp[ay]
 have f:J<|_:=iK w rb s t.length 0 s.size (t++r) h (by rw[d,ϑl]) x (Nat.zero_le _) (by rw[j];simp;omega) l l;clear h j d;go_enter func247,ntmps247;go_wp2_with fail;refine ψ f.o ?_;rintro g n⟨a,rfl,b,c,i⟩;have v:=(b.cell 0).trans rfl;have f0:=b.frozen;have A:t.length<=a.size:=by
  have:a.size=(ay a).length:=by simp[ay]
  rw[this,c];simp
 have q:J<|ay (a.extract 0 t.length)=t:=ω<|by rw[yu,c];simp
 have o:J<|ay (a.extract t.length a.size)=r:=ω<|by rw[Dk,c];simp
 have e:J<|mO n rb a/\aA (λk=>k=rb) w n:=⟨b,i⟩;have y:(t.length:Int)<=(a.size:Int):=V
 generalize t.length=B at *;clear f b c i;go_wp2_with fail;go_ret;exact⟨_,_,rfl,q.o,e.o.1.set0 _,o.o,e.o.2.setCell (p:=(z rb)) rfl _⟩
def Lm(w:World)(rb:Nat)(s:ByteArray)(d:Nat)(r:Thk.Bs)(q:mO w rb s)(x:ay s=ku d++r)(X:who d<=5/\1<=nth d/\nth d<=505)(S:s.size<=1000000000):Calls prog 216 #[.pointer (some (z rb))] w λe w'=>∃a,e=.returned (aW d)/\mO w' rb a/\ay a=r/\aA (λk=>k=rb) w w':=by
 unfold aW ku at *;generalize who d=i at *;generalize nth d=n at *;have Y:=q.lt;have C:J<|∀j,Calls prog 160 #[.pointer (some (z rb)),I 0,I 5] (w.alloc j) λe w'=>∃a,e=.returned (I i)/\mO w' rb a/\ay a=aZ n++r/\aA (λk=>k=rb) (w.alloc j) w'/\a.size<=1000000000:=λj=>by
  refine ψ (iK (w.alloc j) rb s i 0 5 (aZ n++r) (q.alloc j) (by rw[x,ϑl]) V V V V S) ?_;rintro e w'⟨a,rfl,t,m,u⟩;refine⟨a,rfl,t,m,u, ?_⟩;have F:a.size=(ay a).length:=by simp[ay]
  have G:s.size=(ay s).length:=by simp[ay]
  rw[m]at F;rw[x]at G;simp at F G;omega
 have E:J<|∀b g,mO b rb g->ay g=aZ n++r->g.size<=1000000000->Calls prog 160 #[.pointer (some (z rb)),I 1,I 505] b λe w'=>∃a,e=.returned (I n)/\mO w' rb a/\ay a=r/\aA (λk=>k=rb) b w':=λb g t m u=>iK b rb g n 1 505 r t m V V V V u;clear q x;go_enter func216,ntmps216;go_wp2_with fail;refine ψ (C.o _) ?_;rintro e b⟨g,rfl,K,M,B,T⟩;have P:aC b w.heap.size #[I 0,I 0] 140:=(aC.new w _ _).aJ B V;have Q:=ω<|(aA.of_below ((φ _ w).alloc (χ _) _):aA (λk=>k=rb) w _).trans B
 have D:J<|_:=E.o b g K M T;clear C E K M B;go_wp2_with fail;refine ψ D.o ?_;rintro e c⟨A,rfl,L,N,y⟩;have l:=P.aJ y V;have U:=(l.cell 0).trans rfl;have W:=(l.cell 1).trans rfl;have f0:=l.frozen;have o:J<|mO c rb A/\ay A=r/\aA (λk=>k=rb) w c:=⟨L,N,Q.o.trans y⟩;clear P l L N y D;go_wp2_with fail;refine ϐ (v:=.agg #[I i,I n]) (by simp[results,Tryz.results216,go_sem,U,W,bV,aT,World.cell?_setCell_other]) rfl ⟨A,rfl, ?_,o.o.2.1, ?_⟩
 .have f:aA (λk=>k=w.heap.size) c ((c.setCell (z w.heap.size) (I i)).setCell (O w.heap.size 1) (I n)):=((aA.refl (λk=>k=w.heap.size) c).setCell (p:=(z w.heap.size)) rfl _).setCell (p:=(O w.heap.size 1)) rfl _;exact aC.aJ o.o.1 f V
 .have f:aA (λk=>k=w.heap.size) c ((c.setCell (z w.heap.size) (I i)).setCell (O w.heap.size 1) (I n)):=((aA.refl (λk=>k=w.heap.size) c).setCell (p:=(z w.heap.size)) rfl _).setCell (p:=(O w.heap.size 1)) rfl _;have h:=o.o.2.2;exact⟨f.os.trans h.os,f.tape.trans h.tape,f.output.trans h.output,ς h.size f.size,λk H R=>(f.block k (ο H h.size) V).trans (h.block k H R)⟩
