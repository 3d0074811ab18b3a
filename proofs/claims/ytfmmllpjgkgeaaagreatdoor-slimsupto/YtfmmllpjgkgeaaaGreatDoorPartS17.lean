import Derived.Test.YtfmmllpjgkgeaaaGreatDoorPartS12
set_option linter.unusedVariables false
set_option linter.unusedSimpArgs false
set_option maxHeartbeats 16000000
set_option maxRecDepth 100000
namespace Go.Proofs.YtfmmllpjgkgeaaaGreatDoor
section
open Go.Proofs.Tryz
def encN(n:Nat):Thk.Bs:=if n<128 then [UInt8.ofNat n]else [UInt8.ofNat (n % 128+128),UInt8.ofNat (n / 128)]
def encD(d:Nat):Thk.Bs:=encN (who d)++encN (nth d)
def encR(r:Nat×Nat):Thk.Bs:=encD r.1++encN r.2
def encI(x:Nat×Thk.Bs):Thk.Bs:=encD x.1++encN x.2.length++x.2
def encS(rs:List (Nat×Nat))(its:List (Nat×Thk.Bs)):Thk.Bs:=encN rs.length++rs.flatMap encR++encN its.length++its.flatMap encI
def runD(r:Nat×Nat):List Nat:=(List.range r.2).map (λk=>r.1+k)
def flatR(rs:List (Nat×Nat)):List Nat:=rs.flatMap runD
theorem xX(d m:Nat):runD (d,m+1)=runD (d,m)++[d+m]:=by simp[runD,List.range_succ]
theorem oG(rs:List (Nat×Nat))(r:Nat×Nat):flatR (rs++[r])=flatR rs++runD r:=by simp[flatR]
theorem pz{d k:Nat}(h:nth d+k<512):who (d+k)=who d:=by unfold who nth at *;omega
theorem ni{d k:Nat}(h:nth d+k<512):nth (d+k)=nth d+k:=by unfold nth at *;omega
theorem lU{n:Nat}(h:n<128):encN n=[UInt8.ofNat n]:=ώ h
theorem lV{n:Nat}(h:¬n<128):encN n=[UInt8.ofNat (n % 128+128),UInt8.ofNat (n / 128)]:=ύ h
theorem encN_len(n:Nat):1<=(encN n).length/\(encN n).length<=2:=by unfold encN;split<;>simp
end
section
open Go.Proofs.Tryz
theorem ny(k n:Nat)(h:n<2 ^ k):(BitVec.ofInt k (n:Int)).toNat=n:=by
 rw[BitVec.toNat_ofInt];have a:((2 ^ k:Nat):Int)=(2:Int) ^ k:=Ω
 rw[Int.emod_eq_of_lt V V];exact Int.toNat_natCast n
theorem pF(k:IntKind)(x y:Nat)(a:x<2 ^ k.bits)(b:y<2 ^ k.bits):bits .and k (x:Int) (y:Int)=k.wrap ((x &&& y:Nat):Int):=by show k.wrap _=_;rw[BitVec.toNat_and,ny _ _ a,ny _ _ b]
theorem jv(k:IntKind)(x y:Nat)(a:x<2 ^ k.bits)(b:y<2 ^ k.bits):bits .or k (x:Int) (y:Int)=k.wrap ((x ||| y:Nat):Int):=by show k.wrap _=_;rw[BitVec.toNat_or,ny _ _ a,ny _ _ b]
theorem wrap_i64(n:Nat)(h:n<9223372036854775808):IntKind.i64.wrap (n:Int)=n:=by simp[IntKind.wrap,IntKind.bits,IntKind.signed];omega
theorem wrap_u8(n:Nat)(h:n<256):IntKind.u8.wrap (n:Int)=n:=by simp[IntKind.wrap,IntKind.bits,IntKind.signed];omega
theorem LK(n:Nat):n &&& 127=n % 128:=Nat.and_two_pow_sub_one_eq_mod n 7
theorem LM(a b:Nat)(h:a<128):a ||| (b*128)=a+b*128:=by have:=Nat.two_pow_add_eq_or_of_lt (i:=7) (b:=a) h b;rw[Nat.or_comm,<- Nat.mul_comm 128 b];rw[show(2:Nat) ^ 7=128 from rfl]at this;omega
theorem zx(n:Nat)(h:n<4611686018427387904):bits .and .i64 (n:Int) 127=((n % 128:Nat):Int):=by have:=pF .i64 n 127 (ο h Ψ) Ψ;rw[LK,wrap_i64 _ V]at this;exact this
theorem uM(n:Nat)(h:n<128):bits .or .i64 (n:Int) 128=((n+128:Nat):Int):=by have:=jv .i64 n 128 (ο h Ψ) Ψ;have e:=LM n 1 h;rw[show(128:Nat)=1*128 from rfl,e,wrap_i64 _ V]at this;exact this
theorem zy(n:Nat)(h:n<256):bits .and .u8 (n:Int) 127=((n % 128:Nat):Int):=by have:=pF .u8 n 127 h Ψ;rw[LK,wrap_u8 _ V]at this;exact this
theorem zA(n:Nat)(h:n<256):bits .and .u8 (n:Int) 128=if n<128 then 0 else 128:=by
 have a:∀m:Fin 256,bits .and .u8 ((m.val:Nat):Int) 128=if m.val<128 then 0 else 128:=by decide +kernel
 exact a ⟨n,h⟩
theorem TA(a b:Nat)(h:a<128)(c:b<1048576):bits .or .i64 (a:Int) ((b*128:Nat):Int)=((a+b*128:Nat):Int):=by have:=jv .i64 a (b*128) (ο h Ψ) (ο (V:b*128<134217728) Ψ);rw[LM a b h,wrap_i64 _ V]at this;exact this
theorem or_zero(b:Nat)(a:b<1048576):bits .or .i64 0 (b:Int)=(b:Int):=by have:=jv .i64 0 b Ψ (ο a Ψ);rw[Nat.zero_or,wrap_i64 _ V]at this;exact this
end
section
open Go.Proofs.Tryz Go.RowKit Go.Maps
variable{B:Nat}{v:Value}{w w':World}
theorem Tryz.infoU8:(prog.info? 5).map (λi=>(i.zero,i.size,i.bytes))=some (some (.int .u8 0),1,1):=by kernel_rfl
def iQ(l:Thk.Bs):List Value:=l.map λb=>.int .u8 (b.toNat:Int)
theorem dZ(l m:Thk.Bs):iQ (l++m)=iQ l++iQ m:=by simp[iQ]
theorem Gz(l:Thk.Bs):(iQ l).length=l.length:=by simp[iQ]
def aH(B:Nat)(w:World)(v:Value)(l:Thk.Bs):Prop:=w.ownsRow B 5 1 v l.length (iQ l)
def U8(w:World)(k:Nat):Prop:=∃cs fz,w.heap[k]?=some (.cells cs 5 fz)
def aY(B:Nat)(w w':World):Prop:=Chg (λk=>B<=k/\U8 w k) w w'
theorem aY.refl(B:Nat)(w:World):aY B w w:=Chg.refl _ w
theorem aY.trans{a b c:World}(h:aY B a b)(k:aY B b c):aY B a c:=by have g:=h.size;refine⟨k.os.trans h.os,k.tape.trans h.tape,k.output.trans h.output,ς g k.size,λi d f=>?_⟩;have e:=h.block i d f;refine(k.block i (ο d g) (λo=>?_)).trans e;obtain⟨m,j,l,n⟩:=o;exact f ⟨m,j,l,e▸n⟩
theorem aY.of_below(a:Below w.heap.size w w'):aY B w w':=Chg.of_below a
theorem aY.app{o:Obj}{l:Thk.Bs}(h:aH B w v l)(a:(w.alloc o).grownBy w' v.ownBlock):aY B w w':=by
 refine(Chg.of_below ((φ _ w).alloc (χ _) o):Chg (λk=>B<=k/\U8 w k) w (w.alloc o)).grown a (λk e=>τ ?_);rcases h.2 with⟨rfl,_⟩|⟨g,d,b,rfl,c,a,_⟩
 .cases e
 .cases e;exact⟨c,b,_,a⟩
theorem aY.app0{l:Thk.Bs}(h:aH B w v l)(a:w.grownBy w' v.ownBlock):aY B w w':=by
 refine(Chg.refl _ w).grown a (λk e=>τ ?_);rcases h.2 with⟨rfl,_⟩|⟨g,d,b,rfl,c,a,_⟩
 .cases e
 .cases e;exact⟨c,b,_,a⟩
theorem aY.blk{b:Nat}{cs:Array Value}{t:TypeId}(h:aY B w w')(k:ah w b cs t)(d:t≠5):ah w' b cs t:=by
 refine k.chg h (λc=>?_);obtain⟨_,e,f,a⟩:=c;rw[show w.heap[b]?=_ from k]at a;cases a
 exact d rfl
theorem aY.below(h:aY B w w')(b:B<=w.heap.size):Below B w w':=⟨h.os,h.tape,h.output,h.size,λk c=>h.block k V (λa=>by have:=a.1;omega)⟩
theorem aH.heap{l:Thk.Bs}(h:aH B w v l)(e:w'.heap=w.heap):aH B w' v l:=by unfold aH World.ownsRow at h⊢;rw[e];exact h
theorem aY.heap(a:w'.heap=w.heap)(b:w'.os=w.os)(d:w'.tape=w.tape)(c:w'.output=w.output):aY B w w' :=
 ⟨b,d,c,by rw[a];exact χ _,λk _ _=>by rw[a]⟩
theorem aH.nil(B:Nat)(w:World):aH B w (.slice none 0 0) []:=World.ownsRow_nil _ _ _ _
theorem EY(B:Nat)(w:World)(v:Value)(l:Thk.Bs)(n:Nat)(k:aH B w v l)(X:B<=w.heap.size)(hl:l.length<=1000000)(hn:n<16384):Calls prog 220 #[v,.int .i64 n] w λU w'=>∃G,U=.returned G/\aH B w' G (l++encN n)/\aY B w w':=by
 obtain⟨x,m,s,t,u⟩:=info_parts Tryz.infoU8;have H:J<|aH B w v l:=k;have A:l.length+1<=maxLen:=by unfold maxLen;omega
 have C:(l.length+1)*1<=140737488355328:=V
 by_cases e:n<128
 .have a2:IntKind.u8.wrap (n:Int)=n:=wrap_u8 n V;have a0:((n:Int) > 127)=False:=Θ
  have Q:J<|iQ (l++encN n)=iQ l++[.int .u8 (n:Int)]:=ω<|by rw[lU e,dZ];simp[iQ,UInt8.toNat_ofNat'];omega
  clear k;go_enter func220,ntmps220;go_wp2_with fail;go_loopg [0,1] 0 (λj g h d=>g=v/\h=.int .i64 n/\d=w);case atStart=>exact⟨rfl,rfl,rfl⟩
  case round =>obtain⟨rfl,rfl,rfl⟩:=hrel;go_wp2_with (first|(at_builtin;refine wpList_append_own_at _ rfl (.tmp 16) (.tmp 19) 93 rfl B 5 x (.int .u8 0) 1 1 underlying93 m s t u rfl Ψ _ _ _ rfl (H.o.alloc _) (z wr.heap.size) 1 1 [.int .u8 (n:Int)] rfl rfl (cell_one_new _ _ _) (by intro F a;simp at a;subst a;rfl) A C Θ ?_;intro K L c b D f));go_ret;refine⟨_,rfl, ?_,aY.app H.o b⟩;unfold aH;rw[Q.o,ρ,lU e];exact c
 .have Y:n % 128+128<256:=V
  obtain⟨q,E⟩:∃q,n / 128=q:=⟨_,rfl⟩;obtain⟨r,p⟩:∃r,n % 128+128=r:=⟨_,rfl⟩;have a7:bits .and .i64 (n:Int) 127=(n:Int) % 128:=by rw[zx n V];omega
  have a8:bits .or .i64 ((n:Int) % 128) 128=(r:Int):=by have:=uM (n % 128) V;rw[<- p,<- this];congr 1
  have a3:(r:Int) % 256=r:=V
  have a4:(q:Int) % 256=q:=V
  have a5:(n:Int) / 128=(q:Int):=V
  have a0:(n:Int) > 127:=V
  have WG:q<128:=V
  have R:J<|iQ (l++[UInt8.ofNat r])=iQ l++[.int .u8 (r:Int)]:=ω<|by rw[dZ];simp[iQ,UInt8.toNat_ofNat'];omega
  have S:J<|iQ (l++encN n)=iQ (l++[UInt8.ofNat r])++[.int .u8 (q:Int)]:=ω<|by rw[lV e,p,E,dZ,dZ,List.append_assoc];simp[iQ,UInt8.toNat_ofNat'];omega
  have W:l.length+1+1<=maxLen:=by unfold maxLen;omega
  have T:(l.length+1+1)*1<=140737488355328:=V
  clear E p Y;clear k;go_enter func220,ntmps220;go_wp2_with fail;go_loopg [0,1] 1 (λj g h d=>(j=1/\g=v/\h=.int .i64 n/\d=w)\/(j=0/\h=.int .i64 q/\d.ownsRow B 5 1 g (l.length+1) (iQ (l++[UInt8.ofNat r]))/\aY B w d));case atStart=>exact τ ⟨rfl,rfl,rfl,rfl⟩
  case round =>
   rcases hrel with⟨Z,rfl,rfl,rfl⟩|⟨Z,rfl,o,hF⟩
   .go_wp2_with (first|(at_builtin;refine wpList_append_own_at _ rfl (.tmp 7) (.tmp 12) 93 rfl B 5 x (.int .u8 0) 1 1 underlying93 m s t u rfl Ψ _ _ _ rfl (H.o.alloc _) (z wr.heap.size) 1 1 [.int .u8 (r:Int)] rfl rfl (cell_one_new _ _ _) (by intro F a;simp at a;subst a;rfl) A C Θ ?_;intro K L c b D f;have i:=aY.app H.o b;clear b f));go_roundg 0;case measure=>omega
    case rel=>exact υ ⟨rfl,rfl,by rw[R.o];exact c,i⟩
   .have M:J<|aY B w wr:=hF;have P:J<|aH B wr u0 (l++[UInt8.ofNat r]):=by unfold J aH;rw[ρ];exact o
    have a1:B<=wr.heap.size:=ς X hF.size;have a6:¬((q:Int) > 127):=V
    have N:J<|∀y,(wr.alloc y).ownsRow B 5 1 u0 (l.length+1) (iQ (l++[UInt8.ofNat r])):=λy=>o.alloc y;clear hF o;go_wp2_with (first|(at_builtin;refine wpList_append_own_at _ rfl (.tmp 16) (.tmp 19) 93 rfl B 5 x (.int .u8 0) 1 1 underlying93 m s t u rfl Ψ _ _ _ rfl (N.o _) (z wr.heap.size) 1 1 [.int .u8 (q:Int)] rfl rfl (cell_one_new _ _ _) (by intro F a;simp at a;subst a;rfl) W T Θ ?_;intro K L c b D f;have i:=aY.app P.o b;clear b f));go_ret;refine⟨_,rfl, ?_,M.o.trans i⟩;unfold aH;rw[S.o,ρ,lV e];exact c
theorem pG(s:ByteArray):Lib.strCells s=iQ (toL s):=by unfold Lib.strCells iQ toL;rfl
end
section
open Go.Proofs.Tryz Go.RowKit Go.Maps Go.WideMaps
abbrev PK(d m:Nat):Value:=.agg #[.int .i64 (who d),.int .i64 (nth d),.int .i64 m]
theorem LP(w:World)(d m k:Nat)(c:nth d+k<512):Calls prog 243 #[PK d m,.int .i64 k] w λe w'=>e=.returned (aA (d+k))/\Below w.heap.size w w':=by
 unfold aA PK;rw[pz c,ni c];generalize who d=b at *;generalize nth d=n at *;have a:=ah.new (w.alloc (.cells #[.int .i64 b,.int .i64 n,.int .i64 m] 250)) #[.int .i64 0,.int .i64 0] 134;rw[ϊ]at a;have g:=(a.cell 0).trans rfl;have h:=(a.cell 1).trans rfl;have f0:=a.frozen;have f:wrap64 ((n:Int)+(k:Int))=(n:Int)+(k:Int):=by unfold wrap64;omega
 clear a;go_enter func243,ntmps243;go_wp2_with fail;refine ϐ (v:=.agg #[.int .i64 b,.int .i64 ((n+k:Nat):Int)]) (by simp[results,Tryz.results243,go_sem,g,h,f,cs_same,cs_oth,World.cell?_setCell_other]) rfl ⟨rfl,Γ⟩
theorem BK(w:World)(d m:Nat)(hm:nth d+m<=512):Calls prog 184 #[PK d m] w λe w'=>∃v,e=.returned v/\w'.ownsRow w.heap.size 134 2 v m (aF (runD (d,m)))/\Below w.heap.size w w':=by
 obtain⟨X,Q,T,U,W⟩:=info_parts Tryz.infoDot;have a4:=qx d;have h:=ah.new w #[.int .i64 (who d),.int .i64 (nth d),.int .i64 m] 250;have p:Below w.heap.size w (w.alloc (.cells #[.int .i64 (who d),.int .i64 (nth d),.int .i64 m] 250)):=(φ _ w).alloc (χ _) _;go_enter func184,ntmps184;generalize a5:w.alloc (.cells #[.int .i64 (who d),.int .i64 (nth d),.int .i64 m] 250)=w0 at *;have A:w0.cell? (O w.heap.size 2)=some (.int .i64 m):=(h.cell 2).trans rfl;go_wp2_with fail;go_loopg [3,7] m (λK v3 v7 s=>∃i:Nat,i+K=m/\v7=.int .i64 i/\s.ownsRow w.heap.size 134 2 v3 i (aF (runD (d,i)))/\Below w.heap.size w s/\ah s w.heap.size #[.int .i64 (who d),.int .i64 (nth d),.int .i64 m] 250);case atStart=>exact⟨0,V,rfl,World.ownsRow_nil _ _ _ _,p,h⟩
 case round =>
  obtain⟨i,a1,rfl,q,o,a⟩:=hrel;have k:J<|wr.ownsRow w.heap.size 134 2 u3 i (aF (runD (d,i))):=q;have f:J<|Below w.heap.size w wr:=o;have t:J<|ah wr w.heap.size #[.int .i64 (who d),.int .i64 (nth d),.int .i64 m] 250:=a;by_cases a2:i<m
  .have Y:=(a.cell 0).trans rfl;have Z:=(a.cell 1).trans rfl;have k2:=(a.cell 2).trans rfl;have y:J<|_:=LP wr d m i V;have G:J<|aF (runD (d,i+1))=aF (runD (d,i))++[.int .i64 (who (d+i)),.int .i64 (nth (d+i))]:=ω<|by rw[xX,lQ]
   clear q o a h p A;generalize d+i=x at *;go_wp2_with fail;refine ψ y.o ?_;rintro e w1⟨rfl,g⟩;have n:Below w.heap.size w w1:=f.o.trans (g.mono f.o.size);have l:w1.ownsRow w.heap.size 134 2 u3 i (aF (runD (d,i))):=own_below k.o g;have C:=t.o.below g;have H:J<|∀r,(w1.alloc r).ownsRow w.heap.size 134 2 u3 i (aF (runD (d,i))):=λr=>l.alloc r;have b:J<|w1.ownsRow w.heap.size 134 2 u3 i (aF (runD (d,i)))/\Below w.heap.size w w1/\ah w1 w.heap.size #[.int .i64 (who d),.int .i64 (nth d),.int .i64 m] 250:=⟨l,n,C⟩;have a6:w.heap.size<=w1.heap.size:=n.size;have L:i+1<=maxLen:=by unfold maxLen;omega
   have N:(i+1)*16<=140737488355328:=V
   have F:J<|∀j u,([.int .i64 (who x),.int .i64 (nth x)]:List Value)[j]?=some u->(w1.alloc (.cells #[.int .i64 (who x),.int .i64 (nth x)] 134)).cell? (((z w1.heap.size):Addr).add j)=some u:=λj u c=>by
    match j,c with
    | 0,c=>cases c;simp[Addr.add]
    | 1,c=>cases c;simp[Addr.add]
   clear l n C g k f t y Y Z k2;go_wp2_with (first|(at_builtin;refine wpList_append_own_at _ rfl (.tmp 10) (.tmp 14) 137 rfl w.heap.size 134 X (.agg #[.int .i64 0,.int .i64 0]) 2 16 underlying137 Q T U W rfl Ψ _ _ _ rfl (H.o _) (z w1.heap.size) 1 1 [.int .i64 (who x),.int .i64 (nth x)] rfl rfl F.o (by simp[Value.oneCell']) L N Θ ?_;intro v6 w6 S D a3 qg));have P:Below w.heap.size w w6:=grown_below b.o.2.1 (χ _) b.o.1 D;have R:ah w6 w.heap.size #[.int .i64 (who d),.int .i64 (nth d),.int .i64 m] 250:=by refine((b.o.2.2.alloc _).chg (M:=λE=>u3.ownBlock=some E) ((Chg.refl _ _).grown D (λE e=>τ e)) (λe=>?_));exact ownsRow_ne b.o.1 (λa0 fz B=>by rw[show w1.heap[w.heap.size]?=_ from b.o.2.2]at B;cases B) e
   go_roundg (m-(i+1));case measure=>omega
   case rel=>exact⟨i+1,V,Λ,by rw[G.o];exact S,P,R⟩
  .clear q o a h p A;have e:i=m:=V
   subst e;go_wp2_with fail;go_ret;exact⟨_,rfl,k.o,f.o⟩
end
section
open Go.Proofs.Tryz Go.RowKit Go.Maps Go.WideMaps Go.Shelf
attribute [local go_sem] Oper.semAt_some
theorem IX(w:World)(io:Option Nat):Calls prog 256 #[.map io] w λe w'=>e=.returned (.func (.func 282) #[] #[.pointer (some (z w.heap.size))])/\w'=w.alloc (.cells #[.map io] 98):=by go_enter func256,ntmps256;go_wp2;go_ret;exact⟨rfl,rfl⟩
theorem BL(w0:World)(f:Nat)(io:Option Nat)(It:Nat->Option Value)(N:Nat)(b:ah w0 f #[.map io] 98)(G:aW prog 134 w0 (.map io) N (im It))(Z:∀n,It n≠none->okD n):Iter prog 282 #[.pointer (some (z f))] (λn:Nat=>#[Value.agg #[.int .i64 (who n),.int .i64 (nth n)]]) (AllOf It) (λk=>k=f\/io=some k) w0:=by
 intro l i Jx W C E aa hY h0;have K:ah W f #[.map io] 98:=(C.2 f (τ rfl)).trans b;have c0:W.cell? (z f)=some (.map io):=(K.cell 0).trans rfl;have u:aW prog 134 W (.map io) N (im It):=by
  rcases G with h|⟨j,m,h⟩
  .exact τ h
  .exact υ ⟨j,m,h.block (C.2 j (υ (by cases m;rfl)))⟩
 have ab:∀k,(k=f\/io=some k)->k<W.heap.size:=by
  rintro k (rfl|h)
  .exact K.lt
  .exact u.lt k (by rw[h])
 clear G b;refine callsIn_of_wp func282 rfl trivial ?_ rfl;simp only[ntmps282,List.size_toArray,δ,List.length_nil,Nat.reduceAdd,Nat.reduceSub,Array.replicate_succ,Array.replicate_zero,List.push_toArray,List.append_toArray,List.nil_append,List.cons_append];gi_wp2_with (first|(gi_at_range;refine kN rfl (.tmp 4) 98 rfl 69 fG underlying98 rfl u ?_;intro w1 R a3 ad;go_frame));obtain⟨T,ag⟩:∃T:Nat->Prop,T=λk=>k=W.heap.size:=⟨_,rfl⟩;have F:i T [] w1:=E _ _ _ _ _ h0 ((Chg.refl _ W).grown a3 (λk e=>by cases e)) (λk b=>by rw[ag]at b;subst b;exact⟨υ (χ _),V⟩)
 gi_loopw [3] (λ_ q=>∃(left:Value->Prop)(s:Nat)(a:List Nat),aB prog 134 q (.map io) W.heap.size N (im It) left s/\i T a q/\a.Nodup/\∀k,k∈a↔It k≠none/\¬left (aA k)) (λ_ q=>qY (.map io) W.heap.size q)
 case atStart =>refine⟨_,_,[],R,F,List.Pairwise.nil,λk=>?_⟩;simp only[List.not_mem_nil,false_iff,eP];rintro⟨d,g⟩;exact g (Option.isSome_iff_ne_none.2 d)
 case round =>
  obtain⟨left,s,a,r,A,Q,P⟩:=hrel;clear R F;have t:J<|aB prog 134 wr (.map io) W.heap.size N (im It) left s:=r;have mZ:J<|∀key v,left key->im It key=some v->∃x:Nat×Value,key=(λx:Nat×Value=>aA x.1) x/\v=(λx:Nat×Value=>x.2) x:=λkey v _ b=>by obtain⟨n,d,g⟩:=jJ b;exact⟨(n,v),d,rfl⟩
  have B:J<|i T a wr:=A;have c:J<|a.Nodup/\∀k,k∈a↔It k≠none/\¬left (aA k):=⟨Q,P⟩;have ac:W.heap.size<wr.heap.size:=r.lt;clear r A Q P;gi_wp2_with (first|(gi_at_next;refine lN rfl (.tmp 5) rfl fG (λx:Nat×Value=>aA x.1) (λx:Nat×Value=>x.2) rfl t.o mZ.o ?_ ?_))
  .intro a5;gi_wp2
   go_end0
   refine⟨⟨_,rfl⟩,τ ⟨a,⟨c.o.1,λn=>?_⟩,T,B.o⟩⟩;rw[c.o.2 n];exact⟨λh=>h.1,λh=>⟨h,a5 _⟩⟩
  .intro n v p q4 L a7 jo a6 a4 ae SC;have D:It n≠none:=by rw[<- eP It n];exact λe=>by rw[show aA n=_ from rfl]at e;rw[a7]at e;cases e
   have a2:Chg T wr (p.alloc (.cells #[.int .i64 (who n),.int .i64 (nth n)] 134)):=((Chg.refl T wr).grown a4 (λk e=>by cases e;left;rw[ag])).below ((φ _ p).alloc (χ _) _);have S:i T a (p.alloc (.cells #[.int .i64 (who n),.int .i64 (nth n)] 134)):=E _ _ _ _ _ B.o a2 (λk b=>⟨τ b,by rw[ag]at b;subst b;simp;omega⟩);obtain⟨fn,af,a8,a9,o,U⟩:=hY T a n _ S (uw Z c.o.1 c.o.2 L D);try dsimp only at o
   gi_wp2;refine(cZ U).mono ?_;rintro e X (⟨rfl,a0,H⟩|⟨rfl,a1,_⟩)
   .have w:aB prog 134 X (.map io) W.heap.size N (im It) (λy=>left y/\y≠aA n) q4:=by have h5:=jo.chg (M:=λ_=>False) (Chg.of_below ((φ _ p).alloc (χ _) (.cells #[.int .i64 (who n),.int .i64 (nth n)] 134))) (λ_ _ h=>h) (λh=>h);exact h5.keep (λj m=>H.2 j (τ (υ (by cases m;rfl)))) (H.2 _ (υ (by rw[ag])))
    gi_wp2;go_roundw;case rel =>
     refine⟨_,q4,a++[n],w,a0, ?_,λk=>?_⟩
     .rw[List.nodup_append];exact⟨c.o.1,Ω,λx hx y o e=>by simp at o;subst o;subst e;exact((c.o.2 _).1 hx).2 L⟩
     .rw[θ,List.mem_singleton,c.o.2 k];constructor
      .rintro(⟨d,g⟩|rfl)
       .exact⟨d,λh=>g h.1⟩
       .exact⟨D,λh=>h.2 rfl⟩
      .rintro⟨d,g⟩;by_cases e:k=n
       .exact υ e
       .exact τ ⟨d,λh=>g ⟨h,λY=>e (dR Y)⟩⟩
    case measure=>rw[w.qY,t.o.qY];exact a6
   .gi_wp2;refine ϐ (results_none rfl _ _ _) rfl ?_;exact⟨⟨_,rfl⟩,υ ⟨a++[n],T,a1⟩⟩
def zB(L:Nat->Bool):Nat->Option Value:=λn=>if L n=true then some lI else none
theorem WH(L:Nat->Bool):lm L=im (zB L):=by
 refine EG (λn=>?_) (λkey c=>?_)
 .unfold zB;by_cases h:L n=true
  .rw[ώ h];unfold lm;rw[ώ ⟨n,h,rfl⟩]
  .rw[ύ h];unfold lm;rw[ύ];rintro⟨m,b,a⟩;exact h (dR a▸b)
 .unfold lm;rw[ύ];rintro⟨m,_,a⟩;exact c m a
theorem GH(L:Nat->Bool)(n:Nat):zB L n≠none↔L n=true:=by unfold zB;by_cases h:L n=true<;>simp[h]
end
section
open Go.Proofs.Tryz Go.RowKit Go.Maps Go.WideMaps Go.Shelf
variable{ns:List Nat}{left:Value->Prop}
theorem BM{a m d:Nat}(i:m<=501):d∈runD (mkD a 1,m)↔who d=a/\1<=nth d/\nth d<=m:=by
 have b:nth (mkD a 1)=1:=aZ V;have c:who (mkD a 1)=a:=bW V;unfold runD;rw[ι];dsimp only;constructor
 .rintro⟨k,e,rfl⟩;have h:=List.mem_range.1 e;rw[pz V,ni V,b,c];exact⟨rfl,V,V⟩
 .rintro⟨rfl,f,g⟩;refine⟨nth d-1,List.mem_range.2 V, ?_⟩;refine jl ?_ ?_
  .rw[pz V,c]
  .rw[ni V,b];omega
theorem EZ(r:Nat×Nat):(runD r).Nodup:=by unfold runD;rw[List.nodup_iff_pairwise_ne,List.pairwise_map];exact List.Pairwise.imp (λh=>V) (List.pairwise_lt_range (n:=r.2))
theorem lW(r:Nat×Nat):(runD r).length=r.2:=by simp[runD]
theorem uN(a b:List Nat):aF (a++b)=aF a++aF b:=by simp[aF]
theorem uO(a:List Nat):(aF a).length=a.length*2:=by
 induction a with
 | nil=>rfl
 | cons x r b=>simp[aF]at b⊢;omega
theorem uP(a:List Nat):∀u∈aF a,u.oneCell'=true:=by intro u b;unfold aF at b;obtain⟨x,_,c⟩:=List.mem_flatMap.1 b;simp at c;rcases c with rfl|rfl<;>rfl
theorem dW.eu{P:Program}{k:TypeId}{w:World}{b r N cnt:Nat}{m:Value->Option Value}{t:TypeId}{a:Array Value}{c:Nat×Nat}(h:dW P k w b r N m left cnt)(e:w.heap[r]?=some (.cells a t c)):False:=by obtain⟨D,j,⟨i,g,l,seen,f,_,_,_,_,d,_⟩,_⟩:=h;rw[d]at e;cases e
structure Got(c:Nat->Nat)(L:Nat->Bool)(left:Value->Prop)(ns:List Nat):Prop where
 nd:ns.Nodup
 mem:∀d,d∈ns↔(L d=true\/(1<=nth d/\nth d<=c (who d)/\¬left (.int .i64 (who d))))
theorem Got.len{c:Nat->Nat}{L:Nat->Bool}(h:Got c L left ns)(f:∀a,c a<=501)(e:∀a,c a≠0->a<=5)(i:∀d,L d=true->okD d):ns.length<=3072 :=
 gX 3072 ns h.nd (λd g=>by
  rcases(h.mem d).1 g with b|⟨b,j,_⟩
  .exact iV (i d b)
  .exact iV ⟨e _ V,b,by have:=f (who d);omega⟩)
theorem Got.step{c:Nat->Nat}{L:Nat->Bool}{a:Nat}(h:Got c L left ns)(j:left (.int .i64 a))(k:c a<=501)(l:∀e,L e=true->c (who e)<nth e):Got c L (λy=>left y/\¬y=.int .i64 a) (ns++runD (mkD a 1,c a)):=by
 refine⟨?_,λe=>?_⟩
 .rw[List.nodup_append];refine⟨h.nd,EZ _,λx n y o g=>?_⟩;subst g;obtain⟨b,d,f⟩:=(BM k).1 o;rcases(h.mem x).1 n with i|⟨_,_,i⟩
  .have:=l x i;rw[b]at this;omega
  .rw[b]at i;exact i j
 .rw[θ,h.mem,BM k];by_cases g:who e=a
  .rw[g];constructor
   .rintro((b|⟨b,d,f⟩)|⟨_,b,d⟩)
    .exact τ b
    .exact absurd j f
    .exact υ ⟨b,d,λh=>h.2 rfl⟩
   .rintro(b|⟨b,d,_⟩)
    .exact τ (τ b)
    .exact υ ⟨rfl,b,d⟩
  .have m:¬(Value.int IntKind.i64 (who e:Int)=.int .i64 a):=λh=>g (by simp at h;omega);constructor
   .rintro((b|⟨b,d,f⟩)|⟨b,_⟩)
    .exact τ b
    .exact υ ⟨b,d,λh=>f h.1⟩
    .exact absurd b g
   .rintro(b|⟨b,d,f⟩)
    .exact τ (τ b)
    .exact τ (υ ⟨b,d,λh=>f ⟨h,m⟩⟩)
def BN(ns:List Nat):Prop:=ns.Pairwise (· < ·)
theorem BN.nodup(h:BN ns):ns.Nodup:=h.imp (λh e=>V)
theorem GI(w:World)(co lo:Option Nat)(c:Nat->Nat)(L:Nat->Bool)(h:iI w (.map co) (.map lo) c L):Calls prog 209 #[.agg #[.map co,.map lo]] w λe w'=>∃v ns,e=.returned v/\aU w' v ns/\BN ns/\(∀d,d∈ns↔1<=nth d/\iP c L d)/\(∀m,v.ownBlock=some m->w.heap.size<=m)/\Below w.heap.size w w':=by
 obtain⟨⟨N,i⟩,⟨N',b⟩,C,h4,Z⟩:=h;obtain⟨i0,hi,ba,bb,bc⟩:=info_parts Tryz.infoDot;have HM:J<|∀wy,Below w.heap.size w wy->aW prog 3 wy (.map co) N (cm c):=λwy l=>i.below l;have qy:J<|∀a,c a<=501:=C;have H5:J<|∀a,c a≠0->a<=5:=h4;have Q:J<|∀d,L d=true->okD d/\c (who d)<nth d:=Z;have kb:=ah.new w #[.map co,.map lo] 100;have a1:Below w.heap.size w (w.alloc (.cells #[.map co,.map lo] 100)):=(φ _ w).alloc (χ _) _;have WI:J<|∀f,Below w.heap.size w f->Calls prog 249 #[.func (.func 282) #[] #[.pointer (some (z f.heap.size))]] (f.alloc (.cells #[.map lo] 98)) λe w'=>∃v ns,e=.returned v/\AllOf (zB L) ns/\w'.ownsRow (f.heap.size+1) 134 2 v ns.length (aF ns)/\Below (f.heap.size+1) (f.alloc (.cells #[.map lo] 98)) w':=λf l=>by
  have b0:Below f.heap.size f (f.alloc (.cells #[.map lo] 98)):=(φ _ f).alloc (χ _) _;have a9:aW prog 134 (f.alloc (.cells #[.map lo] 98)) (.map lo) N' (im (zB L)):=by rw[<- WH];exact(b.below l).below b0
  have gB:∀n,zB L n≠none->okD n:=λn hn=>(Z n ((GH L n).1 hn)).1;have:=qZ _ _ _ (AllOf (zB L)) _ (BL _ f.heap.size lo (zB L) N' (ah.new f _ _) a9 gB) (enters_of func282 (by kernel_rfl) rfl) (by
   rintro k (rfl|t)
   .simp
   .exact a9.lt k (by rw[t])) (λns r=>ς (gX 3072 ns r.1 (λn hn=>iV (gB n ((r.2 n).1 hn)))) Ψ)
  rw[ϊ]at this;exact this
 clear i b C h4 Z;go_enter func209,ntmps209;go_wp2_with fail;generalize aq:w.alloc (.cells #[.map co,.map lo] 100)=P at *;have Yk:J<|P.heap.size=w.heap.size+1:=by rw[<- aq];unfold J;simp
 clear aq;refine ψ (IX _ lo) ?_;rintro e w1⟨rfl,rfl⟩;go_wp2_with fail;refine ψ (WI.o _ a1) ?_;rintro e w2⟨v2,ns0,rfl,r,bm,ab⟩;have b5:=Yk.o;have R:Below P.heap.size P w2:=((φ _ P).alloc (χ _) _).trans (ab.mono V);have a3:Below w.heap.size w w2:=a1.trans (R.mono V);have k2:=kb.below R;have c0:=(k2.cell 0).trans rfl;have ak:w2.ownsRow w.heap.size 134 2 v2 ns0.length (aF ns0):=ownsRow_base bm V;have af:Got c L (λkey=>(cm c key).isSome=true) ns0:=⟨r.1,λd=>by
  rw[r.2,GH];constructor
  .exact τ
  .rintro(h|⟨i,b,C⟩)
   .exact h
   .exact absurd (by rw[lJ,ύ V];rfl) C⟩
 have p:J<|w2.ownsRow w.heap.size 134 2 v2 ns0.length (aF ns0)/\Below w.heap.size w w2/\Got c L (λkey=>(cm c key).isSome=true) ns0:=⟨ak,a3,af⟩;have a8:=HM.o _ a3;clear WI kb a1 r bm ab R a3 k2 ak af HM b5;go_wp2_with (first|(at_range;refine cO rfl (.tmp 11) 97 rfl 3 jd underlying97 rfl a8 ?_;intro w3 al ag b6;have a2:Below w2.heap.size w2 w3:=((φ _ w2).grown ag (χ _) (λk e=>by cases e));have U:J<|w3.ownsRow w.heap.size 134 2 v2 ns0.length (aF ns0)/\Below w.heap.size w w3:=⟨own_below p.o.1 a2,p.o.2.1.trans (a2.mono p.o.2.1.size)⟩;have b8:w.heap.size<=w2.heap.size:=p.o.2.1.size;clear ag b6 a8 a2;go_frame));go_loopg [3] N (λg v3 f=>∃(left:Value->Prop)(H:Nat)(ns:List Nat),g=H/\aB prog 3 f (.map co) w2.heap.size N (cm c) left H/\f.ownsRow w.heap.size 134 2 v3 ns.length (aF ns)/\Below w.heap.size w f/\Got c L left ns);case atStart=>exact⟨_,_,ns0,rfl,al,U.o.1,U.o.2,p.o.2.2⟩
 case round =>
  obtain⟨left,H,ns,hq,hR,bm,l,S⟩:=hrel;have bn:J<|aB prog 3 wr (.map co) w2.heap.size N (cm c) left H:=hR;have bl:J<|wr.ownsRow w.heap.size 134 2 u3 ns.length (aF ns)/\Below w.heap.size w wr/\Got c L left ns:=⟨bm,l,S⟩;have mZ:J<|∀key v,left key->cm c key=some v->∃x:Nat,key=(λx:Nat=>Value.int .i64 x) x/\v=(λx:Nat=>Value.int .i64 (c x)) x:=λkey v _ t=>by obtain⟨x,i,b,_⟩:=jI t;exact⟨x,i,b⟩
  have bg:ns.length<=3072:=S.len qy.o H5.o (λd hd=>(Q.o d hd).1);clear hR bm l S al p U;go_wp2_with (first|(at_next;refine dG rfl (.tmp 12) rfl jd (λx:Nat=>.int .i64 x) (λx:Nat=>.int .i64 (c x)) rfl bn.o mZ.o ?_ ?_))
  .intro b2;have a6:J<|_:=o7 wr w.heap.size u3 ns bl.o.1 V;have b7:∃W cap,u3=.slice W ns.length cap:=by
    rcases bl.o.1.2 with⟨i,b⟩|⟨g,cap,X,i,_⟩
    .exact⟨none,0,by rw[i,b]⟩
    .exact⟨_,cap,i⟩
   obtain⟨W,cap,F⟩:=b7;have a7:J<|u3=.slice W ns.length cap:=F;clear F;have ZV:J<|∀d,d∈ns↔1<=nth d/\iP c L d:=λd=>by
    rw[bl.o.2.2.mem];unfold iP;constructor
    .rintro(h|⟨i,b,_⟩)
     .exact⟨(Q.o d h).1.2.1,υ h⟩
     .exact⟨i,τ b⟩
    .rintro⟨i,h|h⟩
     .exact υ ⟨i,h,b2 _⟩
     .exact τ h
   clear bn mZ;go_wp2_with fail;refine ψ a6.o ?_;rintro e w5⟨rfl,G,hp,an,q,ap⟩;have HF:J<|aU w5 u3 G/\BN G/\(∀d,d∈G↔1<=nth d/\iP c L d)/\(∀m,u3.ownBlock=some m->w.heap.size<=m)/\Below w.heap.size w w5:=⟨an,(ap.and (hp.nodup_iff.2 bl.o.2.2.nd)).imp (λh=>Nat.lt_of_le_of_ne h.1 h.2),λd=>hp.mem_iff.trans (ZV.o d),λm l=>(bl.o.1.lt m l).1,bl.o.2.1.trans ⟨q.os,q.tape,q.output,q.size,λk t=>q.block k (ο t bl.o.2.1.size) (λe=>by have:=(bl.o.1.lt k e).1;omega)⟩⟩;clear hp an q ap a6 bl;have F:=a7.o;clear a7;subst F;go_wp2_with fail;go_ret;exact⟨_,G,rfl,HF.o⟩
  .intro a w4 K aj a4 jo bh E bk bf;have be:c a≠0:=by intro h0;rw[lJ,ώ h0]at a4;cases a4
   have b1:=qy.o a;have bj:w2.heap.size<w4.heap.size:=by have:=bn.o.lt;omega
   have ZW:Chg (λk=>k=w2.heap.size) wr w4:=(Chg.refl _ wr).grown E (λk e=>by cases e;exact τ rfl);have ac:Below w.heap.size w w4:=bl.o.2.1.grown E bl.o.2.1.size (λk e=>by cases e;exact b8);have aa:w4.ownsRow w.heap.size 134 2 u3 ns.length (aF ns):=bl.o.1.kept E (by
    by_cases e:u3.ownBlock=none
    .exact τ e
    .refine υ (λe2=>?_);refine ownsRow_ne bl.o.1 (λX fz h=>?_) e2;rcases bn.o with⟨_,⟨s,seen,cc,b⟩,_⟩|⟨m,_,b⟩
     .rw[b]at h;cases h
     .exact b.eu h)
   have ZX:J<|Got c L (λy=>left y/\¬y=.int .i64 a) (ns++runD (mkD a 1,c a)):=bl.o.2.2.step aj b1 (λd hd=>(Q.o d hd).2);have a5:J<|aB prog 3 w4 (.map co) w2.heap.size N (cm c) (λy=>left y/\¬y=.int .i64 a) K:=jo;have B:J<|w4.ownsRow w.heap.size 134 2 u3 ns.length (aF ns)/\Below w.heap.size w w4:=⟨aa,ac⟩;have Hd:J<|Calls prog 184 #[.agg #[.int .i64 a,.int .i64 1,.int .i64 (c a)]] w4 λe w'=>∃v,e=.returned v/\w'.ownsRow w4.heap.size 134 2 v (c a) (aF (runD (mkD a 1,c a)))/\Below w4.heap.size w4 w':=by have:=BK w4 (mkD a 1) (c a) (by rw[aZ V];omega);unfold PK at this;rw[bW V,aZ V]at this;exact this
   generalize bd:c a=o at *;clear bn bl mZ jo aa ac ZW E a4 aj;go_wp2_with fail;refine ψ Hd.o ?_;rintro e w5⟨v5,rfl,T,D⟩;obtain⟨Y,av,b9⟩:=own_some T V;subst b9;have WJ:w5.ownsRow w.heap.size 134 2 u3 ns.length (aF ns):=own_below B.o.1 D;have a0:Below w.heap.size w w5:=B.o.2.trans (D.mono B.o.2.size);have ae:=T.cells (g:=Y) rfl;have VH:J<|∀j u,(aF (runD (mkD a 1,o)))[j]?=some u->w5.cell? (((z Y):Addr).add j)=some u:=ae;have A:J<|w5.ownsRow w.heap.size 134 2 u3 ns.length (aF ns):=WJ;have ar:J<|Below w.heap.size w w5:=a0;have uj:J<|aB prog 3 w5 (.map co) w2.heap.size N (cm c) (λy=>left y/\¬y=.int .i64 a) K:=a5.o.chg (M:=λ_=>False) (Chg.of_below D) (λ_ _ h=>h) (λh=>h);have aw:ns.length+o<=maxLen:=by unfold maxLen;omega
   have ax:(ns.length+o)*16<=140737488355328:=V
   have b3:(aF (runD (mkD a 1,o))).length=o*2:=by rw[uO,lW]
   have ad:w.heap.size<=w5.heap.size:=a0.size;clear ae WJ a0 T D Hd B a5;go_wp2_with (first|(at_builtin;refine wpList_append_own_at _ rfl (.tmp 18) (.tmp 23) 137 rfl w.heap.size 134 i0 (.agg #[.int .i64 0,.int .i64 0]) 2 16 underlying137 hi ba bb bc rfl Ψ _ _ _ rfl A.o (z Y) o av (aF (runD (mkD a 1,o))) rfl b3 VH.o (uP _) aw ax ad ?_;intro v6 w6 b4 ai bi qg));have az:Below w.heap.size w w6:=ar.o.grown ai ad (λk e=>(A.o.lt k e).1);have zC:Chg (λk=>u3.ownBlock=some k) w5 w6:=(Chg.refl _ w5).grown ai (λk e=>τ e);go_roundg K;case measure=>omega
   case rel =>
    refine⟨_,K,ns++runD (mkD a 1,o),rfl,uj.o.chg zC (λm l e=>?_) (λe=>?_), ?_,az,ZX.o⟩
    .refine ownsRow_ne A.o (λX fz h=>?_) e;rcases uj.o.map with⟨N2,i|⟨b',i,b⟩⟩
     .rw[i.1]at l;cases l
     .rw[i]at l;cases l
      exact b.jH h
    .refine ownsRow_ne A.o (λX fz h=>?_) e;rcases uj.o with⟨_,⟨s,seen,cc,b⟩,_⟩|⟨m,_,b⟩
     .rw[b]at h;cases h
     .exact b.eu h
    .rw[uN,ρ,lW];exact b4
end
section
open Go.Proofs.Tryz Go.RowKit Go.Maps Go.WideMaps
variable{rs:List (Nat×Nat)}{ns:List Nat}{w:World}
theorem Tryz.infoRun:(prog.info? 250).map (λi=>(i.zero,i.size,i.bytes))=some (some (.agg #[.int .i64 0,.int .i64 0,.int .i64 0]),3,24):=by kernel_rfl
def dA(rs:List (Nat×Nat)):List Value:=rs.flatMap λr=>[.int .i64 (who r.1),.int .i64 (nth r.1),.int .i64 r.2]
theorem lX(rs:List (Nat×Nat))(r:Nat×Nat):dA (rs++[r])=dA rs++[.int .i64 (who r.1),.int .i64 (nth r.1),.int .i64 r.2]:=by simp[dA]
theorem uQ(rs:List (Nat×Nat)):(dA rs).length=rs.length*3:=by
 induction rs with
 | nil=>rfl
 | cons x r a=>simp[dA]at a⊢;omega
theorem oH:∀(rs:List (Nat×Nat))(i:Nat)(h:i<rs.length),(dA rs)[i*3]?=some (.int .i64 (who rs[i].1))/\(dA rs)[i*3+1]?=some (.int .i64 (nth rs[i].1))/\(dA rs)[i*3+2]?=some (.int .i64 (rs[i].2))
 | [],i,h=>absurd h Ω
 | r::rs,0,h=>⟨rfl,rfl,rfl⟩
 | r::rs,i+1,h=>by
  have:=oH rs i (by simpa using h);have e:dA (r::rs)=[.int .i64 (who r.1),.int .i64 (nth r.1),.int .i64 r.2]++dA rs:=rfl;refine⟨?_, ?_, ?_⟩
  .rw[e,ϋ Θ];simp only[δ,List.length_nil,List.getElem_cons_succ];rw[show(i+1)*3-(0+1+1+1)=i*3 by omega];exact this.1
  .rw[e,ϋ Θ];simp only[δ,List.length_nil,List.getElem_cons_succ];rw[show(i+1)*3+1-(0+1+1+1)=i*3+1 by omega];exact this.2.1
  .rw[e,ϋ Θ];simp only[δ,List.length_nil,List.getElem_cons_succ];rw[show(i+1)*3+2-(0+1+1+1)=i*3+2 by omega];exact this.2.2
structure Runs(ns:List Nat)(i:Nat)(rs:List (Nat×Nat)):Prop where
 flat:flatR rs=ns.take i
 ok:∀r∈rs,okD r.1/\1<=r.2/\nth r.1+r.2<=502
 len:rs.length<=i
 gap:∀j(h:j+1<rs.length),rs[j].1+rs[j].2≠rs[j+1].1
theorem Runs.more{i d m:Nat}(h:Runs ns i (rs++[(d,m)]))(o:i<ns.length)(e:d+m=ns[i])(q:okD ns[i])(t:who ns[i]=who d):Runs ns (i+1) (rs++[(d,m+1)]):=by
 have g:=h.ok (d,m) Ω;refine⟨?_,λr a=>?_, ?_,λj k=>?_⟩
 rotate_left 3
 .have p:j+1<(rs++[(d,m)]).length:=by simpa using k
  have c:=h.gap j p;have l:j<rs.length:=by simp at k;omega
  have b:(rs++[(d,m+1)])[j].1=(rs++[(d,m)])[j].1/\(rs++[(d,m+1)])[j].2=(rs++[(d,m)])[j].2:=by rw[List.getElem_append_left l,List.getElem_append_left l];exact⟨rfl,rfl⟩
  have n:(rs++[(d,m+1)])[j+1].1=(rs++[(d,m)])[j+1].1:=by
   by_cases f:j+1<rs.length
   .rw[List.getElem_append_left f,List.getElem_append_left f]
   .have:j+1=rs.length:=V
    simp[this]
  rw[b.1,b.2,n];exact c
 .have:=h.flat;rw[oG]at this⊢;rw[xX,<- List.append_assoc,this,e,ν o]
 .rcases θ.1 a with a|a
  .exact h.ok r (θ.2 (τ a))
  .simp at a;subst a;refine⟨g.1,Ω, ?_⟩;have s:nth ns[i]=nth d+m:=by rw[<- e];exact ni (by have:=g.2.2;simp only at this;omega)
   have c:=q.2.2;simp only;omega
 .have:=h.len;simp at this⊢;omega
theorem Runs.new{i:Nat}(h:Runs ns i rs)(n:i<ns.length)(f:okD ns[i])(l:∀g d m,rs=g++[(d,m)]->d+m≠ns[i]):Runs ns (i+1) (rs++[(ns[i],1)]):=by
 refine⟨?_,λr a=>?_, ?_,λj o=>?_⟩
 rotate_left 3
 .have c:j<rs.length:=by simp at o;omega
  rw[List.getElem_append_left c];by_cases b:j+1<rs.length
  .rw[List.getElem_append_left b];exact h.gap j b
  .have e:j+1=rs.length:=V
   have k:(rs++[(ns[i],1)])[j+1].1=ns[i]:=by simp[e]
   rw[k];refine l (rs.take j) rs[j].1 rs[j].2 ?_;have:=ν c;rw[e,List.take_length]at this;exact this
 .rw[oG,h.flat,ν n];simp[runD]
 .rcases θ.1 a with a|a
  .exact h.ok r a
  .simp at a;subst a;exact⟨f,Ω,by have:=f.2.2;simp only;omega⟩
 .have:=h.len;simp;omega
theorem starts(v:(flatR rs).Pairwise (· < ·))(f:∀r∈rs,1<=r.2)(A:∀j(h:j+1<rs.length),rs[j].1+rs[j].2≠rs[j+1].1):(rs.map Prod.fst).Nodup/\∀r∈rs,1<=r.1->r.1-1 ∉ flatR rs:=by
 obtain⟨_,s⟩:=List.pairwise_flatMap.1 v;have e:∀r:Nat×Nat,∀k,k<r.2->r.1+k∈runD r:=λr k g=>ι.2 ⟨k,List.mem_range.2 g,rfl⟩;have l:∀i j(d:i<rs.length)(c:j<rs.length),i<j->∀x∈runD rs[i],∀y∈runD rs[j],x<y:=λi j d c B=>List.pairwise_iff_getElem.1 s i j d c B;refine⟨?_,λr t F w=>?_⟩
 .refine List.pairwise_map.2 (s.imp_of_mem λ{a b}ha hb h n=>?_);have:=h _ (e a 0 (f a ha)) _ (e b 0 (f b hb));omega
 .obtain⟨j,c,rfl⟩:=List.getElem_of_mem t;obtain⟨N,D,E⟩:=List.mem_flatMap.1 w;obtain⟨i,d,rfl⟩:=List.getElem_of_mem D;obtain⟨k,g,L⟩:=ι.1 E;have C:=List.mem_range.1 g;have u:=e rs[i] k C;have o:=e rs[j] 0 (f _ t);rcases Nat.lt_trichotomy i j with h|h|h
  .obtain⟨p,rfl⟩:∃p,j=p+1:=⟨j-1,V⟩;have m:p<rs.length:=V
   have M:=f _ (κ m);have q:=e rs[p] (rs[p].2-1) V;have G:=l p (p+1) m c V _ q _ o;have H:=A p c;by_cases n:i=p
   .subst n;omega
   .have K:=l i p d m V _ u _ q;omega
  .subst h;omega
  .have:=l j i c d h _ o _ u;omega
theorem GL(g k:Nat):((z g):Addr).add k=(O g k):=by unfold Addr.add;by_cases h:k=0<;>simp[h]
theorem PL{base:Nat}{e:TypeId}{size:Nat}{g n b:Nat}{xs:List Value}(h:w.ownsRow base e size (.slice (some (z g)) n b) n xs)(k:Nat)(r:k<xs.length)(u:Value):(w.setCell (O g k) u).ownsRow base e size (.slice (some (z g)) n b) n (xs.set k u):=by
 obtain⟨o,h⟩:=h;refine⟨by rw[List.length_set];exact o,υ ?_⟩;rcases h with⟨a,_⟩|⟨q,p,c,a,d,f,i,j,l,m⟩
 .cases a
 .simp only[Value.slice.injEq,Option.some.injEq,Addr.mk.injEq]at a;obtain⟨⟨rfl,_⟩,_,rfl⟩:=a;refine⟨g,b,c.setIfInBounds k u,rfl,d, ?_,i,j,by simpa using l, ?_⟩
  .simp[World.setCell,μ,f]
  .rw[Array.toList_setIfInBounds,List.take_set,m]
theorem LQ{base:Nat}{e:TypeId}{size:Nat}{g n b:Nat}{xs:List Value}(h:w.ownsRow base e size (.slice (some (z g)) n b) n xs)(k:Nat):w.frozen? (O g k)=false:=by
 rcases h.2 with⟨a,_⟩|⟨i,d,f,a,j,c,_⟩
 .cases a
 .simp only[Value.slice.injEq,Option.some.injEq,Addr.mk.injEq]at a;obtain⟨⟨rfl,_⟩,_,_⟩:=a;simp[World.frozen?,c]
theorem E5(rs:List (Nat×Nat))(d m:Nat):(dA (rs++[(d,m)])).set (rs.length*3+2) (.int .i64 ((m+1:Nat):Int))=dA (rs++[(d,m+1)]):=by rw[lX,lX,<- uQ,List.set_append_right _ _ V];simp
structure RN(w:World)(B:Nat)(v8 v3:Value)(ns:List Nat)(rs:List (Nat×Nat))(wx:World):Prop where
 row:wx.ownsRow B 250 3 v3 rs.length (dA rs)
 old:∀b,v8.ownBlock=some b->b<B
 le:w.heap.size<=B/\B<=wx.heap.size
 sl:aU wx v8 ns
 below:Below w.heap.size w wx
theorem RN.mono{B:Nat}{c b:Value}{wx wy:World}(h:RN w B c b ns rs wx)(a:Below wx.heap.size wx wy):RN w B c b ns rs wy:=⟨own_below h.row a,h.old,⟨h.le.1,ς h.le.2 a.size⟩,h.sl.below a,h.below.trans (a.mono h.below.size)⟩
theorem aU.blk{v:Value}(h:aU w v ns):∃a cap,v=.slice a ns.length cap/\ns.length<=cap:=by
 rcases h with⟨rfl,rfl⟩|⟨c,d,cap,rfl,b,_⟩
 .exact⟨none,0,rfl,χ _⟩
 .exact⟨_,cap,rfl,b⟩
theorem LU(w:World)(co lo:Option Nat)(c:Nat->Nat)(L:Nat->Bool)(h:iI w (.map co) (.map lo) c L):Calls prog 268 #[.agg #[.map co,.map lo]] w λe w'=>∃v ns rs,e=.returned v/\BN ns/\(∀d,d∈ns↔1<=nth d/\iP c L d)/\Runs ns ns.length rs/\w'.ownsRow w.heap.size 250 3 v rs.length (dA rs)/\Below w.heap.size w w':=by
 obtain⟨i0,hi,a9,aa,ab⟩:=info_parts Tryz.infoRun;have qy:J<|∀t,c t<=501:=h.nI;have H5:J<|∀t,c t≠0->t<=5:=h.c5;have HL:J<|∀d,L d=true->okD d/\c (who d)<nth d:=h.ug;have bQ:J<|∀n,Calls prog 209 #[.agg #[.map co,.map lo]] (w.alloc n) λe w'=>∃v ns,e=.returned v/\aU w' v ns/\BN ns/\(∀d,d∈ns↔1<=nth d/\iP c L d)/\Below w.heap.size w w':=λn=>by have bq:Below w.heap.size w (w.alloc n):=(φ _ w).alloc (χ _) _;refine ψ (GI _ co lo c L (h.below bq)) ?_;rintro e w'⟨v,ns,rfl,E,A,h3,_,b⟩;exact⟨v,ns,rfl,E,A,h3,bq.trans (b.mono bq.size)⟩
 clear h;go_enter func268,ntmps268;go_wp2_with fail;refine ψ (bQ.o _) ?_;rintro e f⟨v8,ns,rfl,a1,a8,a7,ag⟩;obtain⟨ao,K,rfl,bf⟩:=a1.blk;have Ym:J<|aU f (.slice ao ns.length K) ns/\Below w.heap.size w f:=⟨a1,ag⟩;have ZY:J<|∀br,(Value.slice ao ns.length K).ownBlock=some br->br<f.heap.size:=by
  rcases a1 with⟨h,_⟩|⟨br,a2,aq,h,_,h3,_⟩
  .intro br bq;rw[h]at bq;cases bq
  .intro b' bq;rw[h]at bq;cases bq;exact h3
 have HN:J<|BN ns/\(∀d,d∈ns↔1<=nth d/\iP c L d):=⟨a8,a7⟩;have ae:J<|∀d∈ns,okD d:=λd hd=>by
  obtain⟨E,A⟩:=(a7 d).1 hd;rcases A with A|A
  .exact⟨H5.o _ V,E,by have:=qy.o (who d);omega⟩
  .exact(HL.o d A).1
 have bm:ns.length<=3072:=gX 3072 ns a8.nodup (λd hd=>iV (ae.o d hd));clear a1 a8 a7 ag bQ qy H5 HL;go_wp2_with fail;go_loopg [3,10] ns.length (λg v3 ba wx=>∃(i:Nat)(rs:List (Nat×Nat)),i+g=ns.length/\ba=.int .i64 i/\Runs ns i rs/\RN w f.heap.size (.slice ao ns.length K) v3 ns rs wx);case atStart=>exact⟨0,[],V,rfl,⟨by simp[flatR],λW hr=>(by cases hr),Ω,λj C=>absurd C Ω⟩,World.ownsRow_nil _ _ _ _,ZY.o,⟨Ym.o.2.size,χ _⟩,Ym.o.1,Ym.o.2⟩
 case round =>
  obtain⟨i,rs,bl,rfl,hR,T⟩:=hrel;have HR:J<|Runs ns i rs:=hR;have q:J<|RN w f.heap.size (.slice ao ns.length K) u3 ns rs wr:=T;have bo:rs.length<=i:=hR.len;clear Ym;by_cases N:i<ns.length
  .obtain⟨br,a2,aq,hv,bg,bq,a6⟩:=T.sl.resolve_left (λh=>by rw[h.2]at N;simp at N);simp only[Value.slice.injEq]at hv;obtain⟨rfl,_,rfl⟩:=hv;have k0:=(a6 i N).1;have k1:=(a6 i N).2;have TG:=ae.o _ (κ N);have a3:rs.length+1<=maxLen:=by unfold maxLen;omega
   have a4:(rs.length+1)*24<=140737488355328:=V
   have a5:f.heap.size<=wr.heap.size:=T.le.2;have b8:∃S cap3,u3=.slice S rs.length cap3:=by
    rcases T.row.2 with⟨E,A⟩|⟨g,cp,bc,E,_⟩
    .exact⟨none,0,by rw[E,A]⟩
    .exact⟨_,cp,E⟩
   obtain⟨S,cap3,rfl⟩:=b8;have EM:J<|∀(wz:World)(x:Nat)j u,([.int .i64 (who x),.int .i64 (nth x),.int .i64 1]:List Value)[j]?=some u->(wz.alloc (.cells #[.int .i64 (who x),.int .i64 (nth x),.int .i64 1] 250)).cell? (((z wz.heap.size):Addr).add j)=some u:=λwz x j u C=>by
    match j,C with
    | 0,C=>cases C;simp[Addr.add]
    | 1,C=>cases C;simp[Addr.add]
    | 2,C=>cases C;simp[Addr.add]
   have ac:J<|(Value.slice S rs.length cap3).ownBlock≠some br:=λe=>by have E:=(q.o.row.lt br e).1;have A:=q.o.old br rfl;omega
   have HA:J<|∀x,x=ns[i]->(∀t d m,rs=t++[(d,m)]->d+m≠x)->∀H,Below wr.heap.size wr H->∀n Y w6,w6.ownsRow f.heap.size 250 3 Y (rs.length+1) (dA rs++[.int .i64 (who x),.int .i64 (nth x),.int .i64 1])->(H.alloc n).grownBy w6 (Value.slice S rs.length cap3).ownBlock->Runs ns (i+1) (rs++[(x,1)])/\RN w f.heap.size (.slice (some (O br a2)) ns.length K) Y ns (rs++[(x,1)]) w6:=λx D b0 H bq n Y w6 P B=>by
    subst D;have y:=q.o.mono bq;have av:Below w.heap.size w w6:=(y.below.alloc y.below.size n).grown B (by have:=y.below.size;simp;omega) (λs hk=>ς y.le.1 (y.row.lt s hk).1);refine⟨HR.o.new N TG b0,⟨by rw[lX,ρ];exact P,y.old,⟨y.le.1,ς y.le.2 (by have:=B.size;simp at this;omega)⟩, ?_,av⟩⟩;refine(y.sl.below ((φ _ H).alloc (χ _) n)).chg (M:=λs=>(Value.slice S rs.length cap3).ownBlock=some s) ((Chg.refl _ _).grown B (λs e=>τ e)) (λs hk e=>?_);cases hk
    exact ac.o e
   have HO:J<|∀H,Below wr.heap.size wr H->∀n,(H.alloc n).ownsRow f.heap.size 250 3 (.slice S rs.length cap3) rs.length (dA rs):=λH bq n=>(q.o.mono bq).row.alloc n;obtain⟨x,D⟩:∃x,ns[i]=x:=⟨_,rfl⟩;rw[D]at k0 k1 TG;have R:J<|x=ns[i]:=D.symm;clear T hR a6 D;have ax:rs=[]\/∃a W,rs=a++[W]:=by
    rcases List.eq_nil_or_concat rs with h|⟨l,W,h⟩
    .exact τ h
    .exact υ ⟨l,W,by rw[h,List.concat_eq_append]⟩
   rcases ax with rfl|⟨a,W,rfl⟩
   .simp only[List.length_nil]at *;have G:=ah.new wr #[.int .i64 (who x),.int .i64 (nth x)] 134;have bs:Below wr.heap.size wr (wr.alloc (.cells #[.int .i64 (who x),.int .i64 (nth x)] 134)):=(φ _ wr).alloc (χ _) _;go_wp2_with fail;generalize wr.alloc (.cells #[.int .i64 (who x),.int .i64 (nth x)] 134)=o at *;have d0:=(G.cell 0).trans rfl;have d1:=(G.cell 1).trans rfl;have Yd:J<|Below wr.heap.size wr o.drew:=bs.drew;have ap:J<|Below wr.heap.size wr o:=bs;have bp:f.heap.size<=o.heap.size:=ς a5 bs.size;have bd:o.drew.cell? (z wr.heap.size)=some (.int .i64 (who x)):=d0;have be:o.drew.cell? (O wr.heap.size 1)=some (.int .i64 (nth x)):=d1;clear G bs k0 k1;have az:decide ((-1:Int) ≥ 0)=false:=Ψ
    go_quiet (fail)
    go_wp2_with (first|(at_builtin;refine wpList_append_own_at _ rfl (.tmp 41) (.tmp 44) 285 rfl f.heap.size 250 i0 (.agg #[.int .i64 0,.int .i64 0,.int .i64 0]) 3 24 underlying285 hi a9 aa ab rfl Ψ _ _ _ rfl (HO.o _ Yd.o _) (z o.heap.size) 1 1 [.int .i64 (who x),.int .i64 (nth x),.int .i64 1] rfl rfl (EM.o _ x) (by simp[Value.oneCell']) a3 a4 Θ ?_;intro Y w6 P B aj qg));have F:=HA.o x R.o (λt d m e=>by simp at e) (o.drewN nq) (below_drewN ap.o nq) _ _ _ P B;go_roundg (ns.length-(i+1));case measure=>omega
    case rel=>exact⟨i+1,_,V,Λ,F.1,F.2⟩
   .obtain⟨d,m⟩:=W;have b7:=HR.o.ok (d,m) Ω;obtain⟨Z4,b2,b3⟩:=b7;simp only at b2 b3 Z4;obtain⟨g3,bb,an⟩:=own_some q.o.row Ω;simp only[Value.slice.injEq]at an;obtain⟨rfl,_,rfl⟩:=an;have a0:=q.o.row.cells (g:=g3) rfl;have Z:=oH (a++[(d,m)]) a.length Ω;simp only[List.getElem_append_right (χ _),Nat.sub_self,List.getElem_cons_zero]at Z;have q0:=a0 _ _ Z.1;have q1:=a0 _ _ Z.2.1;have q2:=a0 _ _ Z.2.2;rw[GL]at q0 q1 q2;have b1:J<|(dA (a++[(d,m)])).length=(a.length+1)*3:=ω<|by rw[uQ];simp
    have WL:(a++[(d,m)]).length=a.length+1:=Ω
    simp only[WL]at *;have G:=ah.new wr #[.int .i64 (who x),.int .i64 (nth x)] 134;have bs:Below wr.heap.size wr (wr.alloc (.cells #[.int .i64 (who x),.int .i64 (nth x)] 134)):=(φ _ wr).alloc (χ _) _;have U:g3<wr.heap.size:=(q.o.row.lt g3 rfl).2;have aw:br≠g3:=λe=>ac.o (by rw[e];rfl);clear a0 Z;go_wp2_with fail;have z0:(wr.alloc (.cells #[.int .i64 (who x),.int .i64 (nth x)] 134)).cell? (O g3 (a.length*3))=some (.int .i64 (who d)):=(bs.cell (p:=(O g3 (a.length*3))) U).trans q0;have z1:(wr.alloc (.cells #[.int .i64 (who x),.int .i64 (nth x)] 134)).cell? (O g3 (a.length*3+1))=some (.int .i64 (nth d)):=(bs.cell (p:=(O g3 (a.length*3+1))) U).trans q1;have z2:(wr.alloc (.cells #[.int .i64 (who x),.int .i64 (nth x)] 134)).cell? (O g3 (a.length*3+2))=some (.int .i64 m):=(bs.cell (p:=(O g3 (a.length*3+2))) U).trans q2;have z3:=(G.cell 0).trans rfl;have z4:=(G.cell 1).trans rfl;generalize wr.alloc (.cells #[.int .i64 (who x),.int .i64 (nth x)] 134)=o at *;have UL:J<|∀wx,wx.heap=o.heap->wx.os=o.os->wx.tape=o.tape->wx.output=o.output->Calls prog 243 #[.agg #[.int .i64 (who d),.int .i64 (nth d),.int .i64 m],.int .i64 m] wx λe w'=>e=.returned (aA (d+m))/\(w'.cell? (O g3 (a.length*3))=some (.int .i64 (who d))/\w'.cell? (O g3 (a.length*3+1))=some (.int .i64 (nth d))/\w'.cell? (O g3 (a.length*3+2))=some (.int .i64 m)/\w'.cell? (z wr.heap.size)=some (.int .i64 (who x))/\w'.cell? (O wr.heap.size 1)=some (.int .i64 (nth x)))/\Below wr.heap.size wr w'/\ah w' wr.heap.size #[.int .i64 (who x),.int .i64 (nth x)] 134:=λwx D ho ht hp=>by
     have ai:Below wr.heap.size wr wx:=bs.trans ⟨ho,ht,hp,by rw[D];exact χ _,λs _=>by rw[D]⟩;have kx:ah wx wr.heap.size #[.int .i64 (who x),.int .i64 (nth x)] 134:=by unfold ah;rw[D];exact G
     refine ψ (LP wx d m m V) ?_;rintro e w'⟨rfl,af⟩;have PO:Below wr.heap.size wr w':=ai.trans (af.mono ai.size);have LV:=kx.below af;exact⟨rfl,⟨(PO.cell (p:=(O g3 (a.length*3))) U).trans q0,(PO.cell (p:=(O g3 (a.length*3+1))) U).trans q1,(PO.cell (p:=(O g3 (a.length*3+2))) U).trans q2,(LV.cell 0).trans rfl,(LV.cell 1).trans rfl⟩,PO,LV⟩
    clear G bs q0 q1 q2 k0 k1;have az:decide ((a.length:Int) ≥ 0)=true:=Ω
    have bi:(0:Int)<=(a.length:Int):=V
    have bj:(a.length:Int)<(a.length:Int)+1:=V
    have bk:(a.length:Int)<((a.length+1:Nat):Int):=V
    by_cases UO:d+m=x
    .subst UO;go_region_held3 (λw'=>w'.cell? (O g3 (a.length*3))=some (.int .i64 (who d))/\w'.cell? (O g3 (a.length*3+1))=some (.int .i64 (nth d))/\w'.cell? (O g3 (a.length*3+2))=some (.int .i64 m)/\w'.cell? (z wr.heap.size)=some (.int .i64 (who (d+m)))/\w'.cell? (O wr.heap.size 1)=some (.int .i64 (nth (d+m)))) (first|assumption|exact⟨z0,z1,z2,z3,z4⟩|exact b.1) (first|(go_at_call 243;refine ψ (UL.o _ rfl rfl rfl rfl) ?_;rintro e k⟨rfl,b⟩;have e0:=b.1.1;have e1:=b.1.2.1;have e2:=b.1.2.2.1;have e3:=b.1.2.2.2.1;have e4:=b.1.2.2.2.2));have r:=q.o.mono b.2.1;have X:=r.row;rw[show(a++[(d,m)]).length=a.length+1 by simp]at X;have bh:=LQ X;have UQ:J<|RN w f.heap.size (.slice (some (O br a2)) ns.length K) (.slice (some (z g3)) (a.length+1) cap3) ns (a++[(d,m)]) k:=r;have WM:J<|k.ownsRow f.heap.size 250 3 (.slice (some (z g3)) (a.length+1) cap3) (a.length+1) (dA (a++[(d,m)])):=X;clear r X;go_wp2_with fail;have r:=UQ.o;have X:=WM.o;have al:=PL X (a.length*3+2) (by rw[b1.o];omega) (.int .i64 ((m+1:Nat):Int));rw[E5]at al;have Z5:aU (k.setCell (O g3 (a.length*3+2)) (.int .i64 ((m+1:Nat):Int))) (.slice (some (O br a2)) ns.length K) ns:=r.sl.chg (M:=λs=>s=g3) ((Chg.refl (λs=>s=g3) k).setCell (p:=(O g3 (a.length*3+2))) rfl _) (λs hk e=>by cases hk;exact aw e);have Z7:Below w.heap.size w (k.setCell (O g3 (a.length*3+2)) (.int .i64 ((m+1:Nat):Int))):=r.below.setCell (p:=(O g3 (a.length*3+2))) (ς r.le.1 (r.row.lt g3 rfl).1) _;have ar:=HR.o.more N (by rw[<- R.o]) (by rw[<- R.o];exact TG) (by rw[<- R.o];exact pz V);go_roundg (ns.length-(i+1));case measure=>omega
     case rel=>exact⟨i+1,a++[(d,m+1)],V,Λ,ar,⟨by simpa using al,r.old,⟨r.le.1,by have:=r.le.2;simpa using this⟩,by simpa using Z5,by simpa using Z7⟩⟩
    .have bn:¬(who (d+m)=who x/\nth (d+m)=nth x):=λh=>UO (jl h.1 h.2);have ad:J<|∀t d' m',a++[(d,m)]=t++[(d',m')]->d'+m'≠x:=λt d' m' e=>by have h9:=List.append_inj_right' e rfl;simp only[List.cons.injEq,Prod.mk.injEq,and_true]at h9;rw[<- h9.1,<- h9.2];exact UO
     generalize d+m=Q at *;have b4:(¬((who Q:Int)=(who x:Int)))\/((who Q:Int)=(who x:Int)/\¬((nth Q:Int)=(nth x:Int))):=V
     rcases b4 with hp|⟨hp,ak⟩
     .have b5:((who Q:Int)==(who x:Int))=false:=by simpa using hp
      have b6:decide ((who Q:Int)=(who x:Int))=false:=by simpa using hp
      go_region_held3 (λw'=>w'.cell? (O g3 (a.length*3))=some (.int .i64 (who d))/\w'.cell? (O g3 (a.length*3+1))=some (.int .i64 (nth d))/\w'.cell? (O g3 (a.length*3+2))=some (.int .i64 m)/\w'.cell? (z wr.heap.size)=some (.int .i64 (who x))/\w'.cell? (O wr.heap.size 1)=some (.int .i64 (nth x))) (first|assumption|exact⟨z0,z1,z2,z3,z4⟩|exact b.1) (first|(go_at_call 243;refine ψ (UL.o _ rfl rfl rfl rfl) ?_;rintro e k⟨rfl,b⟩;have e0:=b.1.1;have e1:=b.1.2.1;have e2:=b.1.2.2.1;have e3:=b.1.2.2.2.1;have e4:=b.1.2.2.2.2));have b9:f.heap.size<=k.heap.size:=ς a5 b.2.1.size;go_wp2_with (first|(at_builtin;refine wpList_append_own_at _ rfl (.tmp 41) (.tmp 44) 285 rfl f.heap.size 250 i0 (.agg #[.int .i64 0,.int .i64 0,.int .i64 0]) 3 24 underlying285 hi a9 aa ab rfl Ψ _ _ _ rfl (HO.o _ b.2.1 _) (z k.heap.size) 1 1 [.int .i64 (who x),.int .i64 (nth x),.int .i64 1] rfl rfl (EM.o _ x) (by simp[Value.oneCell']) a3 a4 Θ ?_;intro Y w6 P B aj qg));have F:=HA.o x R.o ad.o k b.2.1 _ _ _ P B;go_roundg (ns.length-(i+1));case measure=>omega
      case rel=>exact⟨i+1,_,V,Λ,F.1,F.2⟩
     .have b5:((nth Q:Int)==(nth x:Int))=false:=by simpa using ak
      have b6:decide ((nth Q:Int)=(nth x:Int))=false:=by simpa using ak
      go_region_held3 (λw'=>w'.cell? (O g3 (a.length*3))=some (.int .i64 (who d))/\w'.cell? (O g3 (a.length*3+1))=some (.int .i64 (nth d))/\w'.cell? (O g3 (a.length*3+2))=some (.int .i64 m)/\w'.cell? (z wr.heap.size)=some (.int .i64 (who x))/\w'.cell? (O wr.heap.size 1)=some (.int .i64 (nth x))) (first|assumption|exact⟨z0,z1,z2,z3,z4⟩|exact b.1) (first|(go_at_call 243;refine ψ (UL.o _ rfl rfl rfl rfl) ?_;rintro e k⟨rfl,b⟩;have e0:=b.1.1;have e1:=b.1.2.1;have e2:=b.1.2.2.1;have e3:=b.1.2.2.2.1;have e4:=b.1.2.2.2.2));have b9:f.heap.size<=k.heap.size:=ς a5 b.2.1.size;go_wp2_with (first|(at_builtin;refine wpList_append_own_at _ rfl (.tmp 41) (.tmp 44) 285 rfl f.heap.size 250 i0 (.agg #[.int .i64 0,.int .i64 0,.int .i64 0]) 3 24 underlying285 hi a9 aa ab rfl Ψ _ _ _ rfl (HO.o _ b.2.1 _) (z k.heap.size) 1 1 [.int .i64 (who x),.int .i64 (nth x),.int .i64 1] rfl rfl (EM.o _ x) (by simp[Value.oneCell']) a3 a4 Θ ?_;intro Y w6 P B aj qg));have F:=HA.o x R.o ad.o k b.2.1 _ _ _ P B;go_roundg (ns.length-(i+1));case measure=>omega
      case rel=>exact⟨i+1,_,V,Λ,F.1,F.2⟩
  .have e:i=ns.length:=V
   subst e;clear hR T;go_wp2_with fail;go_ret;exact⟨_,ns,rs,rfl,HN.o.1,HN.o.2,HR.o,ownsRow_base q.o.row q.o.le.1,q.o.below⟩
def uS(p:ByteArray)(a:UInt8)(v:ByteArray)(n:Int):Thk.Bs:=toL p++[a]++toL v++(if a.toNat=62 then Lib.itoa n else [])
theorem iK(a b:ByteArray):toL (a++b)=toL a++toL b:=by unfold toL;simp[ByteArray.data_append]
theorem LX(w:World)(g:Glob w)(p v:ByteArray)(a:UInt8)(n:Int)(o:a=43\/a=94\/a=61\/a=62)(d:-9223372036854775808<=n/\n<=9223372036854775807)(B:p.size<=1048576)(C:v.size<=1048576):Calls prog 225 #[.agg #[.string p,.int .u8 (a.toNat:Int),.string v,.int .i64 n]] w λe w'=>∃s,e=.returned (.string s)/\toL s=uS p a v n/\Below w.heap.size w w':=by
 have y:J<|Glob w:=g;have m:J<|∀f,Below w.heap.size w f->Calls prog 199 #[.int .i64 n,.int .i64 10] f λe w'=>e=.returned (.string ⟨(Lib.itoa n).toArray⟩)/\Below w.heap.size w w':=λf h=>by refine ψ (Tryz.strconv_FormatInt_10 n d.1 d.2 f (g.mono h).tab) ?_;rintro e w'⟨rfl,t,u,rfl⟩;exact⟨rfl,tZ (below_drewN h t) (by have:=h.size;simpa using this) u⟩
 clear g;have q:(Lib.itoa n).length<=1000:=ς (Lib.itoa_length_le n d.1 d.2) Ψ;rcases o with rfl|rfl|rfl|rfl
 .have b:Utf8.encode 43=⟨#[43]⟩:=by rfl
  have i:p.size+(Utf8.encode 43).size<=9223372036854775807:=by rw[b];show p.size+1<=_;omega
  have j:(p++Utf8.encode 43).size+v.size<=9223372036854775807:=by rw[ByteArray.size_append,b];show p.size+1+v.size<=_;omega
  have c:J<|toL (p++Utf8.encode 43++v)=toL p++[43]++toL v:=ω<|by rw[iK,iK,b];(first|done|rfl)
  clear b;go_enter func225,ntmps225;go_wp2_with fail;go_ret;refine⟨_,rfl, ?_,Γ⟩;rw[c.o];unfold uS;rw[ύ Ψ,List.append_nil]
 .have b:Utf8.encode 94=⟨#[94]⟩:=by rfl
  have i:p.size+(Utf8.encode 94).size<=9223372036854775807:=by rw[b];show p.size+1<=_;omega
  have j:(p++Utf8.encode 94).size+v.size<=9223372036854775807:=by rw[ByteArray.size_append,b];show p.size+1+v.size<=_;omega
  have c:J<|toL (p++Utf8.encode 94++v)=toL p++[94]++toL v:=ω<|by rw[iK,iK,b];(first|done|rfl)
  clear b;go_enter func225,ntmps225;go_wp2_with fail;go_ret;refine⟨_,rfl, ?_,Γ⟩;rw[c.o];unfold uS;rw[ύ Ψ,List.append_nil]
 .have b:Utf8.encode 61=⟨#[61]⟩:=by rfl
  have i:p.size+(Utf8.encode 61).size<=9223372036854775807:=by rw[b];show p.size+1<=_;omega
  have j:(p++Utf8.encode 61).size+v.size<=9223372036854775807:=by rw[ByteArray.size_append,b];show p.size+1+v.size<=_;omega
  have c:J<|toL (p++Utf8.encode 61++v)=toL p++[61]++toL v:=ω<|by rw[iK,iK,b];(first|done|rfl)
  clear b;go_enter func225,ntmps225;go_wp2_with fail;go_ret;refine⟨_,rfl, ?_,Γ⟩;rw[c.o];unfold uS;rw[ύ Ψ,List.append_nil]
 .have b:Utf8.encode 62=⟨#[62]⟩:=by rfl
  have i:p.size+(Utf8.encode 62).size<=9223372036854775807:=by rw[b];show p.size+1<=_;omega
  have j:(p++Utf8.encode 62).size+v.size<=9223372036854775807:=by rw[ByteArray.size_append,b];show p.size+1+v.size<=_;omega
  have c:J<|toL (p++Utf8.encode 62++v)=toL p++[62]++toL v:=ω<|by rw[iK,iK,b];(first|done|rfl)
  have r:(p++Utf8.encode 62++v).size+(Lib.itoa n).toArray.size<=9223372036854775807:=by rw[ByteArray.size_append,ByteArray.size_append,b];show p.size+1+v.size+_<=_;have:=q;simp at this⊢;omega
  have A:(p++Utf8.encode 62++v).size+(⟨(Lib.itoa n).toArray⟩:ByteArray).size<=9223372036854775807:=r;clear b;go_enter func225,ntmps225;go_wp2_with fail;refine ψ (m.o _ ((φ _ w).alloc (χ _) _)) ?_;rintro e x⟨rfl,k⟩;have l:J<|Below w.heap.size w x:=k;clear k;go_wp2_with fail;go_ret;refine⟨_,rfl, ?_,l.o⟩;rw[iK,c.o];unfold uS;rw[ώ (show UInt8.toNat 62=62 from rfl)];rfl
abbrev iC(w:World)(rb:Nat)(s:ByteArray):Prop:=ah w rb #[.string s,.bool false] 245
theorem iC.set0{rb:Nat}{s:ByteArray}(h:iC w rb s)(t:ByteArray):iC (w.setCell (z rb) (.string t)) rb t:=by unfold iC ah at h⊢;simp[World.setCell,μ,h]
theorem dM(w:World)(rb:Nat)(s:ByteArray)(n lo l:Nat)(r:Thk.Bs)(h:iC w rb s)(a:toL s=encN n++r)(U:n<16384)(P:lo<=n)(Q:n<=l)(T:l<=1000000000)(X:s.size<=1000000000):Calls prog 167 #[.pointer (some (z rb)),.int .i64 lo,.int .i64 l] w λA w'=>∃y,A=.returned (.int .i64 n)/\iC w' rb y/\toL y=r/\Chg (λk=>k=rb) w w':=by
 have M:=(h.cell 0).trans rfl;have N:=(h.cell 1).trans rfl;have f0:=h.frozen;have d:s.size=(encN n++r).length:=by rw[<- a];simp[toL]
 have o:J<|iC w rb s:=h;by_cases e:n<128
 .rw[lU e]at a d;simp at d;have c:0<s.size:=V
  have Y:(s[0]'c).toNat=n:=by have:s[0]'c=(toL s)[0]'(by rw[a];simp):=rfl;rw[this];simp only[a];simp;omega
  have B:=zy n V;rw[Nat.mod_eq_of_lt e]at B;have D:=zA n V;rw[ώ e]at D;have W:=or_zero n V;have j:J<|toL (s.extract 1 (r.length+1))=r:=ω<|by rw[cu,a,List.take_of_length_le Ω];rfl
  clear a h;go_enter func167,ntmps167;go_wp2_with fail;go_loopg [7,8] 1 (λg f i m=>g=1/\f=.int .i64 0/\i=.int .i64 0/\m=w);case atStart=>exact⟨rfl,rfl,rfl,rfl⟩
  case round =>obtain⟨v,rfl,rfl,rfl⟩:=hrel;go_wp2_with fail;go_ret;refine⟨_,rfl,o.o.set0 _,j.o,(Chg.refl (λk=>k=rb) wr).setCell (p:=(z rb)) rfl _⟩
 .rw[lV e]at a d;simp at d;have c:0<s.size:=V
  have t:1<s.size:=V
  obtain⟨b0,u⟩:∃b,n % 128+128=b:=⟨_,rfl⟩;obtain⟨b1,C⟩:∃b,n / 128=b:=⟨_,rfl⟩;obtain⟨q,x⟩:∃q,n % 128=q:=⟨_,rfl⟩;have Z:(s[0]'c).toNat=b0:=by have:s[0]'c=(toL s)[0]'(by rw[a];simp):=rfl;rw[this];simp only[a];simp;omega
  have a0:(s[1]'t).toNat=b1:=by have:s[1]'t=(toL s)[1]'(by rw[a];simp):=rfl;rw[this];simp only[a];simp;omega
  have R:bits .and .u8 (b0:Int) 127=(q:Int):=by have:=zy b0 V;rw[this,<- u,<- x];omega
  have F:bits .and .u8 (b0:Int) 128=128:=by have:=zA b0 V;rw[ύ V]at this;exact this
  have K:=or_zero q V;have S:bits .and .u8 (b1:Int) 127=(b1:Int):=by have:=zy b1 V;rw[Nat.mod_eq_of_lt V]at this;exact this
  have G:bits .and .u8 (b1:Int) 128=0:=by have:=zA b1 V;rw[ώ V]at this;exact this
  have L:bits .or .i64 (q:Int) ((b1:Int)*128)=(n:Int):=by have:=TA q b1 V V;rw[show((b1:Int)*128)=((b1*128:Nat):Int)by omega,this];omega
  have H:q<128:=V
  have E:b1<128:=V
  have j:J<|toL (s.extract 2 (r.length+1+1))=r:=ω<|by rw[cu,a,List.take_of_length_le Ω];rfl
  clear a h u C x;go_enter func167,ntmps167;go_wp2_with fail;go_loopg [7,8] 1 (λg f i m=>((g=1/\f=.int .i64 0/\i=.int .i64 0)\/(g=0/\f=.int .i64 q/\i=.int .i64 1))/\m=w);case atStart=>exact⟨τ ⟨rfl,rfl,rfl⟩,rfl⟩
  case round =>
   obtain⟨⟨v,rfl,rfl⟩|⟨v,rfl,rfl⟩,rfl⟩:=hrel
   .go_wp2_with fail;go_roundg 0;case measure=>omega
    case rel=>exact⟨υ ⟨rfl,rfl,rfl⟩,rfl⟩
   .go_wp2_with fail;go_ret;refine⟨_,rfl,o.o.set0 _,j.o,(Chg.refl (λk=>k=rb) wr).setCell (p:=(z rb)) rfl _⟩
