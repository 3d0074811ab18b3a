import Derived.Test.YtfmmllpjgkgeaaaGreatDoorPartS43
set_option linter.unusedVariables false
set_option linter.unusedSimpArgs false
set_option maxHeartbeats 16000000
set_option maxRecDepth 100000
namespace Go.Proofs.YtfmmllpjgkgeaaaGreatDoor
section
open Go.Proofs.Tryz Go.RowKit
variable{F G:Stl}
structure Ag(G:Stl):Prop where
 good:∀(r room:Nat)(w:World),1<=r->r<=6->room<=50->Calls prog 107 #[.int .i64 r,.int .i64 room] w λe w'=>∃c R,e=.returned (.pointer (some (z c)))/\G w' c R (st0 r room)/\(∀k,R k->w.heap.size<=k)/\Below w.heap.size w w'
theorem Tryz.infoPP:(prog.info? 116).map (λi=>(i.zero,i.size,i.bytes))=some (some (.pointer none),1,8):=by kernel_rfl
theorem Ov(hF:ProgL F)(N:Ag G)(C:ProgFL F)(D:RefFrame G)(c B:Nat)(w:World)(b:Nat)(q:StepD)(ho:q.ok)(ag:c<1099511627776)(hJ:gQ F G c B w b):Calls prog 67 #[.pointer (some (z b)),q.val] w λe w'=>e=.returned (.bool true)/\gQ F G (c+1) B w' b/\Below B w w':=by
 obtain⟨rv,l,hl,f⟩:=hJ;have M:J<|ProgFL F:=C;have HQ:J<|RefFrame G:=D;have a0:J<|∀(r a:Nat)(w:World),1<=r->r<=6->a<=50->_:=N.good;obtain⟨iR,aa,ab,ac,ad⟩:=info_parts Tryz.infoPP;obtain⟨k,p,n,m,s⟩:=q;unfold StepD.val;simp only at *;have v:Below w.heap.size w (w.alloc (.cells #[.int .i64 k,.int .i64 p,.int .i64 n,.int .i64 m,.string s] 65)):=(φ _ w).alloc (χ _) _;have H:ah (w.alloc (.cells #[.int .i64 k,.int .i64 p,.int .i64 n,.int .i64 m,.string s] 65)) w.heap.size #[.int .i64 k,.int .i64 p,.int .i64 n,.int .i64 m,.string s] 65:=ah.new w _ _;have HN:J<|∀y(ai:y<l.length)U,l[y].foot U->U<w.heap.size:=λy ai U hi=>sS C D (f.pair y ai) hi;have E:B<=w.heap.size:=ς f.bB (Nat.le_of_lt f.blk.lt);by_cases Q:n<1\/6<n\/m<0\/50<m
 .have A:J<|_:=hF.bad _ n m (f.glob.mono v) Q;have HJ:J<|∀w',Below w.heap.size w w'->gQ F G (c+1) B w' b/\Below B w w':=λw' hb=>⟨⟨rv,l,V,f.below C D hb⟩,hb.mono E⟩;have h:J<|_:=v;have o:J<|ah (w.alloc (.cells #[.int .i64 k,.int .i64 p,.int .i64 n,.int .i64 m,.string s] 65)) w.heap.size #[.int .i64 k,.int .i64 p,.int .i64 n,.int .i64 m,.string s] 65:=H;clear f ho v H HN hF N C D a0;go_enter func67,ntmps67;go_wp2_with fail;refine ψ A.o ?_;rintro e d⟨rfl,g⟩;have q2:d.cell? (O w.heap.size 2)=some (.int .i64 n):=((o.o.below g).cell 2).trans rfl;have q3:d.cell? (O w.heap.size 3)=some (.int .i64 m):=((o.o.below g).cell 3).trans rfl;have aj:J<|Below w.heap.size w d:=h.o.trans (g.mono h.o.size);clear g A h o;go_wp2_with fail;refine ψ (Ie n m d Q) ?_;rintro e i⟨rfl,rfl⟩;go_wp2_with (first|(go_at_call 108;refine(num_any _ _).mono ?_;rintro e X⟨rfl,rfl⟩));go_ret;exact⟨rfl,HJ.o _ aj.o⟩
 .obtain⟨r,rfl⟩:=Int.eq_ofNat_of_zero_le (V:0<=n);obtain⟨a,rfl⟩:=Int.eq_ofNat_of_zero_le (V:0<=m);have h1:1<=r:=V
  have h6:r<=6:=V
  have a1:a<=50:=V
  have A:J<|_:=hF.good _ r a (f.glob.mono v) h1 h6 a1;have h:J<|_:=v;have o:J<|ah (w.alloc (.cells #[.int .i64 k,.int .i64 p,.int .i64 r,.int .i64 a,.string s] 65)) w.heap.size #[.int .i64 k,.int .i64 p,.int .i64 r,.int .i64 a,.string s] 65:=H;have Z:J<|kT F G B w b rv l:=f;have m1:J<|l.length+1<=maxLen:=by unfold J maxLen;omega
  have m2:J<|(l.length+1)*8<=140737488355328:=ω V
  clear f ho v H Q hF N C D;go_enter func67,ntmps67;go_wp2_with fail;refine ψ A.o ?_;rintro e d⟨x,S,rfl,hf,hS,g⟩;have q2:d.cell? (O w.heap.size 2)=some (.int .i64 r):=((o.o.below g).cell 2).trans rfl;have q3:d.cell? (O w.heap.size 3)=some (.int .i64 a):=((o.o.below g).cell 3).trans rfl;have aj:J<|Below w.heap.size w d:=h.o.trans (g.mono h.o.size);have Y:J<|F d x S (st0 r a):=hf;have a7:J<|∀k,S k->w.heap.size<=k:=λk T=>ς h.o.size (hS k T);clear g A h o hf hS;go_wp2_with fail;refine ψ (a0.o r a d h1 h6 a1) ?_;rintro e i⟨cb,R,rfl,hr,a2,P⟩;have K:J<|Below w.heap.size w i:=aj.o.trans (P.mono aj.o.size);have a5:J<|F i x S (st0 r a):=M.o.below Y.o P;have a6:J<|_:=hr;have a8:J<|∀k,R k->w.heap.size<=k:=λk T=>ς aj.o.size (a2 k T);have j:J<|kT F G B i b rv l:=Z.o.below M.o HQ.o K.o;have af:b<i.heap.size:=j.o.blk.lt;have p0:i.cell? (z b)=some rv:=(j.o.blk.cell 0).trans rfl;have ae:B<=i.heap.size:=ς E K.o.size;have L:J<|∀q W,ah ((i.alloc q).alloc W) b #[rv,.bool true] 63:=λq W=>(j.o.blk.alloc q).alloc W;have a3:J<|rv.ownBlock≠some b:=λe=>Tagged.ne (j.o.Af b e) ⟨_,j.o.blk⟩ Ψ rfl;clear aj Y hr P a2 q2 q3 Z;go_wp2_with (first|(go_at_call 108;refine(num_any _ _).mono ?_;rintro e X⟨rfl,rfl⟩)|(at_builtin;refine wpList_append_own _ rfl (.tmp 41) (.tmp 46) 61 rfl B 116 iR (.pointer none) 1 8 underlying61 aa ab ac ad rfl Ψ rv l.length (OT l) rfl ((j.o.row.alloc _).alloc _) (z (X.heap.size+1)) 1 1 [.pointer (some (z X.heap.size))] rfl rfl ?_ ?_ m1.o m2.o ?_ ?_;(intro y u ai;match y,ai with|0,ai=>(cases ai;simp[Addr.add]));(intro u hu;simp at hu;subst hu;rfl);(simp;omega);intro v6 w6 a4 ak _;obtain⟨g6,c6,rfl⟩:=own_some a4 (Nat.succ_pos _);have k1:w6.cell? (z b)=some rv:=ak.cell (((L.o _ _).cell 0).trans rfl) (Ne.symm a3.o);have kf:w6.frozen? (z b)=false:=ah.frozen (cs:=#[rv,.bool true]) (t:=63) ((ak.block _ (L.o _ _).lt (Ne.symm a3.o)).trans (L.o _ _)) 0));go_ret;obtain⟨hL,a9⟩:=j.o.more M.o HQ.o HN.o E a5.o a6.o a7.o a8.o a4 ak;exact⟨rfl,⟨_,_,Θ,hL⟩,(K.o.mono E).trans a9⟩
end
section
open Go.Proofs.Tryz Go.RowKit
variable{F G:Stl}
theorem tells_wait(hF:ProgL F)(E:RefOK G)(q:ProgFL F)(r:RefFrame G)(w:World)(Q:Glob w)(b x:Nat)(S:Nat->Prop)(c:Nat)(R:Nat->Prop)(s:Sl)(p:PairAt F G w b x S c R s)(P:(∀k,S k->4<=k)/\(∀k,R k->4<=k))(o:StepD)(ho:o.ok)(hk:o.kind=9):Calls prog 69 #[.pointer (some (z b)),o.val] w λf w'=>f=.returned (.bool true)/\Told F G S R w b x c s w':=by
 have C:J<|ProgFL F:=q;have D:J<|RefFrame G:=r;have Y:J<|RefOK G:=E;unfold StepD.val;obtain⟨a,v⟩:∃a,a=w.alloc (stepO o):=⟨_,rfl⟩;have j:J<|∀H,Mid F G S R a w.heap.size o b x c s s (a.drewN H):=λH=>by rw[v];exact(Mid.start q r Q p P o).drewN q r H
 have M:J<|∀d,Mid F G S R a w.heap.size o b x c s s d->Calls prog 37 #[.pointer (some (z x)),.int .i64 o.n] d λf w'=>f=.returned (.tuple #[.int .i64 (waitR s o.n).1,.int .i64 (waitR s o.n).2])/\Mid F G S R a w.heap.size o b x c s s w':=λd e=>by refine ψ (e.m.pWait hF q r o.n) ?_;rintro f w'⟨rfl,hm⟩;exact⟨rfl,hm,e.bk,e.bS,e.bR⟩
 have L:J<|∀d,Mid F G S R a w.heap.size o b x c s s d->Calls prog 109 #[.pointer (some (z c)),.int .i64 o.n] d _:=λd e=>e.rUp E o.n;have T:J<|∀d,Mid F G S R a w.heap.size o b x c s s d->Told F G S R w b x c s d:=λd e=>by rw[v]at e;exact e.fin
 have Z:J<|w.alloc (stepO o)=a:=v.symm;have y0:a.cell? (z w.heap.size)=some (.int .i64 o.kind):=(j.o 0).b0;have y1:a.cell? (O b 1)=some (.pointer (some (z c))):=(j.o 0).p1;have y2:a.cell? (O w.heap.size 2)=some (.int .i64 o.n):=(j.o 0).b2;obtain⟨k,t,n,y,A⟩:=o;simp only at *;subst hk;clear hF E q r Q p ho v P;go_enter func69,ntmps69;go_wp2_with fail;rw[Z.o]
 go_quiet (first|(go_at_call 109;exact ψ (L.o _ (j.o _)) (λ_ _ p=>⟨p.1,_,p.2⟩)))
 go_wp2_with fail;have u:=j.o nq;clear j L y0 y1 y2;generalize a.drewN nq=w2 at *;have q0:=u.p0;have W:=u.b2;simp only at W;go_region_held3 (λw'=>Mid F G S R a w.heap.size ⟨9,t,n,y,A⟩ b x c s s w'/\w'.cell? (z b)=some (.pointer (some (z x)))/\w'.cell? (O w.heap.size 2)=some (.int .i64 n)) ((refine⟨?_, ?_, ?_⟩<;>(first|assumption|(exact Mid.drew C.o D.o Φ)|(exact Mid.p0 Φ)|(exact Mid.b2 Φ)))) (first|(go_at_call 37;refine ψ (M.o _ ?_) ?_;(exact u.drew C.o D.o);rintro f K⟨rfl,g⟩));clear u q0 W M;by_cases h:0<=n/\n<s.kn.length
 .obtain⟨i,rfl⟩:=Int.eq_ofNat_of_zero_le h.1;have hi:i<s.kn.length:=V
  have l:upR s.kn (i:Int)=0:=ώ h;have m:waitR s (i:Int)=(((s.rs i).kept.length:Int),0):=by unfold waitR;rw[ώ h];(first|done|rfl)
  rw[l,m];obtain⟨R1,N,h2⟩:=g.m.g;obtain⟨h6,rb,a0,f1,a1,U⟩:=Y.o.cells _ _ _ _ N;obtain⟨ao,kc,k0,a4⟩:=(U i hi).2;have r1:=g.p1;have r2:=g.b2;simp only at r2;have B:J<|Mid F G S R a w.heap.size ⟨9,t,(i:Int),y,A⟩ b x c s s K:=g;clear N h2 g l m h U;generalize (s.rs i).kept.length=a5 at *;have a2:(0:Int)<=(i:Int):=V
  have a3:(i:Int)<(s.kn.length:Int):=V
  go_wp2_with fail
  go_quiet (fail)
  have X:J<|Mid F G S R a w.heap.size ⟨9,t,(i:Int),y,A⟩ b x c s s (K.drewN nq):=B.o.drewN C.o D.o _;go_wp2_with (first|(go_at_call 108;refine(num_any _ _).mono ?_;rintro f w5⟨rfl,rfl⟩));go_ret;exact⟨rfl,T.o _ X.o⟩
 .have l:upR s.kn n=2:=ύ h;have m:waitR s n=(0,2):=ύ h;rw[l,m];have B:J<|Mid F G S R a w.heap.size ⟨9,t,n,y,A⟩ b x c s s K:=g;clear g l m h;go_wp2_with (first|(go_at_call 108;refine(num_any _ _).mono ?_;rintro f w5⟨rfl,rfl⟩));all_goals(go_ret;exact⟨rfl,T.o _ B.o⟩)
end
section
open Go.Proofs.Tryz Go.RowKit
variable{F G:Stl}
theorem spoil_any(hF:ProgL F)(M:RefOK G)(h:ProgFL F)(i:RefFrame G)(w:World)(L:Glob w)(a0 x:Nat)(S:Nat->Prop)(c:Nat)(R:Nat->Prop)(s:Sl)(y:PairAt F G w a0 x S c R s)(H:(∀k,S k->4<=k)/\(∀k,R k->4<=k))(o:StepD):Calls prog 72 #[.pointer (some (z a0)),o.val] w λe w'=>e=.returned (.bool true)/\Told F G S R w a0 x c s w':=by
 have p:J<|ProgFL F:=h;have a2:J<|RefFrame G:=i;unfold StepD.val;obtain⟨f,u⟩:∃f,f=w.alloc (stepO o):=⟨_,rfl⟩;have C:J<|Mid F G S R f w.heap.size o a0 x c s s f:=by rw[u];exact Mid.start h i L y H o
 have X:(frameR s.1 o.n).1.size<=1000000000:=by
  unfold frameR;cases hf:frNo s.1 o.n with
  | none=>decide
  | some g=>exact(hF.fsz _ _ _ _ _ _ y.f hf).1
 have v:J<|∀b,Mid F G S R f w.heap.size o a0 x c s s b->Calls prog 28 #[.pointer (some (z x)),.int .i64 o.n] b λe w'=>e=.returned (.tuple #[.string (frameR s.1 o.n).1,.int .i64 (frameR s.1 o.n).2])/\Mid F G S R f w.heap.size o a0 x c s s w':=λb d=>d.pFrame hF h i o.n;have E:J<|∀b,Mid F G S R f w.heap.size o a0 x c s s b->Calls prog 30 #[.pointer (some (z x)),.int .i64 o.n,.int .i64 o.m] b λe w'=>e=.returned (.int .i64 (spoilR s.1 o.n o.m))/\Mid F G S R f w.heap.size o a0 x c s s w':=λb d=>by refine ψ (d.m.pSpoil hF h i o.n o.m) ?_;rintro e w'⟨rfl,A⟩;exact⟨rfl,A,d.bk,d.bS,d.bR⟩
 have D:J<|∀b,Mid F G S R f w.heap.size o a0 x c s s b->Calls prog 115 #[.pointer (some (z c)),.int .i64 o.n,.int .i64 o.m,.int .i64 ((frameR s.1 o.n).1.size)] b λe w'=>e=.returned (.int .i64 (spoilR s.1 o.n o.m))/\Mid F G S R f w.heap.size o a0 x c s s w':=λb d=>by refine ψ (d.m.rSpoil M h i o.n o.m X) ?_;rintro e w'⟨rfl,A⟩;exact⟨rfl,A,d.bk,d.bS,d.bR⟩
 have W:J<|∀b,Mid F G S R f w.heap.size o a0 x c s s b->Told F G S R w a0 x c s b:=λb d=>by rw[u]at d;exact d.fin
 have U:J<|w.alloc (stepO o)=f:=u.symm;obtain⟨k,a,n,B,t⟩:=o;simp only at *;clear hF M h i L y u H;generalize spoilR s.1 n B=r at *;generalize (frameR s.1 n).2=q at *;generalize (frameR s.1 n).1=bt at *;go_enter func72,ntmps72;go_wp2_with fail;rw[U.o];have a3:=C.o;clear C;have m:=a3.p0;have a1:=a3.b2;simp only at a1;go_region_held3 (λw'=>w'.cell? (z a0)=some (.pointer (some (z x)))/\w'.cell? (O w.heap.size 2)=some (.int .i64 n)) ((refine⟨?_, ?_⟩<;>(first|assumption|(exact Mid.p0 Φ)|(exact Mid.b2 Φ)))) (first|(go_at_call 28;refine ψ (v.o _ ?_) ?_;(exact a3.drew p.o a2.o);rintro e w3⟨rfl,j⟩));clear a3 m a1;go_wp2_with fail;have m:=j.p0;have a1:=j.b2;have N:=j.b3;simp only at a1 N;go_region_held3 (λw'=>w'.cell? (z a0)=some (.pointer (some (z x)))/\w'.cell? (O w.heap.size 2)=some (.int .i64 n)/\w'.cell? (O w.heap.size 3)=some (.int .i64 B)) ((refine⟨?_, ?_, ?_⟩<;>(first|assumption|(exact Mid.p0 Φ)|(exact Mid.b2 Φ)|(exact Mid.b3 Φ)))) (first|(go_at_call 30;refine ψ (E.o _ ?_) ?_;(exact j.drew p.o a2.o);rintro e w4⟨rfl,l⟩));clear j m a1 N E;go_wp2_with fail;have Y:=l.p1;have P:=l.b2;have Q:=l.b3;simp only at P Q;go_region_held3 (λw'=>w'.cell? (O a0 1)=some (.pointer (some (z c)))/\w'.cell? (O w.heap.size 2)=some (.int .i64 n)/\w'.cell? (O w.heap.size 3)=some (.int .i64 B)) ((refine⟨?_, ?_, ?_⟩<;>(first|assumption|(exact Mid.p1 Φ)|(exact Mid.b2 Φ)|(exact Mid.b3 Φ)))) (first|(go_at_call 115;refine ψ (D.o _ ?_) ?_;(exact l.drew p.o a2.o);rintro e w5⟨rfl,a4⟩));clear l Y P Q D;go_wp2_with fail;have m:=a4.p0;have a1:=a4.b2;simp only at a1;go_region_held3 (λw'=>w'.cell? (z a0)=some (.pointer (some (z x)))/\w'.cell? (O w.heap.size 2)=some (.int .i64 n)) ((refine⟨?_, ?_⟩<;>(first|assumption|(exact Mid.p0 Φ)|(exact Mid.b2 Φ)))) (first|(go_at_call 28;refine ψ (v.o _ ?_) ?_;(exact a4.drew p.o a2.o);rintro e Z⟨rfl,K⟩));have T:J<|Told F G S R w a0 x c s Z:=W.o _ K;clear a4 m a1 K v;go_wp2_with (first|(go_at_call 108;refine(num_any _ _).mono ?_;rintro e w7⟨rfl,rfl⟩));go_ret;exact⟨rfl,T.o⟩
end
section
open Go.Proofs.Tryz Go.RowKit
variable{F G:Stl}
theorem Ox(c:Int)(n:Nat)(k:-9223372036854775808<=c)(l:c<=9223372036854775807)(p:1<=n)(q:n<=9223372036854775807):∃j:Nat,j<n/\∀w:World,Calls prog 68 #[.int .i64 c,.int .i64 n] w λr g=>r=.returned (.int .i64 j)/\g=w:=by
 by_cases m:c<0
 .have h:IntKind.i64.wrap (c+1)=c+1:=wrap_in _ V V;have i:IntKind.i64.wrap (-(c+1)) = -(c+1):=wrap_in _ V V;obtain⟨d,o⟩:∃d:Nat,-(c+1)=(d:Int):=⟨(-(c+1)).toNat,V⟩;have f:((n:Int)==0)=false:=ό.2 V;have a:¬n=0:=V
  have b:(d:Int).tmod (n:Int)=((d % n:Nat):Int):=rfl;have e:IntKind.i64.wrap ((d % n:Nat):Int)=((d % n:Nat):Int):=wrap_in _ V (by have:=Nat.mod_lt d (V:n > 0);omega);refine⟨d % n,Nat.mod_lt _ V,λw=>?_⟩;go_enter func68,ntmps68;go_wp2;go_ret;exact⟨by first|rfl|(rw[Int.natCast_emod];rfl),rfl⟩
 .obtain⟨d,rfl⟩:∃d:Nat,c=(d:Int):=⟨c.toNat,V⟩;have f:((n:Int)==0)=false:=ό.2 V;have a:¬n=0:=V
  have b:(d:Int).tmod (n:Int)=((d % n:Nat):Int):=rfl;have e:IntKind.i64.wrap ((d % n:Nat):Int)=((d % n:Nat):Int):=wrap_in _ V (by have:=Nat.mod_lt d (V:n > 0);omega);refine⟨d % n,Nat.mod_lt _ V,λw=>?_⟩;go_enter func68,ntmps68;go_wp2;go_ret;exact⟨by first|rfl|(rw[Int.natCast_emod];rfl),rfl⟩
theorem Oy(hF:ProgL F)(C:RefOK G)(Z:Ag G)(h:ProgFL F)(i:RefFrame G)(c B:Nat)(w:World)(b:Nat)(o:StepD)(y:o.ok)(a4:o.kind<=10)(a7:c<1099511627776)(Y:gQ F G c B w b):Calls prog 39 #[.pointer (some (z b)),o.val] w λe w'=>e=.returned (.bool true)/\gQ F G (c+1) B w' b/\Below B w w':=by
 have A:B<=w.heap.size:=by obtain⟨rv,m,_,p⟩:=Y;exact ς p.bB (Nat.le_of_lt p.blk.lt)
 have W:∀d,Below w.heap.size w d->gQ F G c B d b:=λd n=>by obtain⟨rv,m,hl,p⟩:=Y;exact⟨rv,m,hl,p.below h i n⟩
 by_cases a0:o.kind=1
 .have HM:J<|∀d,Below w.heap.size w d->Calls prog 67 #[.pointer (some (z b)),.agg #[.int .i64 o.kind,.int .i64 o.a,.int .i64 o.n,.int .i64 o.m,.string o.s]] d λe w'=>e=.returned (.bool true)/\gQ F G (c+1) B w' b/\Below B w w':=λd n=>by refine ψ (Ov hF Z h i c B d b o y a7 (W d n)) ?_;rintro e w'⟨rfl,f,a⟩;exact⟨rfl,f,(n.mono A).trans a⟩
  unfold StepD.val;obtain⟨k,E,Q,P,R⟩:=o;simp only at *;subst a0;clear y Y W a4 hF C Z h i;go_enter func39,ntmps39;go_wp2_with fail;refine ψ (HM.o _ ((φ _ w).alloc (χ _) _)) ?_;rintro e w2⟨rfl,f,a⟩;have H:J<|gQ F G (c+1) B w2 b/\Below B w w2:=⟨f,a⟩;clear HM f a;go_wp2;go_ret;exact⟨rfl,H.o⟩
 .obtain⟨rv,m,hl,p⟩:=Y;by_cases aa:m.length=0
  .have ab:rv=.slice none 0 0\/∃K cap,rv=.slice (some (z K)) 0 cap:=by
    obtain⟨_,⟨f,_⟩|⟨K,cap,ac,f,_⟩⟩:=p.row
    .exact τ f
    .rw[aa]at f;exact υ ⟨K,cap,f⟩
   have HJ:J<|∀d,Below w.heap.size w d->gQ F G (c+1) B d b/\Below B w d:=λd n=>⟨⟨rv,m,V,p.below h i n⟩,n.mono A⟩;have a6:=p.blk.lt;have p0:∀r,(w.alloc r).cell? (z b)=some rv:=λr=>((p.blk.alloc r).cell 0).trans rfl;unfold StepD.val;obtain⟨k,E,Q,P,R⟩:=o;simp only at *;have kk:(k==1)=false:=ό.2 a0;have U:J<|∀r,Below w.heap.size w (w.alloc r):=λr=>(φ _ w).alloc (χ _) r;clear y W a4 p hF C Z h i;rcases ab with rfl|⟨K,cap,rfl⟩
   .go_enter func39,ntmps39;go_wp2;go_ret;exact⟨rfl,HJ.o _ (U.o _)⟩
   .go_enter func39,ntmps39;go_wp2;go_ret;exact⟨rfl,HJ.o _ (U.o _)⟩
  .obtain⟨K,cap,rfl⟩:=own_some p.row V;obtain⟨j,q,a5⟩:=Ox o.a m.length y.2.1.1 y.2.1.2 V V;have a1:J<|_:=a5;have L:(∀M,m[j].S M->4<=M)/\(∀M,m[j].R M->4<=M):=⟨λM hi=>ς p.b4 (p.foot j q M (τ hi)),λM hi=>ς p.b4 (p.foot j q M (υ hi))⟩;have v:J<|∀d,Below w.heap.size w d->(o.kind=3\/o.kind=4\/o.kind=9)->Calls prog 69 #[.pointer (some (z (m[j].pb))),.agg #[.int .i64 o.kind,.int .i64 o.a,.int .i64 o.n,.int .i64 o.m,.string o.s]] d λe w'=>e=.returned (.bool true)/\gQ F G (c+1) B w' b/\Below B w w':=λd n s=>by
    have g:=p.below h i n;rcases s with s|s|s
    .refine ψ (JY hF C h i d g.glob _ _ _ _ _ _ (g.pair j q) L o y s) ?_;rintro e w'⟨rfl,a⟩;obtain⟨t,u⟩:=g.told h i (V:m.length<=c+1) j q a;exact⟨rfl,t,(n.mono A).trans u⟩
    .refine ψ (DU hF C h i d g.glob _ _ _ _ _ _ (g.pair j q) L o y s) ?_;rintro e w'⟨rfl,a⟩;obtain⟨t,u⟩:=g.told h i (V:m.length<=c+1) j q a;exact⟨rfl,t,(n.mono A).trans u⟩
    .refine ψ (tells_wait hF C h i d g.glob _ _ _ _ _ _ (g.pair j q) L o y s) ?_;rintro e w'⟨rfl,a⟩;obtain⟨t,u⟩:=g.told h i (V:m.length<=c+1) j q a;exact⟨rfl,t,(n.mono A).trans u⟩
   have x:J<|∀d,Below w.heap.size w d->(o.kind=2\/o.kind=10\/o.kind<=0)->Calls prog 73 #[.pointer (some (z (m[j].pb))),.agg #[.int .i64 o.kind,.int .i64 o.a,.int .i64 o.n,.int .i64 o.m,.string o.s]] d λe w'=>e=.returned (.bool true)/\gQ F G (c+1) B w' b/\Below B w w':=λd n s=>by
    have g:=p.below h i n;rcases s with s|s|s
    .refine ψ (Ot hF C h i d g.glob _ _ _ _ _ _ (g.pair j q) L o y s) ?_;rintro e w'⟨rfl,s',a⟩;obtain⟨t,u⟩:=g.told h i (V:m.length<=c+1) j q a;exact⟨rfl,t,(n.mono A).trans u⟩
    .refine ψ (turns_tick hF C h i d g.glob _ _ _ _ _ _ (g.pair j q) L o y s) ?_;rintro e w'⟨rfl,s',a⟩;obtain⟨t,u⟩:=g.told h i (V:m.length<=c+1) j q a;exact⟨rfl,t,(n.mono A).trans u⟩
    .refine ψ (F8 d _ o s) ?_;rintro e w'⟨rfl,a⟩;have a3:=n.trans (a.mono n.size);exact⟨rfl,⟨_,_,V,p.below h i a3⟩,a3.mono A⟩
   have X:J<|∀d,Below w.heap.size w d->Calls prog 72 #[.pointer (some (z (m[j].pb))),.agg #[.int .i64 o.kind,.int .i64 o.a,.int .i64 o.n,.int .i64 o.m,.string o.s]] d λe w'=>e=.returned (.bool true)/\gQ F G (c+1) B w' b/\Below B w w':=λd n=>by have g:=p.below h i n;refine ψ (spoil_any hF C h i d g.glob _ _ _ _ _ _ (g.pair j q) L o) ?_;rintro e w'⟨rfl,a⟩;obtain⟨t,u⟩:=g.told h i (V:m.length<=c+1) j q a;exact⟨rfl,t,(n.mono A).trans u⟩
   have S:J<|∀d,Below w.heap.size w d->Calls prog 70 #[.pointer (some (z b)),.pointer (some (z (m[j].pb))),.int .i64 o.n] d λe w'=>e=.returned (.bool true)/\gQ F G (c+1) B w' b/\Below B w w':=λd n=>by have g:=p.below h i n;refine ψ (JZ hF C h i d g.glob _ _ _ _ _ _ (g.pair j q) L b ((g.blk.cell 1).trans rfl) (g.XU h i j q) g.blk.lt o.n) ?_;rintro e w'⟨rfl,a⟩;obtain⟨t,u⟩:=g.told h i (V:m.length<=c+1) j q a;exact⟨rfl,t,(n.mono A).trans u⟩
   have N:J<|∀d,Below w.heap.size w d->(o.kind=5\/o.kind=7)->Calls prog 71 #[.pointer (some (z b)),.pointer (some (z (m[j].pb))),.agg #[.int .i64 o.kind,.int .i64 o.a,.int .i64 o.n,.int .i64 o.m,.string o.s]] d λe w'=>e=.returned (.bool true)/\gQ F G (c+1) B w' b/\Below B w w':=λd n s=>by have g:=p.below h i n;refine ψ (F9 hF C h i d g.glob _ _ _ _ _ _ (g.pair j q) L b ((g.blk.cell 1).trans rfl) (g.XU h i j q) g.blk.lt o y s) ?_;rintro e w'⟨rfl,s',a⟩;obtain⟨t,u⟩:=g.told h i (V:m.length<=c+1) j q a;exact⟨rfl,t,(n.mono A).trans u⟩
   have a2:J<|∀r,(w.alloc r).cell? (z b)=some (.slice (some (z K)) m.length cap):=λr=>((p.blk.alloc r).cell 0).trans rfl;have Hg:J<|∀r,(w.alloc r).cell? (O K j)=some (.pointer (some (z (m[j].pb)))):=λr=>by have a:=(p.row.alloc r).cellAt j V;rw[a];simp[OT,q]
   have a6:=p.blk.lt;have ad:m.length<=1099511627776:=V
   have U:J<|∀r,Below w.heap.size w (w.alloc r).drew:=λr=>((φ _ w).alloc (χ _) r).drew;unfold StepD.val;obtain⟨k,E,Q,P,R⟩:=o;simp only at *;clear y W p L a5 hF C Z h i;have kk:(k==1)=false:=ό.2 a0;have p0:=a2.o (.cells #[.int .i64 k,.int .i64 E,.int .i64 Q,.int .i64 P,.string R] 65);have pg:=Hg.o (.cells #[.int .i64 k,.int .i64 E,.int .i64 Q,.int .i64 P,.string R] 65);have D:=U.o (.cells #[.int .i64 k,.int .i64 E,.int .i64 Q,.int .i64 P,.string R] 65);have T:ah (w.alloc (.cells #[.int .i64 k,.int .i64 E,.int .i64 Q,.int .i64 P,.string R] 65)) w.heap.size #[.int .i64 k,.int .i64 E,.int .i64 Q,.int .i64 P,.string R] 65:=ah.new w _ _;have s0:=(T.cell 0).trans rfl;have s1:=(T.cell 1).trans rfl;have s2:=(T.cell 2).trans rfl;have s3:=(T.cell 3).trans rfl;have s4:=(T.cell 4).trans rfl;clear T a2 Hg U;generalize m[j].pb=pb at *;go_enter func39,ntmps39;go_wp2_with fail;generalize w.alloc (.cells #[.int .i64 k,.int .i64 E,.int .i64 Q,.int .i64 P,.string R] 65)=w2 at *;have ae:J<|∀e:Nat,e<m.length->(e:Int)<(m.length:Int):=λe he=>V
   go_region_held3 (λw'=>w'=w2.drew/\w'.cell? (z b)=some (.slice (some (z K)) m.length cap)/\w'.cell? (O K j)=some (.pointer (some (z pb)))/\w'.cell? (O w.heap.size 1)=some (.int .i64 E)) ((refine⟨?_, ?_, ?_, ?_⟩<;>(first|rfl|assumption))) (first|(go_at_call 68;refine ψ (a1.o _) ?_;rintro e l⟨rfl,rfl⟩));clear a1;have a8:k=3\/k=4\/k=2\/k=5\/k=6\/k=7\/k=8\/k=9\/k=10\/k<=0:=V
   rcases a8 with rfl|rfl|rfl|rfl|rfl|rfl|rfl|rfl|rfl|a9
   .go_wp2_with fail;refine ψ (v.o _ D Ω) ?_;rintro e l⟨rfl,f,a⟩;have H:J<|gQ F G (c+1) B l b/\Below B w l:=⟨f,a⟩;clear v x f a;go_wp2_with fail;go_ret;exact⟨rfl,H.o⟩
   .go_wp2_with fail;refine ψ (v.o _ D Ω) ?_;rintro e l⟨rfl,f,a⟩;have H:J<|gQ F G (c+1) B l b/\Below B w l:=⟨f,a⟩;clear v x f a;go_wp2_with fail;go_ret;exact⟨rfl,H.o⟩
   .go_wp2_with fail;refine ψ (x.o _ D Ω) ?_;rintro e l⟨rfl,f,a⟩;have H:J<|gQ F G (c+1) B l b/\Below B w l:=⟨f,a⟩;clear v x f a;go_wp2_with fail;go_ret;exact⟨rfl,H.o⟩
   .go_wp2_with fail;refine ψ (N.o _ D Ω) ?_;rintro e l⟨rfl,f,a⟩;have H:J<|gQ F G (c+1) B l b/\Below B w l:=⟨f,a⟩;clear v x S N f a;go_wp2_with fail;go_ret;exact⟨rfl,H.o⟩
   .go_wp2_with fail;refine ψ (S.o _ D) ?_;rintro e l⟨rfl,f,a⟩;have H:J<|gQ F G (c+1) B l b/\Below B w l:=⟨f,a⟩;clear v x S N f a;go_wp2_with fail;go_ret;exact⟨rfl,H.o⟩
   .go_wp2_with fail;refine ψ (N.o _ D Ω) ?_;rintro e l⟨rfl,f,a⟩;have H:J<|gQ F G (c+1) B l b/\Below B w l:=⟨f,a⟩;clear v x S N f a;go_wp2_with fail;go_ret;exact⟨rfl,H.o⟩
   .go_wp2_with fail;refine ψ (X.o _ D) ?_;rintro e l⟨rfl,f,a⟩;have H:J<|gQ F G (c+1) B l b/\Below B w l:=⟨f,a⟩;clear v x S N X f a;go_wp2_with fail;go_ret;exact⟨rfl,H.o⟩
   .go_wp2_with fail;refine ψ (v.o _ D Ω) ?_;rintro e l⟨rfl,f,a⟩;have H:J<|gQ F G (c+1) B l b/\Below B w l:=⟨f,a⟩;clear v x S N X f a;go_wp2_with fail;go_ret;exact⟨rfl,H.o⟩
   .go_wp2_with fail;refine ψ (x.o _ D Ω) ?_;rintro e l⟨rfl,f,a⟩;have H:J<|gQ F G (c+1) B l b/\Below B w l:=⟨f,a⟩;clear v x S N X f a;go_wp2_with fail;go_ret;exact⟨rfl,H.o⟩
   .have k3:(k==3)=false:=ό.2 V;have k4:(k==4)=false:=ό.2 V;have k9:(k==9)=false:=ό.2 V;have k6:(k==6)=false:=ό.2 V;have k5:(k==5)=false:=ό.2 V;have k7:(k==7)=false:=ό.2 V;have k8:(k==8)=false:=ό.2 V;have n3:¬k=3:=V
    have n4:¬k=4:=V
    have n9:¬k=9:=V
    have n6:¬k=6:=V
    have n5:¬k=5:=V
    have n7:¬k=7:=V
    have n8:¬k=8:=V
    go_wp2_with fail;refine ψ (x.o _ D (υ (υ a9))) ?_;rintro e l⟨rfl,f,a⟩;have H:J<|gQ F G (c+1) B l b/\Below B w l:=⟨f,a⟩;clear v x f a;go_wp2_with fail;go_ret;exact⟨rfl,H.o⟩
theorem Uz(hF:ProgL F)(g:RefOK G)(i:Ag G)(e:ProgFL F)(f:RefFrame G):yF 10 (gQ F G):={
 heads:=λw a=>JX hF w a
 start:=λw a=>⟨.slice none 0 0,[],χ _,a.mono ((φ _ w).alloc (χ _) _),a.size,χ _,ah.new w _ _,World.ownsRow_nil _ _ _ _,λj h=>absurd h Ω,λj h=>absurd h Ω,λn j h=>absurd h Ω⟩
 step:=λc B w b o m l k d=>Oy hF g i e f c B w b o m l k d }
