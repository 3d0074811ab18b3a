import Derived.Test.YtfmmllpjgkgeaabGreatDoorZ06
import Derived.Test.YtfmmllpjgkgeaabGreatDoorZ47
set_option linter.all false
set_option maxHeartbeats 0
set_option maxRecDepth 100000
namespace Go.Proofs.YtfmmllpjgkgeaabGreatDoor
section
open Go.Proofs.Tryz Go.RowKit
variable{F G:vS}
def Vd(hF:kF F)(K:kQ G)(f:bT F)(a1:aQ G)(w:World)(H:Glob w)(pb x:Nat)(S:Nat->Prop)(c:Nat)(R:Nat->Prop)(s:Sl)(y:iw F G w pb x S c R s)(E:(∀k,S k->4<=k)/\(∀k,R k->4<=k))(o:dM):Calls prog 20 #[.pointer (some (z pb)),o.val] w λe w'=>e=.returned (.bool true)/\Told F G S R w pb x c s w':=by
 have m:=ω f;have p:=ω a1;unfold dM.val;obtain⟨a0,a2⟩:∃a0,a0=w.alloc (qQ o):=⟨_,rfl⟩;have L:J<|Mid F G S R a0 w.heap.size o pb x c s s a0:=by rw[a2];exact Mid.start f a1 H y E o
 have Y:(fH s.1 o.n).1.size<=1000000000:=by
  unfold fH;cases hf:iF s.1 o.n with
  | none=>decide
  | some g=>exact(hF.fsz _ _ _ _ _ _ y.f hf).1
 have u:J<|∀wx,Mid F G S R a0 w.heap.size o pb x c s s wx->Calls prog 45 #[.pointer (some (z x)),I o.n] wx λe w'=>e=.returned (.tuple #[.string (fH s.1 o.n).1,I (fH s.1 o.n).2])/\Mid F G S R a0 w.heap.size o pb x c s s w':=λwx b=>b.ps f a1 λv h=>hF.frame wx x v s o.n b.m.glob h;have C:J<|∀wx,Mid F G S R a0 w.heap.size o pb x c s s wx->Calls prog 49 #[.pointer (some (z x)),I o.n,I o.m] wx λe w'=>e=.returned (I (kW s o.n o.m))/\Mid F G S R a0 w.heap.size o pb x c s s w':=λwx b=>b.ps f a1 λv h=>hF.Cc wx x v s o.n o.m b.m.glob h;have B:J<|∀wx,Mid F G S R a0 w.heap.size o pb x c s s wx->Calls prog 50 #[.pointer (some (z c)),I o.n,I o.m,I ((fH s.1 o.n).1.size)] wx λe w'=>e=.returned (I (kW s o.n o.m))/\Mid F G S R a0 w.heap.size o pb x c s s w':=λwx b=>by obtain⟨T,h,h2⟩:=b.m.g;refine ψ (K.Cc wx c T s o.n o.m h Y) ?_;rintro e w'⟨rfl,W⟩;exact⟨rfl,b.below f a1 W⟩
 have X:J<|∀wx,Mid F G S R a0 w.heap.size o pb x c s s wx->Told F G S R w pb x c s wx:=λwx b=>by rw[a2]at b;exact b.fin
 have Q:=ω a2.symm;obtain⟨k,a,n,A,t⟩:=o;simp only at *;clear hF K f a1 H y a2 E;generalize kW s n A=r at *;generalize (fH s.1 n).2=q at *;generalize (fH s.1 n).1=bt at *;go_enter func20,ntmps20;go_wp2_with fail;rw[Q.o];have a3:=L.o;clear L;have j:=a3.p0;have d:=a3.b2;simp only at d;go_region_held3 (λw'=>w'.cell? (z pb)=some (.pointer (some (z x)))/\w'.cell? (O w.heap.size 2)=some (I n)) ((refine⟨?_, ?_⟩<;>(first|assumption|(exact Mid.p0 Φ)|(exact Mid.b2 Φ)))) (first|(go_at_call 45;refine ψ (u.o _ ?_) ?_;(exact a3.drew m.o p.o);rintro e w3⟨rfl,i⟩));clear a3 j d;go_wp2_with fail;have j:=i.p0;have d:=i.b2;have M:=i.b3;simp only at d M;go_region_held3 (λw'=>w'.cell? (z pb)=some (.pointer (some (z x)))/\w'.cell? (O w.heap.size 2)=some (I n)/\w'.cell? (O w.heap.size 3)=some (I A)) ((refine⟨?_, ?_, ?_⟩<;>(first|assumption|(exact Mid.p0 Φ)|(exact Mid.b2 Φ)|(exact Mid.b3 Φ)))) (first|(go_at_call 49;refine ψ (C.o _ ?_) ?_;(exact i.drew m.o p.o);rintro e w4⟨rfl,l⟩));clear i j d M C;go_wp2_with fail;have Z:=l.p1;have N:=l.b2;have P:=l.b3;simp only at N P;go_region_held3 (λw'=>w'.cell? (O pb 1)=some (.pointer (some (z c)))/\w'.cell? (O w.heap.size 2)=some (I n)/\w'.cell? (O w.heap.size 3)=some (I A)) ((refine⟨?_, ?_, ?_⟩<;>(first|assumption|(exact Mid.p1 Φ)|(exact Mid.b2 Φ)|(exact Mid.b3 Φ)))) (first|(go_at_call 50;refine ψ (B.o _ ?_) ?_;(exact l.drew m.o p.o);rintro e w5⟨rfl,a4⟩));clear l Z N P B;go_wp2_with fail;have j:=a4.p0;have d:=a4.b2;simp only at d;go_region_held3 (λw'=>w'.cell? (z pb)=some (.pointer (some (z x)))/\w'.cell? (O w.heap.size 2)=some (I n)) ((refine⟨?_, ?_⟩<;>(first|assumption|(exact Mid.p0 Φ)|(exact Mid.b2 Φ)))) (first|(go_at_call 45;refine ψ (u.o _ ?_) ?_;(exact a4.drew m.o p.o);rintro e w6⟨rfl,D⟩));have U:=ω<|X.o _ D
 clear a4 j d D u;go_wp2_with (first|(go_at_call 24;refine(iL _ _).mono ?_;rintro e w7⟨rfl,rfl⟩));go_ret;exact⟨rfl,U.o⟩
end
section
open Go.Proofs.Tryz Go.RowKit
variable{F G:vS}
def Ve(hF:kF F)(A:kQ G)(h:bT F)(i:aQ G)(w:World)(Q:Glob w)(pb x:Nat)(S:Nat->Prop)(c:Nat)(R:Nat->Prop)(s:Sl)(N:iw F G w pb x S c R s)(P:(∀y,S y->4<=y)/\(∀y,R y->4<=y)){a4:Nat}(v:Sz a4 s)(a2:a4<=1048575)(o:dM)(T:o.ok)(u:o.kind=2\/o.kind=10\/o.kind=11\/o.kind=12):Calls prog 21 #[.pointer (some (z pb)),o.val] w λe w'=>e=.returned (.bool true)/\∃s',Sz (a4+1) s'/\Told F G S R w pb x c s' w':=by
 have k:=ω h;have l:=ω i;have K:=T.2.2.2.2;have H:=v.mono a2;unfold dM.val;obtain⟨d,D⟩:∃d,d=w.alloc (qQ o):=⟨_,rfl⟩;have X:J<|Mid F G S R d w.heap.size o pb x c s s d:=by rw[D];exact Mid.start h i Q N P o
 have a1:J<|∀a3 wx,Mid F G S R d w.heap.size o pb x c a3 a3 wx->Told F G S R w pb x c a3 wx:=λa3 wx b=>by rw[D]at b;exact b.fin
 have HW:=ω D.symm;rcases u with u|u|u|u
 case' inl =>
  obtain⟨r,a3,E⟩:=Qv s o.n (ay o.s);obtain⟨r,a3,B,m,n⟩:∃(r:Int)(a3:Sl),Sz (a4+1) a3/\J (∀wx,Mid F G S R d w.heap.size o pb x c s s wx->Calls prog 11 #[.pointer (some (z x)),I o.n,.string o.s] wx λe w'=>e=.returned (I r)/\Mid F G S R d w.heap.size o pb x c a3 s w')/\J (∀wx,Mid F G S R d w.heap.size o pb x c a3 s wx->Calls prog 51 #[.pointer (some (z c)),I o.n,.string o.s] wx λe w'=>e=.returned (I r)/\Mid F G S R d w.heap.size o pb x c a3 a3 w') :=
   ⟨r,a3,v.dos E,λwx b=>b.ps h i λq f=>hF.does wx x q s o.n o.s r a3 b.m.glob f K E,λwx b=>b.rc h i λp f=>A.does wx c p s o.n o.s r a3 f H K E⟩
  clear E
 case' inr.inl =>
  obtain⟨r,a3,B,m,n⟩:∃(r:Int)(a3:Sl),Sz (a4+1) a3/\J (∀wx,Mid F G S R d w.heap.size o pb x c s s wx->Calls prog 52 #[.pointer (some (z x)),I o.n] wx λe w'=>e=.returned (I r)/\Mid F G S R d w.heap.size o pb x c a3 s w')/\J (∀wx,Mid F G S R d w.heap.size o pb x c a3 s wx->Calls prog 53 #[.pointer (some (z c)),I o.n] wx λe w'=>e=.returned (I r)/\Mid F G S R d w.heap.size o pb x c a3 a3 w') :=
   ⟨_,_,v.tick o.n,λwx b=>b.ps h i λq f=>hF.ticks wx x q s o.n b.m.glob f,λwx b=>b.rc h i λp f=>A.ticks wx c p s o.n f⟩
 case' inr.inr.inl =>
  obtain⟨r,a3,B,m,n⟩:∃(r:Int)(a3:Sl),Sz (a4+1) a3/\J (∀wx,Mid F G S R d w.heap.size o pb x c s s wx->Calls prog 54 #[.pointer (some (z x)),I o.n] wx λe w'=>e=.returned (I r)/\Mid F G S R d w.heap.size o pb x c a3 s w')/\J (∀wx,Mid F G S R d w.heap.size o pb x c a3 s wx->Calls prog 55 #[.pointer (some (z c)),I o.n] wx λe w'=>e=.returned (I r)/\Mid F G S R d w.heap.size o pb x c a3 a3 w') :=
   ⟨_,_,v.crash o.n,λwx b=>b.ps h i λq f=>hF.crashes wx x q s o.n b.m.glob f,λwx b=>b.rc h i λp f=>A.crashes wx c p s o.n f H⟩
 case' inr.inr.inr =>
  obtain⟨r,a3,B,m,n⟩:∃(r:Int)(a3:Sl),Sz (a4+1) a3/\J (∀wx,Mid F G S R d w.heap.size o pb x c s s wx->Calls prog 56 #[.pointer (some (z x)),I o.n,I o.m] wx λe w'=>e=.returned (I r)/\Mid F G S R d w.heap.size o pb x c a3 s w')/\J (∀wx,Mid F G S R d w.heap.size o pb x c a3 s wx->Calls prog 57 #[.pointer (some (z c)),I o.n,I o.m] wx λe w'=>e=.returned (I r)/\Mid F G S R d w.heap.size o pb x c a3 a3 w') :=
   ⟨_,_,v.Ba o.n o.m,λwx b=>b.ps h i λq f=>hF.tears wx x q s o.n o.m b.m.glob f,λwx b=>b.rc h i λp f=>A.tears wx c p s o.n o.m f⟩
 all_goals
  have a0:=ω B;obtain⟨y,a,W,U,t⟩:=o;simp only at *;subst u;clear hF A h i Q N T D P B v H K;go_enter func21,ntmps21;go_wp2_with fail;rw[HW.o];have j:=X.o;clear X;have q0:=j.p0;have Y:=j.b2;have Z:=j.b3;have q4:=j.b4;simp only at Y Z q4;go_region_held3 (λw'=>w'.cell? (z pb)=some (.pointer (some (z x)))/\w'.cell? (O w.heap.size 2)=some (I W)/\w'.cell? (O w.heap.size 3)=some (I U)/\w'.cell? (O w.heap.size 4)=some (.string t)) ((refine⟨?_, ?_, ?_, ?_⟩<;>(first|assumption|(exact Mid.p0 Φ)|(exact Mid.b2 Φ)|(exact Mid.b3 Φ)|(exact Mid.b4 Φ)))) (first|(go_at_call 11;refine ψ (m.o _ ?_) ?_;(exact j.drew k.o l.o);rintro e L⟨rfl,g⟩)|(go_at_call 52;refine ψ (m.o _ ?_) ?_;(exact j.drew k.o l.o);rintro e L⟨rfl,g⟩)|(go_at_call 54;refine ψ (m.o _ ?_) ?_;(exact j.drew k.o l.o);rintro e L⟨rfl,g⟩)|(go_at_call 56;refine ψ (m.o _ ?_) ?_;(exact j.drew k.o l.o);rintro e L⟨rfl,g⟩));clear j q0 Y Z q4 m;go_wp2_with fail;have r1:=g.p1;have r2:=g.b2;have r3:=g.b3;have r4:=g.b4;simp only at r2 r3 r4;go_region_held3 (λw'=>w'.cell? (O pb 1)=some (.pointer (some (z c)))/\w'.cell? (O w.heap.size 2)=some (I W)/\w'.cell? (O w.heap.size 3)=some (I U)/\w'.cell? (O w.heap.size 4)=some (.string t)) ((refine⟨?_, ?_, ?_, ?_⟩<;>(first|assumption|(exact Mid.p1 Φ)|(exact Mid.b2 Φ)|(exact Mid.b3 Φ)|(exact Mid.b4 Φ)))) (first|(go_at_call 51;refine ψ (n.o _ ?_) ?_;(exact g.drew k.o l.o);rintro e M⟨rfl,C⟩)|(go_at_call 53;refine ψ (n.o _ ?_) ?_;(exact g.drew k.o l.o);rintro e M⟨rfl,C⟩)|(go_at_call 55;refine ψ (n.o _ ?_) ?_;(exact g.drew k.o l.o);rintro e M⟨rfl,C⟩)|(go_at_call 57;refine ψ (n.o _ ?_) ?_;(exact g.drew k.o l.o);rintro e M⟨rfl,C⟩));have SI:=ω<|a1.o _ _ C
  clear g C r1 r2 r3 r4;go_wp2_with (first|(go_at_call 24;refine(iL _ _).mono ?_;rintro e w5⟨rfl,rfl⟩));go_ret;exact⟨rfl,_,a0.o,SI.o⟩
end
section
open Go.Proofs.Tryz Go.RowKit
variable{F G:vS}
def Qy(hF:kF F)(T:kQ G)(g:bT F)(h:aQ G)(w:World)(Q:Glob w)(pb x:Nat)(S:Nat->Prop)(c:Nat)(R:Nat->Prop)(s:Sl)(y:iw F G w pb x S c R s)(l:(∀k,S k->4<=k)/\(∀k,R k->4<=k)){a4:Nat}(B:Sz a4 s)(a1:a4<=1048575)(o:dM)(hk:o.kind=13):Calls prog 21 #[.pointer (some (z pb)),o.val] w λe w'=>e=.returned (.bool true)/\∃a2,Sz (a4+1) a2/\Told F G S R w pb x c a2 w':=by
 have a7:=ω g;have a8:=ω h;have N:=B.mono a1;have U:=λk d=>hF.dlt _ _ _ _ k d y.f;unfold dM.val;obtain⟨b,q⟩:∃b,b=w.alloc (qQ o):=⟨_,rfl⟩;have X:J<|Mid F G S R b w.heap.size o pb x c s s b:=by rw[q];exact Mid.start g h Q y l o
 have a0:J<|∀f wx,Mid F G S R b w.heap.size o pb x c f f wx->Told F G S R w pb x c f wx:=λf wx a3=>by rw[q]at a3;exact a3.fin
 have HW:=ω q.symm;have H:J<|∀wx,Mid F G S R b w.heap.size o pb x c s s wx->Calls prog 58 #[.pointer (some (z x)),I o.n] wx λe w'=>∃a2,(e=.returned (I (xR s o.n))/\vP s o.n a2)/\Mid F G S R b w.heap.size o pb x c a2 s w':=λwx a3=>a3.pc g h λS1 A l=>ψ (hF.wakes wx x S1 s o.n a3.m.glob l A) (by rintro e w'⟨he,S',a2,i,a3⟩;exact⟨a2,⟨he,i⟩,S',a3⟩);have D:J<|∀wx a2,Mid F G S R b w.heap.size o pb x c a2 s wx->Calls prog 13 #[.pointer (some (z x)),I o.n] wx λe w'=>e=.returned (.tuple #[I (iq a2 o.n).1,I (iq a2 o.n).2])/\Mid F G S R b w.heap.size o pb x c a2 s w':=λwx a2 a3=>a3.YC hF g h o.n;have K:J<|∀wx a2,vP s o.n a2->Mid F G S R b w.heap.size o pb x c a2 s wx->Calls prog 59 #[.pointer (some (z c)),I o.n,I (iq a2 o.n).1] wx λe w'=>e=.returned (.tuple #[I (xR s o.n),.bool true])/\Mid F G S R b w.heap.size o pb x c a2 a2 w':=λwx a2 i a3=>a3.rc g h λR1 A=>T.wakes wx c R1 s o.n a2 A N U i;have HZ:J<|∀a2,vP s o.n a2->Sz (a4+1) a2:=λa2 i=>B.wake i;obtain⟨k,a,n,m,t⟩:=o;simp only at *;subst hk;clear hF T g h Q y q l B N U;generalize xR s n=r at *;go_enter func21,ntmps21;go_wp2_with fail;rw[HW.o];have a5:=X.o;clear X;have C:=a5.p0;have j:=a5.b2;simp only at j;go_region_held3 (λw'=>w'.cell? (z pb)=some (.pointer (some (z x)))/\w'.cell? (O w.heap.size 2)=some (I n)) ((refine⟨?_, ?_⟩<;>(first|assumption|(exact Mid.p0 Φ)|(exact Mid.b2 Φ)))) (first|(go_at_call 58;refine ψ (H.o _ ?_) ?_;(exact a5.drew a7.o a8.o);rintro e w3⟨f,⟨rfl,W⟩,p⟩));have M:=ω W;clear a5 C j H W;go_wp2_with fail;have C:=p.p0;have j:=p.b2;simp only at j;have E:J<|_:=λwx=>D.o wx f;have L:J<|_:=λwx=>K.o wx f M.o;clear D K;generalize (iq f n).1=u at *;generalize (iq f n).2=v at *;go_region_held3 (λw'=>w'.cell? (z pb)=some (.pointer (some (z x)))/\w'.cell? (O w.heap.size 2)=some (I n)) ((refine⟨?_, ?_⟩<;>(first|assumption|(exact Mid.p0 Φ)|(exact Mid.b2 Φ)))) (first|(go_at_call 13;refine ψ (E.o _ ?_) ?_;(exact p.drew a7.o a8.o);rintro e w4⟨rfl,a6⟩));clear p C j E;go_wp2_with fail;have r1:=a6.p1;have Y:=a6.b2;simp only at Y;go_region_held3 (λw'=>w'.cell? (O pb 1)=some (.pointer (some (z c)))/\w'.cell? (O w.heap.size 2)=some (I n)) ((refine⟨?_, ?_⟩<;>(first|assumption|(exact Mid.p1 Φ)|(exact Mid.b2 Φ)))) (first|(go_at_call 59;refine ψ (L.o _ ?_) ?_;(exact a6.drew a7.o a8.o);rintro e w5⟨rfl,P⟩));have Z:=ω<|a0.o _ _ P
 clear a6 P r1 Y L;go_wp2_with (first|(go_at_call 24;refine(iL _ _).mono ?_;rintro e w6⟨rfl,rfl⟩));go_ret;exact⟨rfl,_,HZ.o _ M.o,Z.o⟩
end
section
open Go.Proofs.Tryz Go.RowKit
variable{F G:vS}
def YF(c:Int)(n:Nat)(k:-9223372036854775808<=c)(l:c<=9223372036854775807)(p:1<=n)(q:n<=9223372036854775807):∃j:Nat,j<n/\∀w:World,Calls prog 17 #[I c,I n] w λr g=>r=.returned (I j)/\g=w:=by
 by_cases m:c<0
 .have h:IntKind.i64.wrap (c+1)=c+1:=wrap_in _ V V;have i:IntKind.i64.wrap (-(c+1)) = -(c+1):=wrap_in _ V V;obtain⟨d,o⟩:∃d:Nat,-(c+1)=(d:Int):=⟨(-(c+1)).toNat,V⟩;have f:((n:Int)==0)=false:=ό.2 V;have a:¬n=0:=V
  have b:(d:Int).tmod (n:Int)=((d % n:Nat):Int):=rfl;have e:IntKind.i64.wrap ((d % n:Nat):Int)=((d % n:Nat):Int):=wrap_in _ V (by have:=Nat.mod_lt d (V:n > 0);omega);refine⟨d % n,Nat.mod_lt _ V,λw=>?_⟩;go_enter func17,ntmps17;go_wp2;go_ret;exact⟨by first|rfl|(rw[Int.natCast_emod];rfl),rfl⟩
 .obtain⟨d,rfl⟩:∃d:Nat,c=(d:Int):=⟨c.toNat,V⟩;have f:((n:Int)==0)=false:=ό.2 V;have a:¬n=0:=V
  have b:(d:Int).tmod (n:Int)=((d % n:Nat):Int):=rfl;have e:IntKind.i64.wrap ((d % n:Nat):Int)=((d % n:Nat):Int):=wrap_in _ V (by have:=Nat.mod_lt d (V:n > 0);omega);refine⟨d % n,Nat.mod_lt _ V,λw=>?_⟩;go_enter func17,ntmps17;go_wp2;go_ret;exact⟨by first|rfl|(rw[Int.natCast_emod];rfl),rfl⟩
def pz.steps(i:bT F)(k:aQ G){c B b:Nat}{w wx:World}{n:Value}{l:List je}(a:pz F G B w b n l)(u:l.length<=c/\∀d∈l,Sz c d.s)(m:Below w.heap.size w wx){j:Nat}(t:j<l.length){f:FuncId}{o:Array Value}(p:pz F G B wx b n l->Calls prog f o wx λe w'=>e=.returned (.bool true)/\∃g,Sz (c+1) g/\Told F G l[j].S l[j].R wx l[j].pb l[j].x l[j].c g w'):Calls prog f o wx λe w'=>e=.returned (.bool true)/\nN F G (c+1) B w' b/\Below B w w':=by have h:=a.below i k m;refine ψ (p h) ?_;rintro e w'⟨rfl,g,v,q⟩;obtain⟨r,s⟩:=h.told i k (szs u) j t v q;exact⟨rfl,r.j,(m.mono (ς a.bB (ϑx a.blk.lt))).trans s⟩
def YG(hF:kF F)(t:kQ G)(M:EF G)(af:bT F)(g:aQ G)(c B:Nat)(w:World)(b:Nat)(o:dM)(u:o.ok)(a7:c<1048576)(L:nN F G c B w b):Calls prog 7 #[.pointer (some (z b)),o.val] w λe w'=>e=.returned (.bool true)/\nN F G (c+1) B w' b/\Below B w w':=by
 have S:B<=w.heap.size:=by obtain⟨rv,l,_,d⟩:=L;exact ς d.bB (ϑx d.blk.lt)
 by_cases U:o.kind=1
 .have Z:J<|∀wx,Below w.heap.size w wx->Calls prog 16 #[.pointer (some (z b)),.agg #[I o.kind,I o.a,I o.n,I o.m,.string o.s]] wx λe w'=>e=.returned (.bool true)/\nN F G (c+1) B w' b/\Below B w w':=λwx i=>by obtain⟨rv,l,n,d⟩:=L;refine ψ (YE hF M af g c B wx b o u a7 ⟨rv,l,n,d.below af g i⟩) ?_;rintro e w'⟨rfl,p,r⟩;exact⟨rfl,p,(i.mono S).trans r⟩
  unfold dM.val;obtain⟨k,v,C,A,s⟩:=o;simp only at *;subst U;clear u L hF t M af g;go_enter func7,ntmps7;go_wp2_with fail;refine ψ (Z.o _ ((φ _ w).alloc (χ _) _)) ?_;rintro e Q⟨rfl,p,r⟩;have R:J<|nN F G (c+1) B Q b/\Below B w Q:=⟨p,r⟩;clear Z p r;go_wp2;go_ret;exact⟨rfl,R.o⟩
 .obtain⟨rv,l,n,d⟩:=L;have ac:=n.1;by_cases a9:l.length=0
  .have aa:rv=.slice none 0 0\/∃x cap,rv=.slice (some (z x)) 0 cap:=by
    obtain⟨_,⟨p,_⟩|⟨x,cap,ab,p,_⟩⟩:=d.row
    .exact τ p
    .rw[a9]at p;exact υ ⟨x,cap,p⟩
   have HJ:J<|∀wx,Below w.heap.size w wx->nN F G (c+1) B wx b/\Below B w wx:=λwx i=>⟨⟨rv,l,szs n,d.below af g i⟩,i.mono S⟩;have a6:=d.blk.lt;have p0:∀m,(w.alloc m).cell? (z b)=some rv:=λm=>((d.blk.alloc m).cell 0).trans rfl;unfold dM.val;obtain⟨k,v,C,A,s⟩:=o;simp only at *;have kk:=ό.2 U;have N:=ω<|λm=>(φ _ w).alloc (χ _) m
   clear u d n hF t M af g;rcases aa with rfl|⟨x,cap,rfl⟩
   all_goals
    go_enter func7,ntmps7;go_wp2;go_ret;exact⟨rfl,HJ.o _ (N.o _)⟩
  .obtain⟨x,cap,rfl⟩:=dK d.row V;obtain⟨j,h,a5⟩:=YF o.a l.length u.2.1.1 u.2.1.2 V V;have a0:J<|_:=a5;have hS4:(∀y,l[j].S y->4<=y)/\(∀y,l[j].R y->4<=y):=⟨λy T=>ς d.b4 (d.foot j h y (τ T)),λy T=>ς d.b4 (d.foot j h y (υ T))⟩;have H:=n.2 _ (κ h);have P:∀{f:FuncId}{vs:Array Value}{wx:World},Calls prog f vs wx (λe w'=>e=.returned (.bool true)/\Told F G l[j].S l[j].R wx l[j].pb l[j].x l[j].c l[j].s w')->Calls prog f vs wx λe w'=>e=.returned (.bool true)/\∃s',Sz (c+1) s'/\Told F G l[j].S l[j].R wx l[j].pb l[j].x l[j].c s' w':=λK=>ψ K λe w' K=>⟨K.1,_,H.one,K.2⟩;have HT:J<|∀wx,Below w.heap.size w wx->(o.kind=3\/o.kind=4\/o.kind=9)->Calls prog 8 #[.pointer (some (z (l[j].pb))),.agg #[I o.kind,I o.a,I o.n,I o.m,.string o.s]] wx λe w'=>e=.returned (.bool true)/\nN F G (c+1) B w' b/\Below B w w':=λwx i q=>d.steps af g n i h λa=>P (by
    rcases q with q|q|q
    .exact G8 hF t af g wx a.glob _ _ _ _ _ _ (a.pair j h) hS4 o u q
    .exact AX hF t af g wx a.glob _ _ _ _ _ _ (a.pair j h) hS4 o u q
    .exact EG hF t af g wx a.glob _ _ _ _ _ _ (a.pair j h) hS4 o u q)
   have HU:J<|∀wx,Below w.heap.size w wx->Calls prog 21 #[.pointer (some (z (l[j].pb))),.agg #[I o.kind,I o.a,I o.n,I o.m,.string o.s]] wx λe w'=>e=.returned (.bool true)/\nN F G (c+1) B w' b/\Below B w w':=λwx i=>by
    by_cases q:o.kind=2\/o.kind=10\/o.kind=11\/o.kind=12
    .exact d.steps af g n i h λa=>Ve hF t af g wx a.glob _ _ _ _ _ _ (a.pair j h) hS4 H V o u q
    .by_cases a4:o.kind=13
     .exact d.steps af g n i h λa=>Qy hF t af g wx a.glob _ _ _ _ _ _ (a.pair j h) hS4 H V o a4
     .refine ψ (Qw wx _ o ⟨q,a4⟩) ?_;rintro e w'⟨rfl,r⟩;have a3:=i.trans (r.mono i.size);exact⟨rfl,⟨_,_,szs n,d.below af g a3⟩,a3.mono S⟩
   have a1:J<|∀wx,Below w.heap.size w wx->Calls prog 20 #[.pointer (some (z (l[j].pb))),.agg #[I o.kind,I o.a,I o.n,I o.m,.string o.s]] wx λe w'=>e=.returned (.bool true)/\nN F G (c+1) B w' b/\Below B w w':=λwx i=>d.steps af g n i h λa=>P (Vd hF t af g wx a.glob _ _ _ _ _ _ (a.pair j h) hS4 o);have X:=ω<|λwx i=>d.steps af g n i h λa=>P (U9 hF t af g wx a.glob _ _ _ _ _ _ (a.pair j h) hS4 b ((a.blk.cell 1).trans rfl) (a.aw0 af g j h) a.blk.lt o.n)
   have Y:J<|∀wx,Below w.heap.size w wx->(o.kind=5\/o.kind=7)->Calls prog 19 #[.pointer (some (z b)),.pointer (some (z (l[j].pb))),.agg #[I o.kind,I o.a,I o.n,I o.m,.string o.s]] wx λe w'=>e=.returned (.bool true)/\nN F G (c+1) B w' b/\Below B w w':=λwx i q=>d.steps af g n i h λa=>Qx hF t af g wx a.glob _ _ _ _ _ _ (a.pair j h) hS4 H V b ((a.blk.cell 1).trans rfl) (a.aw0 af g j h) a.blk.lt o q;have a2:J<|∀m,(w.alloc m).cell? (z b)=some (.slice (some (z x)) l.length cap):=λm=>((d.blk.alloc m).cell 0).trans rfl;have Hg:J<|∀m,(w.alloc m).cell? (O x j)=some (.pointer (some (z (l[j].pb)))):=λm=>by have r:=(d.row.alloc m).cellAt j V;rw[r];simp[Vb,h]
   have a6:=d.blk.lt;have ad:l.length<=1048576:=V
   have N:=ω<|λm=>((φ _ w).alloc (χ _) m).drew
   unfold dM.val;obtain⟨k,v,C,A,s⟩:=o;simp only at *;clear u d n H P hS4 a5 hF t M af g;have kk:=ό.2 U;have p0:=a2.o (.cells #[I k,I v,I C,I A,.string s] 32);have pg:=Hg.o (.cells #[I k,I v,I C,I A,.string s] 32);have E:=N.o (.cells #[I k,I v,I C,I A,.string s] 32);have D:aC (w.alloc (.cells #[I k,I v,I C,I A,.string s] 32)) w.heap.size #[I k,I v,I C,I A,.string s] 32:=aC.new w _ _;have s0:=(D.cell 0).trans rfl;have s1:=(D.cell 1).trans rfl;have s2:=(D.cell 2).trans rfl;have s3:=(D.cell 3).trans rfl;have s4:=(D.cell 4).trans rfl;clear D a2 Hg N;generalize l[j].pb=pb at *;go_enter func7,ntmps7;go_wp2_with fail;generalize w.alloc (.cells #[I k,I v,I C,I A,.string s] 32)=Q at *;have ae:J<|∀e:Nat,e<l.length->(e:Int)<(l.length:Int):=λe he=>V
   go_region_held3 (λw'=>w'=Q.drew/\w'.cell? (z b)=some (.slice (some (z x)) l.length cap)/\w'.cell? (O x j)=some (.pointer (some (z pb)))/\w'.cell? (O w.heap.size 1)=some (I v)) ((refine⟨?_, ?_, ?_, ?_⟩<;>(first|rfl|assumption))) (first|(go_at_call 17;refine ψ (a0.o _) ?_;rintro e W⟨rfl,rfl⟩));clear a0;have a8:k=3\/k=4\/k=9\/k=5\/k=7\/k=6\/k=8\/(¬k=3/\¬k=4/\¬k=9/\¬k=5/\¬k=7/\¬k=6/\¬k=8):=V
   rcases a8 with rfl|rfl|rfl|rfl|rfl|rfl|rfl|⟨n3,n4,n9,n5,n7,n6,n8⟩
   case' inr.inr.inr.inr.inr.inr.inr =>have k3:=ό.2 n3;have k4:=ό.2 n4;have k9:=ό.2 n9;have k6:=ό.2 n6;have k5:=ό.2 n5;have k7:=ό.2 n7;have k8:=ό.2 n8
   all_goals
    go_wp2_with fail;first|refine ψ (HU.o _ E) ?_|refine ψ (HT.o _ E Ω) ?_|refine ψ (Y.o _ E Ω) ?_|refine ψ (X.o _ E) ?_|refine ψ (a1.o _ E) ?_
    rintro e W⟨rfl,p,r⟩;have R:J<|nN F G (c+1) B W b/\Below B w W:=⟨p,r⟩;clear HT HU X Y a1 p r;go_wp2_with fail;go_ret;exact⟨rfl,R.o⟩
def YH(hF:kF F)(g:kQ G)(i:EF G)(e:bT F)(f:aQ G):RJ 13 (nN F G):={
 heads:=λw a=>U7 hF w a
 start:=λw a=>⟨.slice none 0 0,[],⟨χ _,λn l=>absurd l Ω⟩,a.mono ((φ _ w).alloc (χ _) _),a.size,χ _,aC.new w _ _,ϑj _ _ _ _,λj h=>absurd h Ω,λj h=>absurd h Ω,λp j h=>absurd h Ω⟩
 step:=λc B w b o m k d=>YG hF g i e f c B w b o m k d }
end
section
open Go.Proofs.Tryz Go.RowKit
def Vf(I:Nat->Nat->World->Nat->Prop)(d:RJ 13 I)(w:World)(g:Glob w)(v:Value)(l:List dM)(a:yV w v l)(m:l.length<=1048576)(h:∀o∈l,o.ok):Calls prog 3 #[v] w λe w'=>e=.returned (.bool true)/\Below w.heap.size w w':=by
 rcases a with⟨i,c,rfl,rfl⟩|⟨j,n,c,rfl,k,a⟩
 .have b:J<|_:=YB 13 I d w g i c;go_enter func3,ntmps3;go_wp2_with fail;refine ψ b.o ?_;rintro e p⟨rfl,f⟩;go_wp2;go_ret;exact⟨rfl,f⟩
 .have b:J<|_:=YA 13 I d w g j n c l a k m h;clear d a h;go_enter func3,ntmps3;go_wp2_with fail;refine ψ b.o ?_;rintro e p⟨rfl,f⟩;go_wp2;go_ret;exact⟨rfl,f⟩
variable{F G:vS}
structure JD(G:vS):Prop where
 paths:∀w c R s,G w c R s->Calls prog 27 #[.pointer (some (z c))] w λe w'=>∃v ss,e=.returned v/\w'.ownsRow w.heap.size 9 1 v ss.length (strs ss)/\(∀t∈ss,t.size<=20)/\ss.length<=30000000/\Below w.heap.size w w'
section
variable{S R:Nat->Prop}{w wx:World}{pb x c:Nat}{s:Sl}
def Told.glob(h:Told F G S R w pb x c s wx)(b:Glob w)(a:(∀k,S k->4<=k)/\(∀k,R k->4<=k)):Glob wx:=by obtain⟨_,_,_,_,_,d⟩:=h;exact b.Ed d (λk e=>e.elim (a.1 k) (a.2 k))
def Told.next(h:Told F G S R w pb x c s wx)(m:Glob w)(g:(∀k,S k->4<=k)/\(∀k,R k->4<=k)){f:FuncId}{o:Array Value}(r:∀d b,Glob wx->iw F G wx pb x d c b s->((∀k,d k->4<=k)/\(∀k,b k->4<=k))->Calls prog f o wx λe w'=>e=.returned (.bool true)/\Told F G d b wx pb x c s w'):Calls prog f o wx λe w'=>e=.returned (.bool true)/\Told F G S R w pb x c s w':=by have v:=h.glob m g;obtain⟨d,b,y,l,j,i⟩:=h;have n:=m.size;refine ψ (r d b v y ⟨λk a=>(l k a).elim (g.1 k) (λh=>ς n h),λk a=>(j k a).elim (g.2 k) (λh=>ς n h)⟩) ?_;rintro e w'⟨u,q,p,A,C,B,t⟩;exact⟨u,q,p,A,λk a=>(C k a).elim (l k) (λh=>υ (ς i.size h)),λk a=>(B k a).elim (j k) (λh=>υ (ς i.size h)),i.trans' t (λk a h=>h.elim (λh=>(l k h).elim τ (λh=>V)) (λh=>(j k h).elim υ (λh=>V)))⟩
def Told.refl(h:iw F G w pb x S c R s):Told F G S R w pb x c s w:=⟨S,R,h,λk a=>τ a,λk a=>τ a,aA.refl _ _⟩
def Told.see(e:kQ G)(h:Told F G S R w pb x c s wx):wx.cell? (O pb 1)=some (.pointer (some (z c)))/\s.kn.length<=6/\∃a cap,wx.cell? (O c 1)=some (.slice (some (z a)) s.kn.length cap)/\s.kn.length<=cap:=by obtain⟨i,g,b,_⟩:=h;obtain⟨d,a,cap,f1,f,_⟩:=e.cells _ _ _ _ b.r;exact⟨b.c1,d,a,cap,f1,f⟩
end
def Vg(hF:kF F)(y:kQ G)(P:JD G)(l:bT F)(m:aQ G)(w:World)(hG:Glob w)(pb x:Nat)(S:Nat->Prop)(c:Nat)(R:Nat->Prop)(s:Sl)(h:iw F G w pb x S c R s)(h4:(∀k,S k->4<=k)/\(∀k,R k->4<=k)):Calls prog 9 #[.pointer (some (z pb))] w λe w'=>e=.returned (.bool true)/\Told F G S R w pb x c s w':=by
 have M:J<|_:=P.paths w c R s h.r;have a3:=h.c1;have HS:J<|∀g wx,Told F G S R g pb x c s wx->wx.cell? (O pb 1)=some (.pointer (some (z c)))/\s.kn.length<=6/\∃Y u,wx.cell? (O c 1)=some (.slice (some (z Y)) s.kn.length u)/\s.kn.length<=u:=λg wx d=>d.see y;have HT:J<|∀g wx(r:Int)(t:ByteArray),Below w.heap.size w g->-1<=r->r<=6->t.size<=20->Told F G S R g pb x c s wx->Calls prog 8 #[.pointer (some (z pb)),.agg #[I 3,I 0,I r,I 0,.string t]] wx λe w'=>e=.returned (.bool true)/\Told F G S R g pb x c s w':=λg wx r t f h1 h2 h3 d=>d.next (hG.mono f) h4 λa8 a9 i p q=>G8 hF y l m wx i pb x a8 c a9 s p q ⟨3,0,r,0,t⟩ ⟨Ω,Ω,⟨by simp only;omega,by simp only;omega⟩,Ω,by simp only;omega⟩ rfl
 have K:J<|∀a,Below w.heap.size w a->Told F G S R a pb x c s a:=λa f=>Told.refl (h.below l m f);have a0:J<|∀a wx,Below w.heap.size w a->Told F G S R a pb x c s wx->Told F G S R w pb x c s wx:=λa wx f ⟨a8,a9,hp,hs,U,B⟩=>⟨a8,a9,hp,λk C=>(hs k C).imp id (λh=>ς f.size h),λk C=>(U k C).imp id (λh=>ς f.size h),(aA.of_below f).trans B⟩;have a2:J<|∀a wx v b,a.ownsRow w.heap.size 9 1 v (List.length b) (strs b)->Told F G S R a pb x c s wx->wx.ownsRow w.heap.size 9 1 v (List.length b) (strs b):=λa wx v b T ⟨_,_,_,_,_,B⟩=>bG T B (λi hg e=>by
  have h9:=(T.lt i hg).1;rcases e with e|e
  .have:=l.lt h.f e;omega
  .have:=m.lt h.r e;omega)
 clear hF y P l m h;go_enter func9,ntmps9;go_wp2_with fail;refine ψ M.o ?_;rintro e a⟨v,b,rfl,D,W,a7,A⟩;obtain⟨n,sc,rfl⟩:∃n sc,v=.slice n b.length sc:=by obtain⟨n,sc,e,_⟩:=(fF D).shape;exact⟨n,sc,by rw[e];simp[strs]⟩
 have HO:=ω D;have HZ:=ω W;have L:=ω A;have a1:=ω<|K.o a A
 clear D W A M K a3;go_wp2_with fail;go_loopw [4,5,6] (λE _ _ wx=>∃r:Int,-1<=r/\r<=s.kn.length+1/\E=I r/\Told F G S R a pb x c s wx) (λE _ _ _=>((s.kn.length:Int)+1-intOf E).toNat);case atStart=>exact⟨-1,V,V,rfl,a1.o⟩
 case round =>
  obtain⟨r,a5,a6,rfl,d⟩:=hrel;obtain⟨q1,h6,Y,u,q2,q3⟩:=HS.o _ _ d;have N:=ω d;clear d;by_cases U:r<=s.kn.length
  .go_wp2_with fail;clear q1 q2;go_loopw [5,6] (λH _ wx=>∃j:Nat,j<=b.length/\H=I j/\Told F G S R a pb x c s wx) (λH _ _=>b.length-(intOf H).toNat);case atStart=>exact⟨0,V,rfl,N.o⟩
   case round =>
    obtain⟨j,hj,rfl,d⟩:=hrel;have o:=ω d;clear d;by_cases Q:j<b.length
    .obtain⟨i,rfl,a4⟩:=Iu (a2.o _ _ _ _ HO.o o.o) Q;have hz:=HZ.o _ (κ Q);generalize b[j]=t at *;go_wp2_with fail;refine ψ (HT.o a _ r t L.o a5 V hz o.o) ?_;rintro e w3⟨rfl,X⟩;have Z:=ω X;clear X a4;go_wp2;go_roundw;case rel=>exact⟨j+1,V,Λ,Z.o⟩
     case measure=>simp[intOf];omega
    .go_wp2;go_roundw;case rel=>exact⟨r+1,V,V,Λ,o.o⟩
     case measure=>simp[intOf];omega
  .go_wp2;go_ret;exact⟨rfl,a0.o _ _ L.o N.o⟩
def zV.see(t:bT F)(u:aQ G){c n B:Nat}{w:World}{b:Nat}(q:zV F G c n B w b):∃f g,w.cell? (z b)=some (.slice f n g)/\n<=g/\n<=c/\∀k,k<n->∃h pb x S o R s,f=some (z h)/\w.cell? (O h k)=some (.pointer (some (z pb)))/\iw F G w pb x S o R s/\((∀k,S k->4<=k)/\(∀k,R k->4<=k))/\Glob w/\∀w',Told F G S R w pb x o s w'->zV F G c n B w' b/\Below B w w':=by
 obtain⟨C,l,rfl,j,a⟩:=q;obtain⟨f,g,e,p⟩:=(fF a.row).shape;have v:(Vb l).length=l.length:=by simp[Vb]
 rw[v]at e p;subst e;refine⟨f,g,(a.blk.cell 0).trans rfl,p,j.1,λk d=>?_⟩;obtain⟨h,A,e⟩:=dK a.row V;have r:=a.row;simp only[ϑa]at e;obtain⟨rfl,_,rfl⟩:=e;refine⟨h,l[k].pb,l[k].x,l[k].S,l[k].c,l[k].R,l[k].s,rfl,by rw[r.cellAt k V];simp[Vb,d],a.pair k d,⟨λm i=>ς a.b4 (a.foot k d m (τ i)),λm i=>ς a.b4 (a.foot k d m (υ i))⟩,a.glob,λw' y=>?_⟩;exact a.told t u j k d (j.2 _ (κ d)) y
def nN.n{c B:Nat}{w:World}{b:Nat}(h:nN F G c B w b):∃n,zV F G c n B w b:=by obtain⟨e,l,a,d⟩:=h;exact⟨_,e,l,rfl,a,d⟩
end
section
open Go.Proofs.Tryz Go.RowKit
variable{F G:vS}
def ak8(hF:kF F)(E:kQ G)(hV:EF G)(hA:JD G)(C:bT F)(D:aQ G)(w:World)(hG:Glob w)(v:Value)(l:List dM)(Y:yV w v l)(ap:l.length<=1048576)(aa:∀o∈l,o.ok):Calls prog 4 #[v] w λe w'=>e=.returned (.bool true)/\Below w.heap.size w w':=by
 have X:=YH hF E hV C D;obtain⟨so,a,rfl,a8,a9⟩:∃so a,v=.slice so l.length a/\l.length<=a/\∀wx,Below w.heap.size w wx->∀i(j:i<l.length),∃b ar,so=some (O b ar)/\wx.cell? (O b (ar+i*5))=some (I l[i].kind)/\wx.cell? (O b (ar+i*5+1))=some (I l[i].a)/\wx.cell? (O b (ar+i*5+2))=some (I l[i].n)/\wx.cell? (O b (ar+i*5+3))=some (I l[i].m)/\wx.cell? (O b (ar+i*5+4))=some (.string l[i].s):=by
  rcases Y with⟨ad,a,rfl,rfl⟩|⟨b,ar,a,rfl,a8,Y⟩
  .exact⟨ad,a,rfl,Nat.zero_le _,λ_ _ i j=>by simp at j⟩
  .exact⟨_,a,rfl,a8,λwx g i j=>by have t:=Y.below g;exact⟨b,ar,rfl,t.k i j,t.a i j,t.n i j,t.m i j,t.s i j⟩⟩
 have HG:=ω hG;have ag:J<|_:=a9;have Cj:=ω aa;have HH:J<|∀w,Glob w->Calls prog 6 #[.bool true] w λe w'=>e=.returned (.bool true)/\Below w.heap.size w w':=λw hw=>X.heads w hw;have a2:J<|∀w,Glob w->nN F G 0 w.heap.size (w.alloc (.cells #[.slice none 0 0,.bool true] 29)) w.heap.size:=λw hw=>X.start w hw;have O4:J<|∀c B w b(o:dM),o.ok->c<1048576->nN F G c B w b->Calls prog 7 #[.pointer (some (z b)),.agg #[I o.kind,I o.a,I o.n,I o.m,.string o.s]] w λe w'=>e=.returned (.bool true)/\nN F G (c+1) B w' b/\Below B w w':=λc B w b o Z hc hJ=>X.step c B w b o Z hc hJ;have a5:J<|∀c n B w b,zV F G c n B w b->∃W a,w.cell? (z b)=some (.slice W n a)/\n<=a/\n<=c/\∀k,k<n->∃h pb x S A R s,W=some (z h)/\w.cell? (O h k)=some (.pointer (some (z pb)))/\iw F G w pb x S A R s/\((∀k,S k->4<=k)/\(∀k,R k->4<=k))/\Glob w/\∀w',Told F G S R w pb x A s w'->zV F G c n B w' b/\Below B w w':=λc n B w b t=>t.see C D;have ah:J<|∀{S R w pb x c s wx},Told F G S R w pb x c s wx->wx.cell? (O pb 1)=some (.pointer (some (z c)))/\s.kn.length<=6/\∃rb a,wx.cell? (O c 1)=some (.slice (some (z rb)) s.kn.length a)/\s.kn.length<=a:=λg=>g.see E;have a3:J<|∀{S R w pb x c s wx}(r k:Int),-1<=r->r<=6->k=4\/k=9->Glob w->((∀k,S k->4<=k)/\(∀k,R k->4<=k))->Told F G S R w pb x c s wx->Calls prog 8 #[.pointer (some (z pb)),.agg #[I k,I 0,I r,I 0,.string ⟨#[]⟩]] wx λe w'=>e=.returned (.bool true)/\Told F G S R w pb x c s w':=λ{S R w pb x c s wx}r k h1 h2 hk u m g=>g.next u m λS1 R1 h p q=>by
  have Z:dM.ok ⟨k,0,r,0,⟨#[]⟩⟩:=⟨⟨by simp only;omega,by simp only;omega⟩,Ω,⟨by simp only;omega,by simp only;omega⟩,Ω,(by decide:(⟨#[]⟩:ByteArray).size<=1048576)⟩;rcases hk with rfl|rfl
  .exact AX hF E C D wx h pb x S1 c R1 s p q ⟨4,0,r,0,⟨#[]⟩⟩ Z rfl
  .exact EG hF E C D wx h pb x S1 c R1 s p q ⟨9,0,r,0,⟨#[]⟩⟩ Z rfl
 have ac:J<|∀{S R w pb x c s},Glob w->iw F G w pb x S c R s->((∀k,S k->4<=k)/\(∀k,R k->4<=k))->Calls prog 9 #[.pointer (some (z pb))] w λe w'=>e=.returned (.bool true)/\Told F G S R w pb x c s w':=λ{S R w pb x c s}h p q=>Vg hF E hA C D w h pb x S c R s p q
 clear hF E hV hA C D X hG a9 aa Y;go_enter func4,ntmps4;go_wp2_with fail;refine ψ (HH.o w HG.o) ?_;rintro e d⟨rfl,L⟩;have b1:=ω L;have i1:J<|_:=a2.o d (HG.o.mono L);have bz:=ω<|λo=>L.alloc L.size o
 clear L HH a2;go_wp2_with fail;go_loopg [3,5,6,7,8,9,10] l.length (λh v3 v5 _ _ _ _ _ wx=>∃i:Nat,i+h=l.length/\v3=.bool true/\v5=I i/\nN F G i d.heap.size wx d.heap.size/\Below w.heap.size w wx);case atStart=>exact⟨0,V,rfl,rfl,i1.o,bz.o _⟩
 case round =>
  obtain⟨i,an,rfl,rfl,hI,av⟩:=hrel;have U:=ω hI;have T:=ω av;clear hI av;by_cases j:i<l.length
  .obtain⟨b,ar,rfl,k0,k1,k2,k3,k4⟩:=ag.o _ T.o i j;have Ho:=ω<|Cj.o _ (κ j);generalize l[i]=o at *;go_wp2_with fail;refine ψ (O4.o i d.heap.size wr d.heap.size o Ho.o V U.o) ?_;rintro e w2⟨rfl,a6,a7⟩;obtain⟨n,f⟩:=a6.n;have HN:=ω f;have ae:=ω<|T.o.trans (a7.mono b1.o.size);clear a6 a7 f k0 k1 k2 k3 k4 U T;go_wp2_with fail;go_loopw [6,7,8,9,10] (λv6 _ _ _ _ wx=>∃k:Nat,k<=n/\v6=I k/\zV F G (i+1) n d.heap.size wx d.heap.size/\Below w.heap.size w wx) (λv6 _ _ _ _ _=>n-(intOf v6).toNat);case atStart=>exact⟨0,V,rfl,HN.o,ae.o⟩
   case round =>
    obtain⟨k,hk,rfl,f,av⟩:=hrel;obtain⟨W,ai,p0,aj,ak,y⟩:=a5.o _ _ _ _ _ f;have Pv:=ω f;have H:=ω av;clear f av;by_cases hkn:k<n
    .obtain⟨h,pb,x,S,A,R,s,rfl,pg,M,m,u,N⟩:=y k hkn;have a0:J<|_:=N;have Hg:=ω u;have H4:=ω m;have af:=ω<|Told.refl M;clear y M m u N;go_wp2_with fail;clear p0 pg;go_loopw [8,9,10] (λv8 _ _ wx=>∃r:Int,-1<=r/\r<=s.kn.length+1/\v8=I r/\Told F G S R wr pb x A s wx) (λv8 _ _ _=>((s.kn.length:Int)+1-intOf v8).toNat);case atStart=>exact⟨-1,V,V,rfl,af.o⟩
     case round =>
      obtain⟨r,ab,aq,rfl,g⟩:=hrel;obtain⟨q1,h6,rb,al,q2,q3⟩:=ah.o g;have HX:J<|_:=g;by_cases hr:r<=s.kn.length
      .have HX:J<|_:=a3.o r 4 ab V (τ rfl) Hg.o H4.o g;have HY:J<|∀wy,_:=λwy(hy:Told F G S R _ pb x A s wy)=>a3.o r 9 ab V (υ rfl) Hg.o H4.o hy;clear g;go_wp2_with fail;refine ψ HX.o ?_;rintro e w3⟨rfl,K⟩;have a4:J<|_:=HY.o w3 K;clear K HX HY q1 q2;go_wp2_with fail;refine ψ a4.o ?_;rintro e w4⟨rfl,m⟩;have H5:J<|_:=m;clear m a4;go_wp2;go_roundw;case rel=>exact⟨r+1,V,V,Λ,H5.o⟩
       case measure=>simp[intOf];omega
      .obtain⟨P,Q⟩:=a0.o _ g;have HZ:J<|zV F G (i+1) n d.heap.size wr d.heap.size/\Below w.heap.size w wr:=⟨P,H.o.trans (Q.mono b1.o.size)⟩;clear g P Q;go_wp2;go_roundw;case rel=>exact⟨k+1,V,Λ,HZ.o⟩
       case measure=>simp[intOf];omega
    .clear y;go_wp2;go_roundg (l.length-(i+1));case measure=>omega
     case rel=>exact⟨i+1,V,rfl,Λ,Pv.o.j,H.o⟩
  .obtain⟨n,f⟩:=U.o.n;have HN:=ω f;clear f U;go_wp2_with fail;go_loopw [3,11] (λv3 a1 wx=>∃k:Nat,k<=n/\a1=I k/\zV F G i n d.heap.size wx d.heap.size/\Below w.heap.size w wx) (λ_ a1 _=>n-(intOf a1).toNat);case atStart=>exact⟨0,V,rfl,HN.o,T.o⟩
   case round =>
    obtain⟨k,hk,rfl,f,av⟩:=hrel;obtain⟨W,ai,p0,aj,ak,y⟩:=a5.o _ _ _ _ _ f;have H:=ω av;clear f av;by_cases hkn:k<n
    .obtain⟨h,pb,x,S,A,R,s,rfl,pg,M,m,u,N⟩:=y k hkn;have a0:J<|_:=N;have HC:J<|_:=ac.o u M m;clear y M m u N;go_wp2_with fail;refine ψ HC.o ?_;rintro e w3⟨rfl,K⟩;obtain⟨P,Q⟩:=a0.o _ K;have HZ:J<|zV F G i n d.heap.size w3 d.heap.size/\Below w.heap.size w w3:=⟨P,H.o.trans (Q.mono b1.o.size)⟩;clear K P Q HC p0 pg;go_wp2;go_roundw;case rel=>exact⟨k+1,V,Λ,HZ.o⟩
     case measure=>simp[intOf];omega
    .clear y;go_wp2;go_ret;exact⟨rfl,H.o⟩
