import Derived.Test.YtfmmllpjgkgeaaaGreatDoorPartS36
set_option linter.unusedVariables false
set_option linter.unusedSimpArgs false
set_option maxHeartbeats 16000000
set_option maxRecDepth 100000
namespace Go.Proofs.YtfmmllpjgkgeaaaGreatDoor
section
open Go.Proofs.Tryz Go.RowKit
variable{s:Int}
theorem Qx{c b a:Int}(f:0<=s/\s<4294967296)(g:0<=c/\c<4294967296)(h:0<=b/\b<256)(i:0<=a/\a<256)(e:bits .xor .u32 s b=bits .xor .u32 c a):(b=a->s=c)/\(s=c->b=a):=by
 rw[u32_xor s b f.1 f.2 h.1 V,u32_xor c a g.1 g.2 i.1 V]at e;have d:s.toNat ^^^ b.toNat=c.toNat ^^^ a.toNat:=V
 constructor
 .rintro rfl;have:=congrArg (· ^^^ b.toNat) d;simp only[Nat.xor_assoc,Nat.xor_self,Nat.xor_zero]at this;omega
 .rintro rfl;have:=congrArg (s.toNat ^^^ ·) d;simp only[<- Nat.xor_assoc,Nat.xor_self,Nat.zero_xor]at this;omega
theorem Oe{b:Int}(a:0<=s/\s<4294967296)(c:0<=b/\b<256):0<=bits .xor .u32 s b/\bits .xor .u32 s b<4294967296:=by rw[u32_xor s b a.1 a.2 c.1 V];have:s.toNat ^^^ b.toNat<2 ^ 32:=Nat.xor_lt_two_pow V V;omega
theorem G8(x:Int):(x*16777619*899433627) % 4294967296=x % 4294967296:=by
 have h:(16777619:Int)*899433627=1+4294967296*3513497:=Ψ
 rw[Int.mul_assoc,h,Int.mul_add,Int.mul_one,Int.mul_left_comm,Int.add_mul_emod_self_left]
theorem Qy{x y:Int}(b:0<=x/\x<4294967296)(c:0<=y/\y<4294967296)(e:(x*16777619) % 4294967296=(y*16777619) % 4294967296):x=y:=by have a:=G8 x;have d:=G8 y;rw[Int.mul_emod,e,<- Int.mul_emod,d]at a;rw[Int.emod_eq_of_lt b.1 b.2,Int.emod_eq_of_lt c.1 c.2]at a;exact a.symm
theorem kF(s:Int)(b:UInt8):0<=dH s b/\dH s b<4294967296:=by unfold dH;omega
theorem Qz(b:UInt8):0<=(b.toNat:Int)/\(b.toNat:Int)<256:=by have:=b.toNat_lt;omega
theorem rQ{c:Int}{b a:UInt8}(f:0<=s/\s<4294967296)(g:0<=c/\c<4294967296)(e:dH s b=dH c a):(b=a->s=c)/\(s=c->b=a):=by unfold dH at e;have i:=Qy (Oe f (Qz b)) (Oe g (Qz a)) e;have d:=Qx f g (Qz b) (Qz a) i;exact⟨λh=>d.1 (by rw[h]),λh=>UInt8.toNat_inj.1 (by have:=d.2 h;omega)⟩
theorem DL:∀(q:Thk.Bs)(s a:Int),(0<=s/\s<4294967296)->(0<=a/\a<4294967296)->q.foldl dH s=q.foldl dH a->s=a
 | [],s,a,_,_,e=>e
 | b::q,s,a,h1,h2,e=>(rQ h1 h2 (DL q _ _ (kF s b) (kF a b) e)).1 rfl
theorem Og(l:Thk.Bs)(i:Nat)(h:i<l.length)(b:UInt8)(g:b≠l[i]):jf (l.set i b)≠jf l:=λe=>by
 have d:l=l.take i++l[i]::l.drop (i+1):=by rw[List.getElem_cons_drop,List.take_append_drop]
 have f:l.set i b=l.take i++b::l.drop (i+1):=List.set_eq_take_append_cons_drop.trans (ώ h);unfold jf at e;rw[f]at e
 conv at e=>rhs;rw[d]
 rw[List.foldl_append,List.foldl_append,List.foldl_cons,List.foldl_cons]at e;have a:0<=(l.take i).foldl dH 2166136261/\(l.take i).foldl dH 2166136261<4294967296:=pJ (l.take i);have c:=DL _ _ _ (kF _ b) (kF _ l[i]) e;exact g ((rQ a a c).2 rfl)
theorem DN:∀(k:Nat)(s a:Int),0<=s->0<=a->s<256 ^ k->a<256 ^ k->pK s k=pK a k->s=a
 | 0,s,a,h1,h2,h3,h4,_=>by simp at h3 h4;omega
 | k+1,s,a,h1,h2,h3,h4,e=>by
  unfold pK at e;have b:=(List.cons.inj e).1;have c:s / 256<256 ^ k:=by rw[Int.pow_succ]at h3;omega
  have d:a / 256<256 ^ k:=by rw[Int.pow_succ]at h4;omega
  have f:=DN k (s / 256) (a / 256) V V c d (List.cons.inj e).2;have g:(s % 256).toNat=(a % 256).toNat:=by have:=congrArg UInt8.toNat b;rw[UInt8.toNat_ofNat',UInt8.toNat_ofNat']at this;omega
  omega
theorem DR(l:Thk.Bs)(i:Nat)(d:i<(sealL l).length)(b:UInt8)(c:b≠(sealL l)[i]):dI ((sealL l).set i b)=none:=by
 have p:=sealL_len l;unfold dI;rw[List.length_set,p,Nat.add_sub_cancel];refine ύ λ⟨_,e⟩=>?_;by_cases h:i<l.length
 .have f:(sealL l).set i b=l.set i b++pK (jf l) 4:=by unfold sealL;rw[List.set_append_left _ _ h]
  have a:((sealL l).set i b).take l.length=l.set i b:=by rw[f,List.take_append_of_le_length Ω,List.take_of_length_le Ω]
  rw[a,f]at e;unfold sealL at e;have m:=List.append_cancel_left e;have j:=pJ l;have k:=pJ (l.set i b);have n:=DN 4 _ _ k.1 j.1 V V m;have o:(sealL l)[i]=l[i]:=by
   have g:(sealL l)[i]?=l[i]?:=by unfold sealL;rw[ε h]
   rw[σ d,σ h]at g;exact Option.some.inj g
  rw[o]at c;exact Og l i h b c n
 .have a:((sealL l).set i b).take l.length=l:=by rw[List.take_set_of_le V];unfold sealL;rw[List.take_append_of_le_length (χ _),List.take_length]
  rw[a]at e;apply c;have:=congrArg (λx=>x[i]?) e;simp only[σ d]at this;rw[List.getElem?_set,ώ rfl,ώ d]at this;exact(Option.some.inj this).symm
end
section
open Go.Proofs.Tryz Go.RowKit Go.Maps Go.WideMaps Go.MuLone Go.Deep
theorem JW(w:World)(s:ByteArray):∃g cap w',(convert 9 93 (.string s)).run prog w=.ok (.slice (some (z g)) s.size cap) w'/\s.size<=cap/\w.heap.size<=g/\U8 w' g/\(∀j(p:j<(toL s).length),w'.cell? (O g j)=some (.int .u8 ((toL s)[j].toNat:Int))/\w'.frozen? (O g j)=false)/\Below w.heap.size w w':=by
 obtain⟨v,w',c,o,i⟩:=Cb w s;have e:=run_bytes_of_string (P:=prog) w 9 93 5 s underlying9 underlying93 underlying5;have q:=grownCap_ge w s.size 0 5;have f:=c.symm.trans e;have n:(toL s).length=s.size:=by unfold toL;rw[Array.length_toList];(first|done|rfl)
 generalize grownCap w s.size 0 5=cap at *;have r:(bytesRow s cap).size=cap:=by unfold bytesRow;rw[Array.size_append,Array.size_map,Array.size_replicate];have:s.data.size=s.size:=rfl;omega
 obtain⟨g,a,d,l,h,b,k,_⟩:=o.ex;rw[n]at d b;subst d;injection f with e1 e2;simp only[Value.slice.injEq,Option.some.injEq,Addr.mk.injEq]at e1;obtain⟨⟨rfl,_⟩,_,rfl⟩:=e1;refine⟨_,_,w',c,b,l,h,λj m=>⟨k j m, ?_⟩,i⟩;rw[e2];refine Eq.trans (World.frozen?_alloc_mark w.drew (bytesRow s a) 5 (bytesRow s a).size ((bytesRow s a).size+1) j) ?_;simp;omega
theorem QA{w:World}{g a k:Nat}{l:Thk.Bs}(p:U8 w g)(x:l.length<=a)(q:∀j(h:j<l.length),w.cell? (O g j)=some (.int .u8 (l[j].toNat:Int)))(n:k<l.length)(b:UInt8)(v:Value)(t:v=.int .u8 (b.toNat:Int)):(convert 93 9 (.slice (some (z g)) l.length a)).run prog (w.setCell (O g k) v)=.ok (.string (strOfNums ((l.set k b).map λb=>(b.toNat:Int)))) (w.setCell (O g k) v):=by
 obtain⟨d,u,c⟩:=p;subst t;have f:∀j(h:j<l.length),d[j]?=some (.int .u8 (l[j].toNat:Int)):=λj h=>by have:=q j h;simpa[World.cell?,c]using this
 have o:=run_convert_bytes_arg (P:=prog) (w.setCell (O g k) (.int .u8 (b.toNat:Int))) 93 5 underlying93 underlying5 g 0 l.length a ((l.set k b).map λb=>(b.toNat:Int)) Ω (λi r=>?_) 9 underlying9
 .exact o
 .have m:i<l.length:=by simpa using r
  have s:k<d.size:=(Array.getElem?_eq_some_iff.1 (f k n)).1;rw[Nat.zero_add];by_cases e:k=i
  .subst e;simp[World.cell?,World.setCell,μ,c,s];rw[List.getElem?_set,ώ rfl,ώ (by simpa using n)];(first|done|rfl)
  .have:=f i m;simp[World.cell?,World.setCell,μ,c,e,List.getElem_set,this];rw[σ m];(first|done|rfl)
def jM(b:UInt8)(j:Nat):UInt8:=UInt8.ofNat (b.toNat ^^^ 2 ^ j)
theorem yE(b:UInt8){j:Nat}(d:j<8):(jM b j).toNat=b.toNat ^^^ 2 ^ j:=by have a:2 ^ j<2 ^ 8:=Nat.pow_lt_pow_right V d;have c:b.toNat ^^^ 2 ^ j<2 ^ 8:=Nat.xor_lt_two_pow b.toNat_lt a;unfold jM;rw[UInt8.toNat_ofNat'];exact Nat.mod_eq_of_lt c
theorem Oh(b:UInt8){j:Nat}(c:j<8):jM b j≠b:=λe=>by have h:=yE b c;rw[e]at h;have a:=congrArg (b.toNat ^^^ ·) h;simp only[<- Nat.xor_assoc,Nat.xor_self,Nat.zero_xor]at a;have:=Nat.two_pow_pos j;omega
theorem F6(w:World)(s:ByteArray)(a j:Nat)(e:a<(toL s).length)(n:j<8)(G:s.size<=900000):Calls prog 58 #[.string s,.int .i64 ((a*8+j:Nat):Int)] w λv w'=>∃u,v=.returned (.string u)/\toL u=(toL s).set a (jM (toL s)[a] j)/\Below w.heap.size w w':=by
 obtain⟨g,h,c,q,B,m,k,d,l⟩:=JW w s;have o:(toL s).length=s.size:=by unfold toL;rw[Array.length_toList];(first|done|rfl)
 have C:=(d a e).1;have K:=(d a e).2;have E:Int.tdiv ((a:Int)*8+(j:Int)) 8=(a:Int):=by rw[Int.tdiv_eq_ediv_of_nonneg V];omega
 have F:Int.tmod ((a:Int)*8+(j:Int)) 8=(j:Int):=by rw[Int.tmod_eq_emod_of_nonneg V];omega
 have D:(a:Int)<(s.size:Int):=V
 have t:J<|(convert 9 93 (.string s)).run prog w=.ok (.slice (some (z g)) s.size h) c:=q;have r:J<|∀(b:UInt8),(convert 93 9 (.slice (some (z g)) s.size h)).run prog (c.setCell (O g a) (.int .u8 (b.toNat:Int))).drew=.ok (.string (strOfNums (((toL s).set a b).map λb=>(b.toNat:Int)))) (c.setCell (O g a) (.int .u8 (b.toNat:Int))).drew:=λb=>by have:=QA (w:=c.drew) k (by rw[o];exact B) (λj x=>(d j x).1) e b _ rfl;rw[o]at this;exact this
 have f:J<|Below w.heap.size w c/\w.heap.size<=g:=⟨l,m⟩;have H:Value.int .u8 (bits .xor .u8 ((toL s)[a].toNat:Int) (2 ^ j % 256))=.int .u8 ((jM (toL s)[a] j).toNat:Int):=by
  have i:(2:Nat) ^ j<256:=by have:(2:Nat) ^ j<2 ^ 8:=Nat.pow_lt_pow_right V n;exact this
  have y:((2:Int) ^ j % 256)=((2 ^ j:Nat):Int):=by
   have A:((2:Int) ^ j)=((2 ^ j:Nat):Int):=Ω
   rw[A,Int.emod_eq_of_lt (Int.natCast_nonneg _) (by exact_mod_cast i)]
  rw[y,u8_xor_nat _ _ (toL s)[a].toNat_lt i,yE _ n]
 clear q d l m k;go_enter func58,ntmps58;go_wp2_with fail;rw[t.o];go_wp2;refine wp_region_noPanic ?_
 go_region
 refine NoPanic.normal ?_;go_wp2_with fail;rw[r.o (jM (toL s)[a] j)];go_wp2;go_ret;exact⟨_,rfl,by rw[<- pO ((toL s).set a (jM (toL s)[a] j)),List.map_set],(f.o.1.setCell (p:=(O g a)) f.o.2 _).drew⟩
theorem CSpoil_bad(w:World)(x q b:Nat)(c:Value)(ds:List RepD)(a:List (Nat×ByteArray))(h:CluP w x q b c 0 ds a)(f o:Int)(l:¬(1<=f/\f<=a.length)):Calls prog 30 #[.pointer (some (z x)),.int .i64 f,.int .i64 o] w λe w'=>e=.returned (.int .i64 9)/\CluP w' x q b c 0 ds a/\Chg (λk=>k=x) w w':=by
 have t:w.cell? (z x)=some (.int .i32 0):=(h.blk.cell 0).trans rfl;have u:w.frozen? (z x)=false:=h.blk.frozen 0;have g:J<|CluP (w.setCell (z x) (.int .i32 1)) x q b c 1 ds a:=h.turn 1;have s:J<|Chg (λk=>k=x) w (w.setCell (z x) (.int .i32 1)):=dU (M:=λk=>k=x) rfl _;clear h;generalize j:w.setCell (z x) (.int .i32 1)=n at *;have m:J<|w.setCell (z x) (.int .i32 1)=n:=j;clear j;have i:J<|∀d,CluP d x q b c 1 ds a->Calls prog 55 #[.pointer (some (z x)),.int .i64 f] d λe w'=>e=.returned (.bool false)/\w'=d:=λd r=>by have:=fK d x q b c 1 ds a r f;rw[decide_eq_false l]at this;exact this
 clear l;go_enter_defers func30,ntmps30;go_wp2_with (go_at_call 43;refine(lock_free muLib (z x) _ t u).mono ?_;rintro e w'⟨rfl,rfl⟩);rw[m.o];refine ψ (i.o _ g.o) ?_;rintro e y⟨rfl,rfl⟩;clear i;go_wp2_with fail;refine leaves_cons (f:=44) (args:=#[.pointer (some (z x))]) Ω (by simp[go_sem]) ?_;refine(unlock_deferred muLib (z x) .returning _ ((g.o.blk.cell 0).trans rfl) (g.o.blk.frozen 0)).mono ?_;rintro e v A⟨rfl,rfl,rfl⟩;exact⟨_,results_tmp rfl _ _ _,rfl,g.o.turn 0,Chg.setCell (M:=λk=>k=x) (p:=(z x)) s.o rfl _⟩
theorem CSpoil_arg(w:World)(x q e:Nat)(g:Value)(ds:List RepD)(a:List (Nat×ByteArray))(i:CluP w x q e g 0 ds a)(k:Nat)(B:k<a.length)(m:Int)(A:m<0\/8*(a[k].2.size:Int)<=m)(a1:a[k].2.size<=900000):Calls prog 30 #[.pointer (some (z x)),.int .i64 ((k:Int)+1),.int .i64 m] w λh w'=>h=.returned (.int .i64 1)/\CluP w' x q e g 0 ds a/\Chg (λk=>k=x) w w':=by
 have C:w.cell? (z x)=some (.int .i32 0):=(i.blk.cell 0).trans rfl;have E:w.frozen? (z x)=false:=i.blk.frozen 0;have d:J<|CluP (w.setCell (z x) (.int .i32 1)) x q e g 1 ds a:=i.turn 1;have L:J<|Chg (λk=>k=x) w (w.setCell (z x) (.int .i32 1)):=dU (M:=λk=>k=x) rfl _;have W:=i.b500;clear i;generalize y:w.setCell (z x) (.int .i32 1)=b at *;have F:J<|w.setCell (z x) (.int .i32 1)=b:=y;clear y;have s:J<|∀l,CluP l x q e g 1 ds a->Calls prog 55 #[.pointer (some (z x)),.int .i64 ((k:Int)+1)] l λh w'=>h=.returned (.bool true)/\w'=l:=λl K=>by have:=fK l x q e g 1 ds a K ((k:Int)+1);rw[decide_eq_true V]at this;exact this
 obtain⟨r,c,j⟩:=own_some d.o.fr V;have R:b.cell? (O x 3)=some (.slice (some (z r)) a.length c):=by rw[<- j];exact(d.o.blk.cell 3).trans rfl
 have S:b.cell? (O r (k*2))=some (.int .i64 (a[k].1)):=by have:=d.o.fr;rw[j]at this;rw[this.cellAt (k*2) V];exact(mM a k B).1
 have T:b.cell? (O r (k*2+1))=some (.string a[k].2):=by have:=d.o.fr;rw[j]at this;rw[this.cellAt (k*2+1) V];exact(mM a k B).2
 have Y:IntKind.i64.wrap (k:Int)=(k:Int):=wrap_in _ V V;have Z:(0:Int)<=(k:Int):=V
 have a0:(k:Int)<(a.length:Int):=V
 have X:a.length<=c:=by obtain⟨P,Q,v,U⟩:=d.o.U7;rw[j]at v;simp only[Value.slice.injEq]at v;omega
 have G:J<|∀o,CluP (b.alloc o) x q e g 1 ds a/\Chg (λk=>k=x) w (b.alloc o):=λo=>⟨d.o.below ((φ _ b).alloc (χ _) o),L.o.below ((φ _ b).alloc (χ _) o)⟩;clear j;generalize a[k].1=u at *;generalize a[k].2=t at *;go_enter_defers func30,ntmps30;go_wp2_with (go_at_call 43;refine(lock_free muLib (z x) _ C E).mono ?_;rintro h w'⟨rfl,rfl⟩);rw[F.o];refine ψ (s.o _ d.o) ?_;rintro h D⟨rfl,rfl⟩;clear s C E;by_cases H:m<0
 rotate_left
 have A:=A.resolve_left H;all_goals
  go_wp2_with fail;obtain⟨n,N⟩:J (CluP (D.alloc (.cells #[.int .i64 u,.string t] 109)) x q e g 1 ds a)/\J (Chg (λk=>k=x) w (D.alloc (.cells #[.int .i64 u,.string t] 109))):=G.o _;refine leaves_cons (f:=44) (args:=#[.pointer (some (z x))]) Ω (by simp[go_sem]) ?_;refine(unlock_deferred muLib (z x) .returning _ ((n.o.blk.cell 0).trans rfl) (n.o.blk.frozen 0)).mono ?_;rintro h u' w9⟨rfl,rfl,rfl⟩;exact⟨_,results_tmp rfl _ _ _,rfl,n.o.turn 0,Chg.setCell (M:=λk=>k=x) (p:=(z x)) N.o rfl _⟩
theorem CSpoil_of(w:World)(x q d:Nat)(g:Value)(ds:List RepD)(bs:List (Nat×ByteArray))(v:CluP w x q d g 0 ds bs)(k:Nat)(hk:k<bs.length)(a j:Nat)(o:a<(toL bs[k].2).length)(hj:j<8)(l:Thk.Bs)(r:toL bs[k].2=sealL l)(ak:bs[k].2.size<=700000)(a1:bs[k].1<ds.length):Calls prog 30 #[.pointer (some (z x)),.int .i64 ((k:Int)+1),.int .i64 ((a*8+j:Nat):Int)] w λe w'=>e=.returned (.int .i64 9)/\CluP w' x q d g 0 ds bs/\Chg (λk=>k=x) w w':=by
 have k0:w.cell? (z x)=some (.int .i32 0):=(v.blk.cell 0).trans rfl;have z0:w.frozen? (z x)=false:=v.blk.frozen 0;have i:J<|CluP (w.setCell (z x) (.int .i32 1)) x q d g 1 ds bs:=v.turn 1;have jP:J<|Chg (λk=>k=x) w (w.setCell (z x) (.int .i32 1)):=dU (M:=λk=>k=x) rfl _;have af:=v.b500;clear v;generalize a0:w.setCell (z x) (.int .i32 1)=h at *;have U:J<|w.setCell (z x) (.int .i32 1)=h:=a0;clear a0;have R:J<|∀b,CluP b x q d g 1 ds bs->Calls prog 55 #[.pointer (some (z x)),.int .i64 ((k:Int)+1)] b λe w'=>e=.returned (.bool true)/\w'=b:=λb A=>by have:=fK b x q d g 1 ds bs A ((k:Int)+1);rw[decide_eq_true V]at this;exact this
 obtain⟨H,c,y⟩:=own_some i.o.fr V;have c3:h.cell? (O x 3)=some (.slice (some (z H)) bs.length c):=by rw[<- y];exact(i.o.blk.cell 3).trans rfl
 have a3:h.cell? (O H (k*2))=some (.int .i64 (bs[k].1)):=by have:=i.o.fr;rw[y]at this;rw[this.cellAt (k*2) V];exact(mM bs k hk).1
 have a4:h.cell? (O H (k*2+1))=some (.string bs[k].2):=by have:=i.o.fr;rw[y]at this;rw[this.cellAt (k*2+1) V];exact(mM bs k hk).2
 have a8:IntKind.i64.wrap (k:Int)=(k:Int):=wrap_in _ V V;have ag:(0:Int)<=(k:Int):=V
 have ai:(k:Int)<(bs.length:Int):=V
 have a7:bs.length<=c:=by obtain⟨ao,c',X,e2⟩:=i.o.U7;rw[y]at X;simp only[Value.slice.injEq]at X;omega
 have a9:(toL bs[k].2).length=bs[k].2.size:=by unfold toL;rw[Array.length_toList];(first|done|rfl)
 have aj:¬((a:Int)*8+(j:Int))<0:=V
 have ad:¬(8*(bs[k].2.size:Int))<=(a:Int)*8+(j:Int):=V
 have S:J<|∀b,Calls prog 58 #[.string bs[k].2,.int .i64 ((a:Int)*8+(j:Int))] b λe w'=>∃u,e=.returned (.string u)/\J (toL u=(toL bs[k].2).set a (jM (toL bs[k].2)[a] j))/\Below b.heap.size b w':=λb=>by have:=F6 b bs[k].2 a j o hj V;simp only[Int.natCast_add,Int.natCast_mul]at this;exact this
 have Q:J<|∀b u,CluP b x q d g 1 ds bs->toL u=(toL bs[k].2).set a (jM (toL bs[k].2)[a] j)->Calls prog 57 #[.pointer (some (z x)),.int .i64 (bs[k].1),.string u] b λe w'=>e=.returned (.tuple #[.int .i64 0,.int .i64 9])/\Below b.heap.size b w':=λb u A E=>by
  have ac:u.size<=900000:=by
   have h1:(toL u).length=u.size:=by unfold toL;rw[Array.length_toList];(first|done|rfl)
   rw[E,List.length_set]at h1;omega
  refine NR b x q d g ds bs A _ a1 u ac ?_;rw[E];have D:=Oh (toL bs[k].2)[a] hj;have ab:=DR l a (by rw[<- r];exact o) (jM (toL bs[k].2)[a] j) (by
   have h9:(sealL l)[a]'(by rw[<- r];exact o)=(toL bs[k].2)[a]:=by
    have Y:(sealL l)[a]?=(toL bs[k].2)[a]?:=by rw[r]
    rw[σ (by rw[<- r];exact o),σ o]at Y;exact Option.some.inj Y
   rw[h9];exact D)
  have h7:(toL bs[k].2).set a (jM (toL bs[k].2)[a] j)=(sealL l).set a (jM (toL bs[k].2)[a] j):=by generalize jM (toL bs[k].2)[a] j=tb;rw[r]
  rw[h7];exact ab
 have W:J<|∀B,CluP (h.alloc B) x q d g 1 ds bs/\Chg (λk=>k=x) w (h.alloc B):=λB=>⟨i.o.below ((φ _ h).alloc (χ _) B),jP.o.below ((φ _ h).alloc (χ _) B)⟩;have T:J<|∀b,CluP b x q d g 1 ds bs->Calls prog 58 #[.string bs[k].2,.int .i64 ((a:Int)*8+(j:Int))] b λe w'=>∃u,e=.returned (.string u)/\CluP w' x q d g 1 ds bs/\Below b.heap.size b w'/\∀s,CluP s x q d g 1 ds bs->Calls prog 57 #[.pointer (some (z x)),.int .i64 (bs[k].1),.string u] s λe w'=>e=.returned (.tuple #[.int .i64 0,.int .i64 9])/\Below s.heap.size s w':=λb A=>by refine ψ (S.o b) ?_;rintro e w'⟨u,rfl,E,D⟩;exact⟨u,rfl,A.below D,D,λs hy=>Q.o s u hy E.o⟩
 have ae:a<bs[k].2.size:=V
 clear y S Q r o a9 a1;generalize bs[k].1=t at *;generalize bs[k].2=C at *;go_enter_defers func30,ntmps30;go_wp2_with (go_at_call 43;refine(lock_free muLib (z x) _ k0 z0).mono ?_;rintro e w'⟨rfl,rfl⟩);rw[U.o];refine ψ (R.o _ i.o) ?_;rintro e n⟨rfl,rfl⟩;clear R k0 z0;go_wp2_with fail;have K:=W.o (.cells #[.int .i64 t,.string C] 109);have F:=ah.new n #[.int .i64 t,.string C] 109;clear W i jP;generalize a6:n.alloc (.cells #[.int .i64 t,.string C] 109)=m at *;have aa:n.heap.size<m.drew.heap.size:=F.lt;have d0:m.drew.cell? (z n.heap.size)=some (.int .i64 t):=(F.cell 0).trans rfl;have d1:m.drew.cell? (O n.heap.size 1)=some (.string C):=(F.cell 1).trans rfl;have hd:CluP m.drew x q d g 1 ds bs:=K.1.below (φ _ m).drew;have wI:J<|Chg (λk=>k=x) w m.drew:=K.2.below (φ _ m).drew;clear a6 F K c3 a3 a4 a8 a7 U;refine wp_region_noPanic ?_;go_region_with (go_simp;first|(refine ψ (T.o _ hd) ?_;rintro e w3⟨u,rfl,G,L,Z⟩;have a5:w3.cell? (z n.heap.size)=some (.int .i64 t):=(L.cell (p:=(z n.heap.size)) aa).trans d0)|(refine ψ (Z _ G) ?_;rintro e w4⟨rfl,N⟩));all_goals
  refine NoPanic.normal ?_;have P:J<|CluP w4 x q d g 1 ds bs:=G.below N;have a2:J<|Chg (λk=>k=x) w w4:=(wI.o.below L).below N;clear T hd d0 d1 a5 G L Z N;go_wp2_with fail;refine leaves_cons (f:=44) (args:=#[.pointer (some (z x))]) Ω (by simp[go_sem]) ?_;refine(unlock_deferred muLib (z x) .returning _ ((P.o.blk.cell 0).trans rfl) (P.o.blk.frozen 0)).mono ?_;rintro e u' w9⟨rfl,rfl,rfl⟩;exact⟨_,results_tmp rfl _ _ _,rfl,P.o.turn 0,Chg.setCell (M:=λk=>k=x) (p:=(z x)) a2.o rfl _⟩
