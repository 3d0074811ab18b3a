import Derived.Test.YtfmmllpjgkgeaabGreatDoorZ37
set_option linter.all false
set_option maxHeartbeats 0
set_option maxRecDepth 100000
namespace Go.Proofs.YtfmmllpjgkgeaabGreatDoor
section
open Go.Proofs.Tryz Go.RowKit
variable{s:Int}
def aa3{s' b a:Int}(d:0<=s/\s<4294967296)(f:0<=s'/\s'<4294967296)(g:0<=b/\b<256)(h:0<=a/\a<256)(e:bits .xor .u32 s b=bits .xor .u32 s' a):(b=a->s=s')/\(s=s'->b=a):=by
 rw[u32_xor s b d.1 d.2 g.1 V,u32_xor s' a f.1 f.2 h.1 V]at e;have c:s.toNat ^^^ b.toNat=s'.toNat ^^^ a.toNat:=V
 constructor
 .rintro rfl;have:=congrArg (· ^^^ b.toNat) c;simp only[Nat.xor_assoc,Nat.xor_self,Nat.xor_zero]at this;omega
 .rintro rfl;have:=congrArg (s.toNat ^^^ ·) c;simp only[<- Nat.xor_assoc,Nat.xor_self,Nat.zero_xor]at this;omega
def Yf{b:Int}(a:0<=s/\s<4294967296)(c:0<=b/\b<256):0<=bits .xor .u32 s b/\bits .xor .u32 s b<4294967296:=by rw[u32_xor s b a.1 a.2 c.1 V];have:s.toNat ^^^ b.toNat<2 ^ 32:=Nat.xor_lt_two_pow V V;omega
def Rx(x:Int):(x*16777619*899433627) % 4294967296=x % 4294967296:=by
 have h:(16777619:Int)*899433627=1+4294967296*3513497:=Ψ
 rw[Int.mul_assoc,h,Int.mul_add,Int.mul_one,Int.mul_left_comm,Int.add_mul_emod_self_left]
def aa4{x y:Int}(b:0<=x/\x<4294967296)(c:0<=y/\y<4294967296)(e:(x*16777619) % 4294967296=(y*16777619) % 4294967296):x=y:=by have a:=Rx x;have d:=Rx y;rw[Int.mul_emod,e,<- Int.mul_emod,d]at a;rw[Int.emod_eq_of_lt b.1 b.2,Int.emod_eq_of_lt c.1 c.2]at a;exact a.symm
def qF(s:Int)(b:UInt8):0<=gW s b/\gW s b<4294967296:=by unfold gW;omega
def aa5(b:UInt8):0<=(b.toNat:Int)/\(b.toNat:Int)<256:=by have:=b.toNat_lt;omega
def AP{s':Int}{b a:UInt8}(d:0<=s/\s<4294967296)(f:0<=s'/\s'<4294967296)(e:gW s b=gW s' a):(b=a->s=s')/\(s=s'->b=a):=by unfold gW at e;have g:=aa4 (Yf d (aa5 b)) (Yf f (aa5 a)) e;have c:=aa3 d f (aa5 b) (aa5 a) g;exact⟨λh=>c.1 (by rw[h]),λh=>UInt8.toNat_inj.1 (by have:=c.2 h;omega)⟩
def Nv:∀(q:Thk.Bs)(s s':Int),(0<=s/\s<4294967296)->(0<=s'/\s'<4294967296)->q.foldl gW s=q.foldl gW s'->s=s'
 | [],s,s',_,_,e=>e
 | b::q,s,s',h1,h2,e=>(AP h1 h2 (Nv q _ _ (qF s b) (qF s' b) e)).1 rfl
def Yg(l:Thk.Bs)(i:Nat)(h:i<l.length)(b:UInt8)(g:b≠l[i]):nU (l.set i b)≠nU l:=λe=>by
 have d:l=l.take i++l[i]::l.drop (i+1):=by rw[List.getElem_cons_drop,List.take_append_drop]
 have f:l.set i b=l.take i++b::l.drop (i+1):=List.set_eq_take_append_cons_drop.trans (ώ h);unfold nU at e;rw[f]at e
 conv at e=>rhs;rw[d]
 rw[List.foldl_append,List.foldl_append,List.foldl_cons,List.foldl_cons]at e;have a:0<=(l.take i).foldl gW 2166136261/\(l.take i).foldl gW 2166136261<4294967296:=yH (l.take i);have c:=Nv _ _ _ (qF _ b) (qF _ l[i]) e;exact g ((AP a a c).2 rfl)
def Nw:∀(k:Nat)(s s':Int),0<=s->0<=s'->s<256 ^ k->s'<256 ^ k->yI s k=yI s' k->s=s'
 | 0,s,s',h1,h2,h3,h4,_=>by simp at h3 h4;omega
 | k+1,s,s',h1,h2,h3,h4,e=>by
  unfold yI at e;have a:=(List.cons.inj e).1;have b:s / 256<256 ^ k:=by rw[Int.pow_succ]at h3;omega
  have c:s' / 256<256 ^ k:=by rw[Int.pow_succ]at h4;omega
  have d:=Nw k (s / 256) (s' / 256) V V b c (List.cons.inj e).2;have f:(s % 256).toNat=(s' % 256).toNat:=by have:=congrArg UInt8.toNat a;rw[UInt8.toNat_ofNat',UInt8.toNat_ofNat']at this;omega
  omega
def Ny(l:Thk.Bs)(i:Nat)(d:i<(bM l).length)(b:UInt8)(c:b≠(bM l)[i]):fB ((bM l).set i b)=none:=by
 have p:=gJ l;unfold fB;rw[List.length_set,p,Nat.add_sub_cancel];refine ύ λ⟨_,e⟩=>?_;by_cases h:i<l.length
 .have f:(bM l).set i b=l.set i b++yI (nU l) 4:=by unfold bM;rw[List.set_append_left _ _ h]
  have a:((bM l).set i b).take l.length=l.set i b:=by rw[f,List.take_append_of_le_length Ω,ϑg Ω]
  rw[a,f]at e;unfold bM at e;have m:=List.append_cancel_left e;have j:=yH l;have k:=yH (l.set i b);have n:=Nw 4 _ _ k.1 j.1 V V m;have o:(bM l)[i]=l[i]:=by
   have g:(bM l)[i]?=l[i]?:=by unfold bM;rw[ε h]
   rw[σ d,σ h]at g;exact Option.some.inj g
  rw[o]at c;exact Yg l i h b c n
 .have a:((bM l).set i b).take l.length=l:=by rw[List.take_set_of_le V];unfold bM;rw[List.take_append_of_le_length (χ _),ϑm]
  rw[a]at e;apply c;have:=congrArg (λx=>x[i]?) e;simp only[σ d]at this;rw[List.getElem?_set,ώ rfl,ώ d]at this;exact(Option.some.inj this).symm
end
section
open Go.Proofs.Tryz Go.RowKit Go.Maps Go.WideMaps Go.MuLone Go.Deep
def U0(w:World)(s:ByteArray):∃g cap w',(convert 9 190 (.string s)).run prog w=.ok (.slice (some (z g)) s.size cap) w'/\s.size<=cap/\w.heap.size<=g/\U8 w' g/\(∀j(p:j<(ay s).length),w'.cell? (O g j)=some (.int .u8 ((ay s)[j].toNat:Int))/\w'.frozen? (O g j)=false)/\Below w.heap.size w w':=by
 obtain⟨v,w',c,o,i⟩:=LH w s;have e:=run_bytes_of_string (P:=prog) w 9 190 5 s underlying9 underlying190 underlying5;have q:=grownCap_ge w s.size 0 5;have f:=c.symm.trans e;have n:(ay s).length=s.size:=by unfold ay;rw[Array.length_toList];(first|done|rfl)
 generalize grownCap w s.size 0 5=cap at *;have r:(bytesRow s cap).size=cap:=by unfold bytesRow;rw[Array.size_append,Array.size_map,Array.size_replicate];have:s.data.size=s.size:=rfl;omega
 obtain⟨g,a,d,l,h,b,k,_⟩:=o.ex;rw[n]at d b;subst d;injection f with e1 e2;simp only[ϑa,ϑb,ϑz]at e1;obtain⟨⟨rfl,_⟩,_,rfl⟩:=e1;refine⟨_,_,w',c,b,l,h,λj m=>⟨k j m, ?_⟩,i⟩;rw[e2];refine Eq.trans (World.frozen?_alloc_mark w.drew (bytesRow s a) 5 (bytesRow s a).size ((bytesRow s a).size+1) j) ?_;simp;omega
def aa6{w:World}{g a k:Nat}{l:Thk.Bs}(p:U8 w g)(x:l.length<=a)(q:∀j(h:j<l.length),w.cell? (O g j)=some (.int .u8 (l[j].toNat:Int)))(m:k<l.length)(b:UInt8)(v:Value)(t:v=.int .u8 (b.toNat:Int)):(convert 190 9 (.slice (some (z g)) l.length a)).run prog (w.setCell (O g k) v)=.ok (.string (strOfNums ((l.set k b).map λb=>(b.toNat:Int)))) (w.setCell (O g k) v):=by
 obtain⟨n,u,c⟩:=p;subst t;have e:∀j(h:j<l.length),n[j]?=some (.int .u8 (l[j].toNat:Int)):=λj h=>by have:=q j h;simpa[World.cell?,c]using this
 have o:=run_convert_bytes_arg (P:=prog) (w.setCell (O g k) (.int .u8 (b.toNat:Int))) 190 5 underlying190 underlying5 g 0 l.length a ((l.set k b).map λb=>(b.toNat:Int)) Ω (λi r=>?_) 9 underlying9
 .exact o
 .have f:i<l.length:=by simpa using r
  have s:=(Array.getElem?_eq_some_iff.1 (e k m)).1;rw[Nat.zero_add];by_cases d:k=i
  .subst d;simp[World.cell?,World.setCell,μ,c,s];rw[List.getElem?_set,ώ rfl,ώ (by simpa using m)];(first|done|rfl)
  .have:=e i f;simp[World.cell?,World.setCell,μ,c,d,ϑi,this];rw[σ f];(first|done|rfl)
def pq(b:UInt8)(j:Nat):UInt8:=UInt8.ofNat (b.toNat ^^^ 2 ^ j)
def GX(b:UInt8){j:Nat}(d:j<8):(pq b j).toNat=b.toNat ^^^ 2 ^ j:=by have a:2 ^ j<2 ^ 8:=Nat.pow_lt_pow_right V d;have c:=Nat.xor_lt_two_pow b.toNat_lt a;unfold pq;rw[UInt8.toNat_ofNat'];exact Nat.mod_eq_of_lt c
def Yh(b:UInt8){j:Nat}(c:j<8):pq b j≠b:=λe=>by have h:=GX b c;rw[e]at h;have a:=congrArg (b.toNat ^^^ ·) h;simp only[<- Nat.xor_assoc,Nat.xor_self,Nat.zero_xor]at a;have:=Nat.two_pow_pos j;omega
def Qn(w:World)(s:ByteArray)(a j:Nat)(e:a<(ay s).length)(m:j<8)(G:s.size<=900000):Calls prog 99 #[.string s,I ((a*8+j:Nat):Int)] w λv w'=>∃u,v=.returned (.string u)/\ay u=(ay s).set a (pq (ay s)[a] j)/\Below w.heap.size w w':=by
 obtain⟨g,t,d,o,B,l,i,c,k⟩:=U0 w s;have n:(ay s).length=s.size:=by unfold ay;rw[Array.length_toList];(first|done|rfl)
 have C:=(c a e).1;have K:=(c a e).2;have E:Int.tdiv ((a:Int)*8+(j:Int)) 8=(a:Int):=by rw[Int.tdiv_eq_ediv_of_nonneg V];omega
 have F:Int.tmod ((a:Int)*8+(j:Int)) 8=(j:Int):=by rw[Int.tmod_eq_emod_of_nonneg V];omega
 have D:(a:Int)<(s.size:Int):=V
 have r:=ω o;have q:J<|∀(b:UInt8),(convert 190 9 (.slice (some (z g)) s.size t)).run prog (d.setCell (O g a) (.int .u8 (b.toNat:Int))).drew=.ok (.string (strOfNums (((ay s).set a b).map λb=>(b.toNat:Int)))) (d.setCell (O g a) (.int .u8 (b.toNat:Int))).drew:=λb=>by have:=aa6 (w:=d.drew) i (by rw[n];exact B) (λj x=>(c j x).1) e b _ rfl;rw[n]at this;exact this
 have f:J<|Below w.heap.size w d/\w.heap.size<=g:=⟨k,l⟩;have H:Value.int .u8 (bits .xor .u8 ((ay s)[a].toNat:Int) (2 ^ j % 256))=.int .u8 ((pq (ay s)[a] j).toNat:Int):=by
  have h:(2:Nat) ^ j<256:=by have:(2:Nat) ^ j<2 ^ 8:=Nat.pow_lt_pow_right V m;exact this
  have y:((2:Int) ^ j % 256)=((2 ^ j:Nat):Int):=by
   have A:((2:Int) ^ j)=((2 ^ j:Nat):Int):=Ω
   rw[A,Int.emod_eq_of_lt (Int.natCast_nonneg _) (by exact_mod_cast h)]
  rw[y,u8_xor_nat _ _ (ay s)[a].toNat_lt h,GX _ m]
 clear o c k l i;go_enter func99,ntmps99;go_wp2_with fail;rw[r.o];go_wp2;refine wp_region_noPanic ?_
 go_region
 refine NoPanic.normal ?_;go_wp2_with fail;rw[q.o (pq (ay s)[a] j)];go_wp2;go_ret;exact⟨_,rfl,by rw[<- yJ ((ay s).set a (pq (ay s)[a] j)),List.map_set],(f.o.1.setCell (p:=(O g a)) f.o.2 _).drew⟩
def Qo(w:World)(x q c:Nat)(g:Value)(ds:List bI)(a:List (Nat×ByteArray))(h:aV w x q c g 0 ds a)(f n:Int)(l:¬(1<=f/\f<=a.length)):Calls prog 49 #[.pointer (some (z x)),I f,I n] w λe w'=>e=.returned (I 9)/\aV w' x q c g 0 ds a/\aA (λk=>k=x) w w':=by
 have r:w.cell? (z x)=some (.int .i32 0):=(h.blk.cell 0).trans rfl;have t:=h.blk.frozen 0;have d:=ω<|h.turn 1
 have s:J<|aA (λk=>k=x) w (w.setCell (z x) (.int .i32 1)):=gZ (M:=λk=>k=x) rfl _;clear h;generalize j:w.setCell (z x) (.int .i32 1)=u at *;have m:=ω j;clear j;have i:J<|∀b,aV b x q c g 1 ds a->Calls prog 42 #[.pointer (some (z x)),I f] b λe w'=>e=.returned (.bool false)/\w'=b:=λb o=>by have:=jV b x q c g 1 ds a o f;rw[decide_eq_false l]at this;exact this
 clear l;go_enter_defers func49,ntmps49;go_wp2_with (go_at_call 30;refine(lock_free muLib (z x) _ r t).mono ?_;rintro e w'⟨rfl,rfl⟩);rw[m.o];refine ψ (i.o _ d.o) ?_;rintro e y⟨rfl,rfl⟩;clear i;go_wp2_with fail;refine leaves_cons (f:=31) (args:=#[.pointer (some (z x))]) Ω (by simp[go_sem]) ?_;refine(unlock_deferred muLib (z x) .returning _ ((d.o.blk.cell 0).trans rfl) (d.o.blk.frozen 0)).mono ?_;rintro e v A⟨rfl,rfl,rfl⟩;exact⟨_,results_tmp rfl _ _ _,rfl,d.o.turn 0,aA.setCell (M:=λk=>k=x) (p:=(z x)) s.o rfl _⟩
def Qp(w:World)(x q e:Nat)(h:Value)(ds:List bI)(a:List (Nat×ByteArray))(i:aV w x q e h 0 ds a)(k:Nat)(B:k<a.length)(m:Int)(A:m<0\/8*(a[k].2.size:Int)<=m)(a1:a[k].2.size<=900000):Calls prog 49 #[.pointer (some (z x)),I ((k:Int)+1),I m] w λg w'=>g=.returned (I 1)/\aV w' x q e h 0 ds a/\aA (λk=>k=x) w w':=by
 have C:w.cell? (z x)=some (.int .i32 0):=(i.blk.cell 0).trans rfl;have E:=i.blk.frozen 0;have d:=ω<|i.turn 1
 have N:J<|aA (λk=>k=x) w (w.setCell (z x) (.int .i32 1)):=gZ (M:=λk=>k=x) rfl _;have X:=i.FK;clear i;generalize y:w.setCell (z x) (.int .i32 1)=b at *;have G:=ω y;clear y;have s:J<|∀l,aV l x q e h 1 ds a->Calls prog 42 #[.pointer (some (z x)),I ((k:Int)+1)] l λg w'=>g=.returned (.bool true)/\w'=l:=λl L=>by have:=jV l x q e h 1 ds a L ((k:Int)+1);rw[decide_eq_true V]at this;exact this
 obtain⟨r,c,j⟩:=dK d.o.fr V;have S:b.cell? (O x 3)=some (.slice (some (z r)) a.length c):=by rw[<- j];exact(d.o.blk.cell 3).trans rfl
 have T:b.cell? (O r (k*2))=some (I (a[k].1)):=by have:=d.o.fr;rw[j]at this;rw[this.cellAt (k*2) V];exact(tZ a k B).1
 have U:b.cell? (O r (k*2+1))=some (.string a[k].2):=by have:=d.o.fr;rw[j]at this;rw[this.cellAt (k*2+1) V];exact(tZ a k B).2
 have Z:IntKind.i64.wrap (k:Int)=(k:Int):=wrap_in _ V V;have a0:(0:Int)<=(k:Int):=V
 have P:(k:Int)<(a.length:Int):=V
 have Y:a.length<=c:=by obtain⟨Q,R,v,W⟩:=d.o.fvS;rw[j]at v;simp only[ϑa]at v;omega
 have H:J<|∀o,aV (b.alloc o) x q e h 1 ds a/\aA (λk=>k=x) w (b.alloc o):=λo=>⟨d.o.below ((φ _ b).alloc (χ _) o),N.o.below ((φ _ b).alloc (χ _) o)⟩;clear j;generalize a[k].1=u at *;generalize a[k].2=t at *;go_enter_defers func49,ntmps49;go_wp2_with (go_at_call 30;refine(lock_free muLib (z x) _ C E).mono ?_;rintro g w'⟨rfl,rfl⟩);rw[G.o];refine ψ (s.o _ d.o) ?_;rintro g D⟨rfl,rfl⟩;clear s C E;by_cases K:m<0
 rotate_left
 have A:=A.resolve_left K;all_goals
  go_wp2_with fail;obtain⟨n,F⟩:J (aV (D.alloc (.cells #[I u,.string t] 108)) x q e h 1 ds a)/\J (aA (λk=>k=x) w (D.alloc (.cells #[I u,.string t] 108))):=H.o _;refine leaves_cons (f:=31) (args:=#[.pointer (some (z x))]) Ω (by simp[go_sem]) ?_;refine(unlock_deferred muLib (z x) .returning _ ((n.o.blk.cell 0).trans rfl) (n.o.blk.frozen 0)).mono ?_;rintro g u' w9⟨rfl,rfl,rfl⟩;exact⟨_,results_tmp rfl _ _ _,rfl,n.o.turn 0,aA.setCell (M:=λk=>k=x) (p:=(z x)) F.o rfl _⟩
