import Derived.Test.YtfmmllpjgkgeaaaGreatDoorPartS18
set_option linter.unusedVariables false
set_option linter.unusedSimpArgs false
set_option maxHeartbeats 16000000
set_option maxRecDepth 100000
namespace Go.Proofs.YtfmmllpjgkgeaaaGreatDoor
section
open Go.Proofs.Tryz Go.RowKit Go.Maps
variable{B:Nat}{v:Value}{w:World}
def dH(s:Int)(b:UInt8):Int:=(bits .xor .u32 s (b.toNat:Int)*16777619) % 4294967296
def jf(l:Thk.Bs):Int:=l.foldl dH 2166136261
theorem qI(l:Thk.Bs)(b:UInt8):jf (l++[b])=dH (jf l) b:=by unfold jf;rw[List.foldl_append];(first|done|rfl)
theorem pJ(l:Thk.Bs):0<=jf l/\jf l<4294967296:=by
 rcases List.eq_nil_or_concat l with rfl|⟨m,b,rfl⟩
 .decide
 .rw[List.concat_eq_append,qI];unfold dH;omega
theorem Jb{l:Thk.Bs}(h:aH B w v l):∃c a,v=.slice c l.length a/\(0<l.length->∃g,c=some (z g)/\l.length<=a):=by
 obtain⟨_,⟨d,b⟩|⟨g,a,f,b,i,_,e,_⟩⟩:=h
 .exact⟨none,0,by rw[d,b],λh=>V⟩
 .exact⟨_,a,b,λ_=>⟨g,rfl,e⟩⟩
theorem sum_any(B:Nat)(w:World)(v:Value)(l:Thk.Bs)(h:aH B w v l)(D:l.length<=1000000000):Calls prog 219 #[v] w λj t=>j=.returned (.int .u32 (jf l))/\t=w:=by
 obtain⟨g,i,rfl,p⟩:=Jb h;have H:J<|aH B w (.slice g l.length i) l:=h;clear h;go_enter func219,ntmps219;go_wp2_with fail;go_loopw [3,8] (λr a wr=>∃(k:Nat)(s:Int),a=.int .i64 k/\r=.int .u32 s/\k<=l.length/\J (s=jf (l.take k))/\wr=w) (λ_ a _=>l.length-(intOf a).toNat);case atStart=>exact⟨0,2166136261,rfl,rfl,V,rfl,rfl⟩
 case round =>
  obtain⟨k,s,rfl,rfl,C,Hs,e⟩:=hrel;rw[e];clear e;by_cases d:k<l.length
  .obtain⟨m,n,A⟩:=p V;subst n;have o:(k:Int)<(l.length:Int):=V
   have x:w.cell? (O m k)=some (.int .u8 (l[k].toNat:Int)):=by rw[H.o.cellAt k V];simp[iQ,d]
   have f:J<|jf (l.take (k+1))=dH s l[k]:=ω<|by rw[ν d,qI,<- Hs.o]
   have y:l[k].toNat<256:=UInt8.toNat_lt _;clear Hs;have u:J<|∀b:UInt8,dH s b=(bits .xor .u32 s (b.toNat:Int)*16777619) % 4294967296:=λb=>rfl;generalize l[k]=b at *;go_wp2;go_roundw;case rel=>exact⟨k+1,_,by first|rfl|go_num,rfl,V,by unfold J;rw[f.o];exact(u.o b).symm,by first|rfl|trivial⟩
   case measure=>simp[intOf]<;>omega
  .have o:¬(k:Int)<(l.length:Int):=V
   have c:k=l.length:=V
   have q:J<|s=jf l:=ω<|by rw[Hs.o,c,List.take_length]
   clear c Hs;go_wp2;go_ret;exact⟨by rw[q.o];rfl,rfl⟩
def pK(s:Int):Nat->Thk.Bs
 | 0=>[]
 | k+1=>UInt8.ofNat (s % 256).toNat::pK (s / 256) k
def sealL(l:Thk.Bs):Thk.Bs:=l++pK (jf l) 4
theorem uT(B:Nat)(w:World)(v:Value)(l:Thk.Bs)(h:aH B w v l)(G:B<=w.heap.size)(hl:l.length<=1000000):Calls prog 163 #[v] w λe w'=>∃a3,e=.returned a3/\aH B w' a3 (sealL l)/\aY B w w':=by
 obtain⟨R,H,N,P,Q⟩:=info_parts Tryz.infoU8;have n:J<|Calls prog 219 #[v] w λe w'=>e=.returned (.int .u32 (jf l))/\w'=w:=sum_any B w v l h V;have i:J<|aH B w v l/\aY B w w:=⟨h,aY.refl _ _⟩;have d:=pJ l;clear h;go_enter func163,ntmps163;go_wp2_with fail;refine ψ n.o ?_;rintro e W⟨rfl,o⟩;rw[o];clear o W n;go_wp2_with fail;go_loopw [0,3,6] (λT U b wr=>∃(k:Nat)(s:Int)(g:Value)(m:Thk.Bs),g=T/\b=.int .i64 k/\U=.int .u32 s/\k<=4/\0<=s/\s<4294967296/\m.length=l.length+k/\J (sealL l=m++pK s (4-k))/\J (aH B wr g m/\aY B w wr)) (λ_ _ b _=>4-(intOf b).toNat);case atStart=>exact⟨0,jf l,v,l,rfl,rfl,rfl,V,d.1,d.2,V,rfl,i⟩
 case round =>
  clear i d;obtain⟨k,s,g,m,M,rfl,rfl,Y,a1,a2,a0,c,a⟩:=hrel;subst M;by_cases Z:k<4
  .have K:(k:Int)<4:=V
   have f:=a.o.1;have X:B<=wr.heap.size:=ς G a.o.2.size;have E:m.length+1<=maxLen:=by unfold maxLen;omega
   have F:(m.length+1)*1<=140737488355328:=V
   unfold aH at f;go_wp2_with (first|(at_builtin;go_loud (refine wpList_append_own_at _ rfl (.tmp 8) (.tmp 11) 93 rfl B 5 R (.int .u8 0) 1 1 underlying93 H N P Q rfl Ψ _ _ _ rfl (f.alloc _) (z wr.heap.size) 1 1 [.int .u8 (s % 256)] rfl rfl (cell_one_new _ _ _) (by intro u t;simp at t;subst t;rfl) E F Θ ?_);intro b x r p L S;have j:=aY.app a.o.1 p;clear p S));have y:J<|sealL l=(m++[UInt8.ofNat (s % 256).toNat])++pK (s / 256) (4-(k+1)):=ω<|by rw[c.o,(V:4-k=(4-(k+1))+1)];show m++(UInt8.ofNat (s % 256).toNat::pK (s / 256) (4-(k+1)))=_;simp
   have A:J<|aH B x b (m++[UInt8.ofNat (s % 256).toNat])/\aY B w x:=by
    refine⟨?_,a.o.2.trans j⟩;have D:iQ (m++[UInt8.ofNat (s % 256).toNat])=iQ m++[.int .u8 (s % 256)]:=by rw[dZ];simp[iQ,UInt8.toNat_ofNat'];omega
    unfold aH;rw[D,ρ];exact r
   clear r j f a c L;go_roundw;case rel=>exact⟨k+1,s / 256,b,m++[UInt8.ofNat (s % 256).toNat],rfl,by first|rfl|go_num,rfl,V,V,V,Θ,y,A⟩
   case measure=>simp[intOf]<;>omega
  .have K:¬(k:Int)<4:=V
   have q:4-k=0:=V
   have C:J<|sealL l=m:=ω<|by rw[c.o,q];show m++[]=m;simp
   clear q c;go_wp2;go_ret;exact⟨_,rfl,by rw[C.o];exact a.o.1,a.o.2⟩
theorem BX(s:Int):∀k,(pK s k).length=k:=by
 intro k;induction k generalizing s with
 | zero=>rfl
 | succ k a=>show(pK (s / 256) k).length+1=k+1;rw[a]
theorem sealL_len(l:Thk.Bs):(sealL l).length=l.length+4:=by unfold sealL;rw[ρ,BX]
def dI(l:Thk.Bs):Option Thk.Bs:=if 4<=l.length/\sealL (l.take (l.length-4))=l then some (l.take (l.length-4))else none
theorem rD(l:Thk.Bs):dI (sealL l)=some l:=by
 have a:=sealL_len l;have b:(sealL l).take ((sealL l).length-4)=l:=by rw[a,Nat.add_sub_cancel];unfold sealL;rw[List.take_left]
 unfold dI;rw[b,ώ ⟨V,rfl⟩]
structure jY(B:Nat)(w:World)(v:Value)(l:Thk.Bs):Prop where
 ex:∃g cap,v=.slice (some (z g)) l.length cap/\B<=g/\U8 w g/\l.length<=cap/\(∀j(h:j<l.length),w.cell? (O g j)=some (.int .u8 (l[j].toNat:Int)))/\∀j,l.length<=j->j<cap->(w.cell? (O g j)).isSome=true/\w.frozen? (O g j)=false
theorem Q7{g:Nat}(h:U8 w g):g<w.heap.size:=by obtain⟨a,b,h⟩:=h;exact(Array.getElem?_eq_some_iff.1 h).1
theorem jY.alloc{l:Thk.Bs}(h:jY B w v l)(o:Obj):jY B (w.alloc o) v l:=by
 obtain⟨g,d,i,k,c,m,n,q⟩:=h.ex;have a:Below w.heap.size w (w.alloc o):=(φ _ w).alloc (χ _) o;have b:=Q7 c;refine⟨g,d,i,k, ?_,m,λj u=>(a.cell (p:=(O g j)) b).trans (n j u),λj r s=>?_⟩
 .obtain⟨e,f,t⟩:=c;exact⟨e,f,(a.block g b).trans t⟩
 .have:=q j r s;rw[a.cell (p:=(O g j)) b,World.frozen?_of_block (a.block g b)];exact this
theorem jY.own{l:Thk.Bs}(h:aH B w v l)(d:l≠[]):jY B w v l:=by
 have k:=λg(n:v.ownBlock=some g)=>h.cells n;obtain⟨y,⟨q,e⟩|⟨g,c,b,rfl,f,a,i,s,t,u⟩⟩:=h
 .exact absurd (List.eq_nil_of_length_eq_zero e) d
 .refine⟨g,c,rfl,f,⟨b,_,a⟩,i,λj o=>?_,λj x r=>?_⟩
  .have:=k g rfl j (.int .u8 (l[j].toNat:Int)) (by unfold iQ;simp[o]);rw[Addr.add_lit,Nat.zero_add]at this;exact this
  .have p:j<b.size:=V
   have m:w.frozen? (O g j)=false:=by simp[World.frozen?,a]
   refine⟨?_,m⟩;simp[World.cell?,a,p]
theorem jY.append{l:Thk.Bs}(r:jY B w v l)(Z:B<=w.heap.size){P:Array Oper}{R:List Oper}{o:Oper}{a:Act}{Q:Exit->Act->World->Prop}(hg:o.guard=none)(s x:Operand)(a3:o.op=Op.call { callee:=Callee.builtin Builtin.append,args:=#[s,x],argTypes:=#[93,93] })(hs:a.eval s=v)(q:Addr)(c:Nat)(b:UInt8)(hx:a.eval x=.slice (some q) 1 c)(hc:∀j u,([.int .u8 (b.toNat:Int)]:List Value)[j]?=some u->w.cell? (q.add j)=some u)(hl:l.length<=1000000)(K:∀h e,jY B e h (l++[b])->aY B w e->wpList prog P Q R (a.put o.dst h) e):wpList prog P Q (o::R) a w:=by
 obtain⟨i0,hi,a5,a6,a7⟩:=info_parts Tryz.infoU8;obtain⟨g,i,X,D,t,h4,E,y⟩:=r.ex;have G:=Q7 t;have a2:∀j u,(iQ l)[j]?=some u->w.cell? (O g (0+j))=some u:=λj u f=>by
  have d:j<l.length:=by have:=(List.getElem?_eq_some_iff.1 f).1;rw[Gz]at this;exact this
  rw[Nat.zero_add,E j d,<- f];simp[iQ,d]
 refine wpList_append_arg w hg s x 93 a3 5 i0 (.int .u8 0) 1 1 underlying93 hi a5 a6 a7 rfl Ψ g 0 l.length i (iQ l) (by rw[hs,X]) (by rw[Gz];omega) a2 q 1 c [.int .u8 (b.toNat:Int)] hx Ω hc (by intro u f;simp at f;subst f;rfl) ?_ (by unfold maxLen;omega) V ?_ ?_
 .intro N j d;have:j=0:=by simpa using d
  subst this;rw[(V:0+l.length*1+0=l.length)];exact y l.length (χ _) V
 .intro N;have a0:=y l.length (χ _) V;have hw:w.setCells g (0+l.length*1) [.int .u8 (b.toNat:Int)]=w.setCell (O g l.length) (.int .u8 (b.toNat:Int)):=by rw[(V:0+l.length*1=l.length)];(first|done|rfl)
  rw[hw];obtain⟨u0,a4⟩:=Option.isSome_iff_exists.1 a0.1;refine K _ _ ⟨g,i,by rw[ρ];rfl,D, ?_,by rw[ρ];exact N,λj d=>?_,λj F Y=>?_⟩ ?_
  .obtain⟨A,fz,n⟩:=t;refine⟨A.setIfInBounds l.length (.int .u8 (b.toNat:Int)),fz, ?_⟩;have hq:w.heap[g]=.cells A 5 fz:=by rw[Array.getElem?_eq_getElem G]at n;exact Option.some.inj n
   simp[World.setCell,G,Array.getElem_modify,hq]
  .rw[ρ]at d;by_cases m:j=l.length
   .subst m;rw[cs_same a4];simp
   .have H:j<l.length:=by simp at d;omega
    rw[cs_oth (υ (λr=>m r.symm)),E j H,List.getElem_append_left H]
  .rw[ρ]at F;have a8:l.length+1<=j:=F;have C:=y j V Y;rw[cs_oth (υ V)];refine⟨C.1, ?_⟩;rw[<- C.2];exact World.frozen?_setCell _ _ _ _
  .refine Chg.setCell (M:=λk=>B<=k/\U8 w k) (Chg.refl _ w) (p:=(O g l.length)) ⟨D,t⟩ _
 .intro a9 h e L a1;have hO:aH B e h (l++[b]):=by
   have n:iQ (l++[b])=iQ l++[.int .u8 (b.toNat:Int)]:=by rw[dZ];(first|done|rfl)
   unfold aH;rw[n,ρ];exact⟨L.1,L.2.imp id λ⟨g,i,S,T,U,W⟩=>⟨g,i,S,T,ς Z U,W⟩⟩
  exact K h e (jY.own hO Ω) ((Chg.refl _ w).grown a1 (λk m=>by cases m))
theorem PV(B:Nat)(w:World)(v:Value)(l:Thk.Bs)(h:jY B w v l)(F:l.length<=1000000000):Calls prog 219 #[v] w λi u=>i=.returned (.int .u32 (jf l))/\u=w:=by
 obtain⟨m,y,rfl,n,o,D,c,p⟩:=h.ex;have H:J<|∀j(h:j<l.length),w.cell? (O m j)=some (.int .u8 (l[j].toNat:Int)):=c;clear h n o c p;go_enter func219,ntmps219;go_wp2_with fail;go_loopw [3,8] (λt a wr=>∃(k:Nat)(s:Int),a=.int .i64 k/\t=.int .u32 s/\k<=l.length/\J (s=jf (l.take k))/\wr=w) (λ_ a _=>l.length-(intOf a).toNat);case atStart=>exact⟨0,2166136261,rfl,rfl,V,rfl,rfl⟩
 case round =>
  obtain⟨k,s,rfl,rfl,E,Hs,f⟩:=hrel;rw[f];clear f;by_cases e:k<l.length
  .have q:(k:Int)<(l.length:Int):=V
   have A:=H.o k e;have g:J<|jf (l.take (k+1))=dH s l[k]:=ω<|by rw[ν e,qI,<- Hs.o]
   have C:l[k].toNat<256:=UInt8.toNat_lt _;clear Hs;have x:J<|∀b:UInt8,dH s b=(bits .xor .u32 s (b.toNat:Int)*16777619) % 4294967296:=λb=>rfl;generalize l[k]=b at *;go_wp2;go_roundw;case rel=>exact⟨k+1,_,by first|rfl|go_num,rfl,V,by unfold J;rw[g.o];exact(x.o b).symm,by first|rfl|trivial⟩
   case measure=>simp[intOf]<;>omega
  .have q:¬(k:Int)<(l.length:Int):=V
   have d:k=l.length:=V
   have r:J<|s=jf l:=ω<|by rw[Hs.o,d,List.take_length]
   clear d Hs;go_wp2;go_ret;exact⟨by rw[r.o];rfl,rfl⟩
theorem L8(B:Nat)(w:World)(v:Value)(l:Thk.Bs)(h:jY B w v l)(E:B<=w.heap.size)(Q:l.length<=900000):Calls prog 163 #[v] w λe w'=>∃x,e=.returned x/\jY B w' x (sealL l)/\aY B w w':=by
 have n:J<|Calls prog 219 #[v] w λe w'=>e=.returned (.int .u32 (jf l))/\w'=w:=PV B w v l h V;have i:J<|jY B w v l/\aY B w w:=⟨h,aY.refl _ _⟩;have f:=pJ l;clear h;go_enter func163,ntmps163;go_wp2_with fail;refine ψ n.o ?_;rintro e L⟨rfl,p⟩;rw[p];clear p L n;go_wp2_with fail;go_loopw [0,3,6] (λH K c wr=>∃(k:Nat)(s:Int)(g:Value)(m:Thk.Bs),g=H/\c=.int .i64 k/\K=.int .u32 s/\k<=4/\0<=s/\s<4294967296/\m.length=l.length+k/\J (sealL l=m++pK s (4-k))/\J (jY B wr g m/\aY B w wr)) (λ_ _ c _=>4-(intOf c).toNat);case atStart=>exact⟨0,jf l,v,l,rfl,rfl,rfl,V,f.1,f.2,V,rfl,i⟩
 case round =>
  clear i f;obtain⟨k,s,g,m,G,rfl,rfl,N,S,T,R,d,a⟩:=hrel;subst G;by_cases P:k<4
  .have F:(k:Int)<4:=V
   have u:=a.o.1;have M:B<=wr.heap.size:=ς E a.o.2.size;obtain⟨b,q⟩:∃b:UInt8,(b.toNat:Int)=s % 256:=⟨UInt8.ofNat (s % 256).toNat,by rw[UInt8.toNat_ofNat'];omega⟩;have j:J<|b=UInt8.ofNat (s % 256).toNat:=ω<|by apply UInt8.toNat_inj.1;rw[UInt8.toNat_ofNat'];omega
   go_wp2_with (first|(at_builtin;go_loud (refine jY.append (u.alloc _) Θ rfl (.tmp 8) (.tmp 11) rfl rfl (z wr.heap.size) 1 b rfl (by rw[q];exact cell_one_new _ _ _) V ?_);intro c y t o));have A:J<|sealL l=(m++[b])++pK (s / 256) (4-(k+1)):=ω<|by rw[d.o,(V:4-k=(4-(k+1))+1),j.o];show m++(UInt8.ofNat (s % 256).toNat::pK (s / 256) (4-(k+1)))=_;simp
   have C:J<|jY B y c (m++[b])/\aY B w y:=⟨t,a.o.2.trans ((aY.of_below ((φ _ wr).alloc (χ _) _)).trans o)⟩;clear t o u a d q j;go_roundw;case rel=>exact⟨k+1,s / 256,c,m++[b],rfl,by first|rfl|go_num,rfl,V,V,V,Θ,A,C⟩
   case measure=>simp[intOf]<;>omega
  .have F:¬(k:Int)<4:=V
   have r:4-k=0:=V
   have D:J<|sealL l=m:=ω<|by rw[d.o,r];show m++[]=m;simp
   clear r d;go_wp2;go_ret;exact⟨_,rfl,by rw[D.o];exact a.o.1,a.o.2⟩
theorem BZ{l:Thk.Bs}(h:jY B w v l):(convert 93 9 v).run prog w=.ok (.string (strOfNums (l.map λb=>(b.toNat:Int)))) w:=by
 obtain⟨g,c,rfl,f,j,m,d,k⟩:=h.ex;refine run_convert_bytes_arg (P:=prog) _ 93 5 underlying93 underlying5 g 0 l.length c _ Ω ?_ 9 underlying9;intro i e;have a:i<l.length:=by simpa using e
 rw[Nat.zero_add,d i a];simp[a]
theorem Cb(w:World)(s:ByteArray):∃v w',(convert 9 93 (.string s)).run prog w=.ok v w'/\jY w.heap.size w' v (toL s)/\Below w.heap.size w w':=by
 refine⟨_,_,run_bytes_of_string (P:=prog) w 9 93 5 s underlying9 underlying93 underlying5, ?_,((φ _ w).drew).alloc (χ _) _⟩;have k:=grownCap_ge w s.size 0 5;generalize grownCap w s.size 0 5=cap at *;have a:(toL s).length=s.size:=by unfold toL;rw[Array.length_toList];(first|done|rfl)
 have l:(bytesRow s cap).size=cap:=by unfold bytesRow;rw[Array.size_append,Array.size_map,Array.size_replicate];have:s.data.size=s.size:=rfl;omega
 refine⟨w.heap.size,cap,by rw[a],χ _,⟨_,_,heap_alloc_new w.drew _⟩,by rw[a];omega,λj b=>?_,λj h i=>?_⟩
 .have g:j<s.data.size:=by rw[a]at b;exact b
  have:=World.cell?_alloc_mark w.drew (bytesRow s cap) 5 ((bytesRow s cap).size,(bytesRow s cap).size+1) j;refine Eq.trans this ?_;rw[bytesRow_at s cap j g];rfl
 .have c:=World.cell?_alloc_mark w.drew (bytesRow s cap) 5 ((bytesRow s cap).size,(bytesRow s cap).size+1) j;have d:=World.frozen?_alloc_mark w.drew (bytesRow s cap) 5 (bytesRow s cap).size ((bytesRow s cap).size+1) j;refine⟨?_, ?_⟩
  .have e:(bytesRow s cap)[j]?=some ((bytesRow s cap)[j]'V):=Array.getElem?_eq_getElem _;have f:=c.trans e;exact Option.isSome_iff_exists.2 ⟨_,f⟩
  .refine Eq.trans d ?_;simp;omega
theorem pO(l:Thk.Bs):toL (strOfNums (l.map λb=>(b.toNat:Int)))=l:=by unfold toL strOfNums;simp[List.map_map,Function.comp_def]
theorem PW{a b:ByteArray}(h:a=b):(a.toList==b.toList)=true:=by rw[h];exact beq_self_eq_true _
theorem TK{a b:ByteArray}(h:¬a=b):(a.toList==b.toList)=false:=by rw[ό,toList_eq,toList_eq];exact λe=>h (ji e)
theorem zF(s:ByteArray)(w:World)(c:s.size<4):Calls prog 166 #[.string s] w λe a=>e=.returned (.tuple #[.string ⟨#[]⟩,.bool false])/\a=w:=by
 have b:(s.size:Int)-4<0:=V
 go_enter func166,ntmps166;go_wp2;go_ret2;exact⟨rfl,rfl⟩
theorem rE(s:ByteArray)(w:World)(m:Nat)(C:s.size=m+4)(G:s.size<=900000)(a:Bool)(o:a=true↔sealL (toL (s.extract 0 m))=toL s):Calls prog 166 #[.string s] w λe w'=>e=.returned (.tuple #[.string (if a then s.extract 0 m else⟨#[]⟩),.bool a])/\Below w.heap.size w w':=by
 obtain⟨v,i,q,p,f⟩:=Cb w (s.extract 0 m);have x:(toL (s.extract 0 m)).length<=900000:=by
  have:(toL (s.extract 0 m)).length=(s.extract 0 m).size:=by unfold toL;rw[Array.length_toList];(first|done|rfl)
  rw[this,ByteArray.size_extract];omega
 have l:J<|(convert 9 93 (.string (s.extract 0 m))).run prog w=.ok v i:=q;have n:J<|Calls prog 163 #[v] i λe w'=>∃g,e=.returned g/\J ((convert 93 9 g).run prog w'=.ok (.string (strOfNums ((sealL (toL (s.extract 0 m))).map λb=>(b.toNat:Int)))) w')/\J (Below w.heap.size w w'):=by refine ψ (L8 w.heap.size i v _ p f.size x) ?_;rintro e w'⟨g,rfl,t,u⟩;exact⟨g,rfl,BZ t,f.trans (u.below f.size)⟩
 have c:J<|strOfNums ((sealL (toL (s.extract 0 m))).map λb=>(b.toNat:Int))=s↔a=true:=by
  unfold J;rw[o];constructor
  .intro h;have:=congrArg toL h;rw[pO]at this;exact this
  .intro h;exact ji (by rw[pO];exact h)
 generalize strOfNums ((sealL (toL (s.extract 0 m))).map λb=>(b.toNat:Int))=r at *;have A:¬(s.size:Int)-4<0:=V
 have B:(s.size:Int)-4=(m:Int):=V
 have F:¬(m:Int)<0:=V
 have D:m<=s.size:=V
 have E:(m:Int)<=(s.size:Int):=V
 clear q p f o;go_enter func166,ntmps166;go_wp2_with fail;rw[l.o];go_wp2_with fail;refine ψ n.o ?_;rintro e K⟨H,rfl,k,j⟩;clear n l;go_wp2_with fail;rw[k.o];clear k;cases a with
 | true =>have d:r=s:=c.o.2 rfl;have y:=PW d;clear c;subst d;go_wp2;go_ret2;exact⟨rfl,j.o⟩
 | false =>
  have d:¬r=s:=λh=>by have:=c.o.1 h;cases this
  have y:=TK d;clear c;go_wp2;go_ret2;exact⟨rfl,j.o⟩
theorem iZ(s:ByteArray)(w:World)(h:s.size<=900000):Calls prog 166 #[.string s] w λe w'=>e=.returned (.tuple #[.string ⟨((dI (toL s)).getD []).toArray⟩,.bool (dI (toL s)).isSome])/\Below w.heap.size w w':=by
 have g:(toL s).length=s.size:=by unfold toL;rw[Array.length_toList];(first|done|rfl)
 by_cases j:s.size<4
 .have a:dI (toL s)=none:=by unfold dI;rw[ύ V]
  rw[a];refine ψ (zF s w j) ?_;rintro e w'⟨rfl,rfl⟩;exact⟨rfl,φ _ _⟩
 .obtain⟨m,c⟩:∃m,s.size=m+4:=⟨s.size-4,V⟩;have f:toL (s.extract 0 m)=(toL s).take m:=by unfold toL;rw[ByteArray.data_extract,Array.toList_extract];simp
  by_cases b:sealL ((toL s).take m)=toL s
  .have a:dI (toL s)=some ((toL s).take m):=by unfold dI;rw[g,c,Nat.add_sub_cancel,ώ ⟨V,b⟩]
   rw[a];refine ψ (rE s w m c h true (by rw[f];simp[b])) ?_;rintro e w'⟨rfl,d⟩;refine⟨?_,d⟩;have:s.extract 0 m=⟨((toL s).take m).toArray⟩:=ji (by rw[f];simp[toL]);rw[ώ rfl,this];(first|done|rfl)
  .have a:dI (toL s)=none:=by unfold dI;rw[g,c,Nat.add_sub_cancel,ύ (λi=>b i.2)]
   rw[a];refine ψ (rE s w m c h false (by rw[f];simp[b])) ?_;rintro e w'⟨rfl,d⟩;exact⟨rfl,d⟩
def dJ(n:Nat):Thk.Bs:=if h:n<128 then [UInt8.ofNat n]else UInt8.ofNat (n % 128+128)::dJ (n / 128)
theorem lZ{n:Nat}(h:n<128):dJ n=[UInt8.ofNat n]:=by rw[dJ,dif_pos h]
theorem nC{n:Nat}(h:¬n<128):dJ n=UInt8.ofNat (n % 128+128)::dJ (n / 128):=by rw[dJ,dif_neg h]
theorem L9(n:Nat):1<=(dJ n).length:=by
 by_cases h:n<128
 .rw[lZ h];simp
 .rw[nC h];simp
theorem jK:∀k n,n<128 ^ (k+1)->(dJ n).length<=k+1:=by
 intro k;induction k with
 | zero=>intro n h;rw[lZ V];simp
 | succ k ih =>
  intro n h;by_cases a:n<128
  .rw[lZ a];simp
  .rw[nC a];have:=ih (n / 128) (by rw[Nat.pow_succ]at h;omega);simp;omega
theorem uU(B:Nat)(w:World)(v:Value)(l:Thk.Bs)(n:Nat)(A:aH B w v l)(T:B<=w.heap.size)(hl:l.length<=1000000)(W:n<268435456):Calls prog 220 #[v,.int .i64 n] w λS w'=>∃P,S=.returned P/\aH B w' P (l++dJ n)/\aY B w w':=by
 obtain⟨N,E,K,L,M⟩:=info_parts Tryz.infoU8;have y:J<|aH B w v l/\aY B w w:=⟨A,aY.refl _ _⟩;have j:(l++dJ n).length<=1000010:=by rw[ρ];have:=jK 3 n V;omega
 clear A;go_enter func220,ntmps220;go_wp2_with fail;go_loopw [0,1] (λZ t wr=>∃(k:Nat)(p:Value)(m:Thk.Bs),p=Z/\t=.int .i64 k/\k<268435456/\m.length+(dJ k).length<=1000010/\J (l++dJ n=m++dJ k)/\J (aH B wr p m/\aY B w wr)) (λ_ t _=>(intOf t).toNat);case atStart=>exact⟨n,v,l,rfl,rfl,W,by rw[ρ]at j;exact j,rfl,y⟩
 case round =>
  clear y j;obtain⟨k,p,m,X,rfl,hk,a5,h,a⟩:=hrel;subst X;have f:=a.o.1;have a0:B<=wr.heap.size:=ς T a.o.2.size;have a7:=L9 k;have C:m.length+1<=maxLen:=by unfold maxLen;omega
  have D:(m.length+1)*1<=140737488355328:=V
  unfold aH at f;by_cases F:k<128
  .have U:¬(k:Int) > 127:=V
   have a1:(k:Int) % 256=k:=V
   go_wp2_with (first|(at_builtin;go_loud (refine wpList_append_own_at _ rfl (.tmp 16) (.tmp 19) 93 rfl B 5 N (.int .u8 0) 1 1 underlying93 E K L M rfl Ψ _ _ _ rfl (f.alloc _) (z wr.heap.size) 1 1 [.int .u8 (k:Int)] rfl rfl (cell_one_new _ _ _) (by intro Y c;simp at c;subst c;rfl) C D Θ ?_);intro u x e b G s;have d:=aY.app a.o.1 b;clear b s));go_ret;refine⟨_,rfl, ?_,a.o.2.trans d⟩;have i:iQ (m++[UInt8.ofNat k])=iQ m++[.int .u8 (k:Int)]:=by rw[dZ];simp[iQ,UInt8.toNat_ofNat'];omega
   rw[h.o,lZ F];unfold aH;rw[i,ρ];exact e
  .have U:(k:Int) > 127:=V
   obtain⟨q,H⟩:∃q,k / 128=q:=⟨_,rfl⟩;obtain⟨r,o⟩:∃r,k % 128+128=r:=⟨_,rfl⟩;have a4:bits .and .i64 (k:Int) 127=(k:Int) % 128:=by rw[zx k V];omega
   have a6:bits .or .i64 ((k:Int) % 128) 128=(r:Int):=by have:=uM (k % 128) V;rw[<- o,<- this];congr 1
   have a2:(r:Int) % 256=r:=V
   have a3:(k:Int) / 128=(q:Int):=V
   have g:J<|dJ k=UInt8.ofNat r::dJ q:=ω<|by rw[nC F,H,o]
   have a9:r<256:=V
   have a8:q<k:=V
   have O4:m.length+1+(dJ q).length<=1000010:=by have:=congrArg List.length g.o;simp at this;omega
   clear H o;go_wp2_with (first|(at_builtin;go_loud (refine wpList_append_own_at _ rfl (.tmp 7) (.tmp 12) 93 rfl B 5 N (.int .u8 0) 1 1 underlying93 E K L M rfl Ψ _ _ _ rfl (f.alloc _) (z wr.heap.size) 1 1 [.int .u8 (r:Int)] rfl rfl (cell_one_new _ _ _) (by intro Y c;simp at c;subst c;rfl) C D Θ ?_);intro u x e b G s;have d:=aY.app a.o.1 b;clear b s));have Q:J<|l++dJ n=(m++[UInt8.ofNat r])++dJ q:=ω<|by rw[h.o,g.o];simp
   have R:J<|aH B x u (m++[UInt8.ofNat r])/\aY B w x:=by
    refine⟨?_,a.o.2.trans d⟩;have i:iQ (m++[UInt8.ofNat r])=iQ m++[.int .u8 (r:Int)]:=by rw[dZ];simp[iQ,UInt8.toNat_ofNat'];omega
    unfold aH;rw[i,ρ];exact e
   clear e d f a h G g;go_roundw;case rel=>exact⟨q,u,m++[UInt8.ofNat r],rfl,by first|rfl|go_num,V,Θ,Q,R⟩
   case measure=>simp[intOf]<;>omega
theorem Jc(B:Nat)(w:World)(v:Value)(l:Thk.Bs)(s:ByteArray)(h:aH B w v l)(g:B<=w.heap.size)(C:l.length<=900000)(E:s.size<=1000000):Calls prog 224 #[v,.string s] w λe w'=>∃i,e=.returned i/\aH B w' i (l++dJ s.size++toL s)/\aY B w w':=by
 obtain⟨x,p,r,t,u⟩:=info_parts Tryz.infoU8;have A:=jK 3 s.size V;have c:J<|_:=uU B w v l s.size h g V V;clear h;go_enter func224,ntmps224;go_wp2_with fail;refine ψ c.o ?_;rintro e b⟨y,rfl,f,a⟩;have n:B<=b.heap.size:=ς g a.size;have d:J<|aH B b y (l++dJ s.size):=f;have j:J<|aY B w b:=a;have k:(l++dJ s.size).length+s.size<=maxLen:=by unfold maxLen;simp;omega
 have m:(l++dJ s.size).length+s.size<=140737488355328:=Θ
 clear f a c;go_wp2_with (first|(at_builtin;refine Lib.wpList_append_own_string _ rfl (.tmp 8) (.tmp 9) 93 9 rfl B 5 x underlying93 underlying9 p r t u _ _ _ rfl d.o s rfl k m n ?_;intro F G q o D));go_ret;refine⟨_,rfl, ?_,j.o.trans (aY.app0 d.o o)⟩;unfold aH;rw[dZ,<- pG,ρ];exact q
def Fh:Nat->Nat->Nat->Thk.Bs->Option (Nat×Thk.Bs)
 | 0,_,_,_=>none
 | _+1,_,_,[]=>none
 | f+1,p,n,b::r=>if b.toNat<128 then some (n+b.toNat*p,r)else Fh f (p*128) (n+(b.toNat-128)*p) r
theorem zG:∀(f p n k:Nat)(r:Thk.Bs),k<128 ^ (f+1)->Fh (f+1) p n (dJ k++r)=some (n+k*p,r)
 | f,p,n,k,r,hk=>by
  by_cases h:k<128
  .rw[lZ h];show(if(UInt8.ofNat k).toNat<128 then _ else _)=_;have:(UInt8.ofNat k).toNat=k:=by rw[UInt8.toNat_ofNat'];omega
   rw[this,ώ h];rfl
  .cases f with
   | zero=>omega
   | succ f =>
    rw[nC h];show(if(UInt8.ofNat (k % 128+128)).toNat<128 then _ else _)=_;have:(UInt8.ofNat (k % 128+128)).toNat=k % 128+128:=by rw[UInt8.toNat_ofNat'];omega
    rw[this,ύ V,Nat.add_sub_cancel];have c:=zG f (p*128) (n+k % 128*p) (k / 128) r (by rw[Nat.pow_succ]at hk;omega);show Fh (f+1) (p*128) (n+k % 128*p) (dJ (k / 128)++r)=_;rw[c];have a:k / 128*(p*128)=(k / 128*128)*p:=by rw[Nat.mul_comm p 128,Nat.mul_assoc]
    have b:k % 128*p+(k / 128*128)*p=k*p:=by rw[<- Nat.add_mul];congr 1;omega
    rw[a,Nat.add_assoc,b]
theorem or_hi{a b i:Nat}(h:a<2 ^ i):a ||| (b*2 ^ i)=a+b*2 ^ i:=by have:=Nat.two_pow_add_eq_or_of_lt h b;rw[Nat.or_comm,Nat.mul_comm b,<- this];omega
end
section
open Go.Proofs.Tryz Go.RowKit Go.Maps Go.WideMaps
variable{c:Bool}{k:Int}{db n:Nat}{w:World}
theorem Mc{f p:Nat}{l r:Thk.Bs}{N:Nat}(h:Fh f p n l=some (N,r)):∃g b t,f=g+1/\l=b::t/\((b.toNat<128/\N=n+b.toNat*p/\r=t)\/(¬b.toNat<128/\Fh g (p*128) (n+(b.toNat-128)*p) t=some (N,r))):=by
 cases f with
 | zero=>cases h
 | succ g =>
  cases l with
  | nil=>cases h
  | cons b t =>
   refine⟨g,b,t,rfl,rfl, ?_⟩;have a:(if b.toNat<128 then some (n+b.toNat*p,t)else Fh g (p*128) (n+(b.toNat-128)*p) t)=some (N,r):=h;by_cases c:b.toNat<128
   .rw[ώ c]at a;cases a
    exact τ ⟨c,rfl,rfl⟩
   .rw[ύ c]at a;exact υ ⟨c,a⟩
theorem sH(a b i:Nat)(h:a<2 ^ i)(c:a+b*2 ^ i<9223372036854775808):bits .or .i64 (a:Int) ((b*2 ^ i:Nat):Int)=((a+b*2 ^ i:Nat):Int):=by have e:=jv .i64 a (b*2 ^ i) (by show a<18446744073709551616;omega) (by show b*2 ^ i<18446744073709551616;omega);rw[e,or_hi h];exact wrap_i64 _ c
theorem rF(w:World)(rb:Nat)(s:ByteArray)(N lo u:Nat)(r:Thk.Bs)(B:iC w rb s)(W:Fh 4 1 0 (toL s)=some (N,r))(h1:lo<=N)(h2:N<=u)(a4:u<=1000000000)(a6:s.size<=1000000000):Calls prog 167 #[.pointer (some (z rb)),.int .i64 lo,.int .i64 u] w λZ w'=>∃Y,Z=.returned (.int .i64 N)/\iC w' rb Y/\toL Y=r/\Chg (λk=>k=rb) w w':=by
 have c0:=(B.cell 0).trans rfl;have c1:=(B.cell 1).trans rfl;have f0:=B.frozen;have D:J<|iC w rb s:=B;have Q:J<|Fh 4 1 0 ((toL s).drop 0)=some (N,r):=W;have C:(toL s).length=s.size:=by unfold toL;rw[Array.length_toList];(first|done|rfl)
 clear B W;go_enter func167,ntmps167;go_wp2_with fail;go_loopw [7,8] (λv7 P wx=>∃(k n:Nat),P=.int .i64 k/\v7=.int .i64 n/\k<=4/\J (n<128 ^ k)/\J (Fh (4-k) (128 ^ k) n ((toL s).drop k)=some (N,r))/\wx=w) (λ_ P _=>4-(intOf P).toNat);case atStart=>exact⟨0,0,rfl,rfl,V,by unfold J;decide,Q,rfl⟩
 case round =>
  clear Q;obtain⟨k,n,rfl,rfl,hk,S,R,X⟩:=hrel;rw[X];clear X;obtain⟨g,b,t,hg,A,E⟩:=Mc R.o;have a5:k<4:=V
  have y:k<s.size:=by have:=congrArg List.length A;rw[List.length_drop,C]at this;simp at this;omega
  have U:(s[k]'y)=b:=by have e1:s[k]'y=(toL s)[k]'(by rw[C];exact y):=rfl;have F:(toL s).drop k=(toL s)[k]'(by rw[C];exact y)::(toL s).drop (k+1):=List.drop_eq_getElem_cons _;rw[F]at A;rw[e1];exact(List.cons.inj A).1
  have a2:t=(toL s).drop (k+1):=by have F:(toL s).drop k=(toL s)[k]'(by rw[C];exact y)::(toL s).drop (k+1):=List.drop_eq_getElem_cons _;rw[F]at A;exact(List.cons.inj A).2.symm
  have a3:(s[k]'y).toNat=b.toNat:=by rw[U]
  have T:b.toNat<256:=UInt8.toNat_lt _;have f:=S.o;clear R A S U;have a1:g=4-(k+1):=V
  subst a2 a1;clear hg;have a0:=zy b.toNat T;have j:=zA b.toNat T;have e:J<|toL (s.extract (k+1) s.size)=(toL s).drop (k+1):=ω<|by rw[cu,<- C,List.take_length]
  generalize b.toNat=i at *;obtain⟨x,hx⟩:∃x,i % 128=x:=⟨_,rfl⟩;rw[hx]at a0;have a7:x<128:=V
  obtain rfl|rfl|rfl|rfl:k=0\/k=1\/k=2\/k=3:=V
  .
   have v:n<1:=by simpa using f
   have K:bits .or .i64 (n:Int) (x:Int)=((n+x*1:Nat):Int):=by have:=sH n x 0 (by show n<1;exact v) (by show n+x*1<9223372036854775808;omega);rw[show(x:Int)=((x*2 ^ 0:Nat):Int) by(show(x:Int)=((x*1:Nat):Int));omega];exact this
   have L:(0:Int)<(s.size:Int):=V
   rcases E with⟨d,a8,h⟩|⟨d,c⟩
   .rw[ώ d]at j;have a:i=x:=V
    have q:N=n+x*1:=by rw[a8,a]
    have m:J<|toL (s.extract 1 s.size)=r:=by rw[h];exact e
    clear e h a8 a f;generalize a9:n+x*1=M at *;clear a9;subst q;have H:¬(N:Int)<(lo:Int):=V
    have G:¬(N:Int) > (u:Int):=V
    go_wp2_with fail;go_ret;exact⟨rfl,_,D.o.set0 _,m.o,(Chg.refl (λk=>k=rb) w).setCell (p:=(z rb)) rfl _⟩
   .rw[ύ d]at j;have a:i-128=x:=V
    rw[a]at c;have o:J<|Fh (4-1) (128 ^ 1) (n+x*1) ((toL s).drop 1)=some (N,r):=c;have l:J<|n+x*1<128 ^ 1:=ω<|by show n+x*1<128;omega
    clear e c a f;generalize n+x*1=M at *;go_wp2;go_roundw;case rel=>exact⟨1,M,by first|rfl|go_num,rfl,V,l,o,by first|rfl|trivial⟩
    case measure=>simp[intOf]<;>omega
  .
   have v:n<128:=by simpa using f
   have K:bits .or .i64 (n:Int) ((x:Int)*128)=((n+x*128:Nat):Int):=by have:=sH n x 7 (by show n<128;exact v) (by show n+x*128<9223372036854775808;omega);rw[show((x:Int)*128)=((x*2 ^ 7:Nat):Int) by(show((x:Int)*128)=((x*128:Nat):Int));omega];exact this
   have L:(1:Int)<(s.size:Int):=V
   rcases E with⟨d,a8,h⟩|⟨d,c⟩
   .rw[ώ d]at j;have a:i=x:=V
    have q:N=n+x*128:=by rw[a8,a]
    have m:J<|toL (s.extract 2 s.size)=r:=by rw[h];exact e
    clear e h a8 a f;generalize a9:n+x*128=M at *;clear a9;subst q;have H:¬(N:Int)<(lo:Int):=V
    have G:¬(N:Int) > (u:Int):=V
    go_wp2_with fail;go_ret;exact⟨rfl,_,D.o.set0 _,m.o,(Chg.refl (λk=>k=rb) w).setCell (p:=(z rb)) rfl _⟩
   .rw[ύ d]at j;have a:i-128=x:=V
    rw[a]at c;have o:J<|Fh (4-2) (128 ^ 2) (n+x*128) ((toL s).drop 2)=some (N,r):=c;have l:J<|n+x*128<128 ^ 2:=ω<|by show n+x*128<16384;omega
    clear e c a f;generalize n+x*128=M at *;go_wp2;go_roundw;case rel=>exact⟨2,M,by first|rfl|go_num,rfl,V,l,o,by first|rfl|trivial⟩
    case measure=>simp[intOf]<;>omega
  .
   have v:n<16384:=by simpa using f
   have K:bits .or .i64 (n:Int) ((x:Int)*16384)=((n+x*16384:Nat):Int):=by have:=sH n x 14 (by show n<16384;exact v) (by show n+x*16384<9223372036854775808;omega);rw[show((x:Int)*16384)=((x*2 ^ 14:Nat):Int) by(show((x:Int)*16384)=((x*16384:Nat):Int));omega];exact this
   have L:(2:Int)<(s.size:Int):=V
   rcases E with⟨d,a8,h⟩|⟨d,c⟩
   .rw[ώ d]at j;have a:i=x:=V
    have q:N=n+x*16384:=by rw[a8,a]
    have m:J<|toL (s.extract 3 s.size)=r:=by rw[h];exact e
    clear e h a8 a f;generalize a9:n+x*16384=M at *;clear a9;subst q;have H:¬(N:Int)<(lo:Int):=V
    have G:¬(N:Int) > (u:Int):=V
    go_wp2_with fail;go_ret;exact⟨rfl,_,D.o.set0 _,m.o,(Chg.refl (λk=>k=rb) w).setCell (p:=(z rb)) rfl _⟩
   .rw[ύ d]at j;have a:i-128=x:=V
    rw[a]at c;have o:J<|Fh (4-3) (128 ^ 3) (n+x*16384) ((toL s).drop 3)=some (N,r):=c;have l:J<|n+x*16384<128 ^ 3:=ω<|by show n+x*16384<2097152;omega
    clear e c a f;generalize n+x*16384=M at *;go_wp2;go_roundw;case rel=>exact⟨3,M,by first|rfl|go_num,rfl,V,l,o,by first|rfl|trivial⟩
    case measure=>simp[intOf]<;>omega
  .
   have v:n<2097152:=by simpa using f
   have K:bits .or .i64 (n:Int) ((x:Int)*2097152)=((n+x*2097152:Nat):Int):=by have:=sH n x 21 (by show n<2097152;exact v) (by show n+x*2097152<9223372036854775808;omega);rw[show((x:Int)*2097152)=((x*2 ^ 21:Nat):Int) by(show((x:Int)*2097152)=((x*2097152:Nat):Int));omega];exact this
   have L:(3:Int)<(s.size:Int):=V
   rcases E with⟨d,a8,h⟩|⟨d,c⟩
   .rw[ώ d]at j;have a:i=x:=V
    have q:N=n+x*2097152:=by rw[a8,a]
    have m:J<|toL (s.extract 4 s.size)=r:=by rw[h];exact e
    clear e h a8 a f;generalize a9:n+x*2097152=M at *;clear a9;subst q;have H:¬(N:Int)<(lo:Int):=V
    have G:¬(N:Int) > (u:Int):=V
    go_wp2_with fail;go_ret;exact⟨rfl,_,D.o.set0 _,m.o,(Chg.refl (λk=>k=rb) w).setCell (p:=(z rb)) rfl _⟩
   .rw[ύ d]at j;have a:i-128=x:=V
    rw[a]at c;have o:J<|Fh (4-4) (128 ^ 4) (n+x*2097152) ((toL s).drop 4)=some (N,r):=c;have l:J<|n+x*2097152<128 ^ 4:=ω<|by show n+x*2097152<268435456;omega
    clear e c a f;generalize n+x*2097152=M at *;go_wp2;go_roundw;case rel=>exact⟨4,M,by first|rfl|go_num,rfl,V,l,o,by first|rfl|trivial⟩
    case measure=>simp[intOf]<;>omega
theorem Jd(w:World)(rb:Nat)(s:ByteArray)(t r:Thk.Bs)(h:iC w rb s)(d:toL s=dJ t.length++t++r)(B:t.length<268435456)(m:s.size<=1000000000):Calls prog 244 #[.pointer (some (z rb))] w λg w'=>∃u n,g=.returned (.string u)/\toL u=t/\iC w' rb n/\toL n=r/\Chg (λk=>k=rb) w w':=by
 have x:=(h.cell 0).trans rfl;have j:s.size=(dJ t.length++t++r).length:=by rw[<- d];simp[toL]
 have l:Fh 4 1 0 (toL s)=some (t.length,t++r):=by rw[d,List.append_assoc];have:=zG 3 1 0 t.length (t++r) V;rw[this];simp
 have f:J<|_:=rF w rb s t.length 0 s.size (t++r) h l (Nat.zero_le _) (by rw[j];simp;omega) m m;clear h j d l;go_enter func244,ntmps244;go_wp2_with fail;refine ψ f.o ?_;rintro g o⟨a,rfl,b,c,i⟩;have x:=(b.cell 0).trans rfl;have f0:=b.frozen;have A:t.length<=a.size:=by
  have:a.size=(toL a).length:=by simp[toL]
  rw[this,c];simp
 have v:J<|toL (a.extract 0 t.length)=t:=ω<|by rw[uI,c];simp
 have q:J<|toL (a.extract t.length a.size)=r:=ω<|by rw[uJ,c];simp
 have e:J<|iC o rb a/\Chg (λk=>k=rb) w o:=⟨b,i⟩;have y:(t.length:Int)<=(a.size:Int):=V
 generalize t.length=C at *;clear f b c i;go_wp2_with fail;go_ret;exact⟨_,_,rfl,v.o,e.o.1.set0 _,q.o,e.o.2.setCell (p:=(z rb)) rfl _⟩
def slotL(n:Nat)(t:Thk.Bs):Thk.Bs:=sealL (dJ n++(dJ t.length++t))
theorem Md{B:Nat}{v:Value}{l:Thk.Bs}(h:aH B w v l)(a:l≠[]):(convert 93 9 v).run prog w=.ok (.string (strOfNums (l.map λb=>(b.toNat:Int)))) w:=BZ (jY.own h a)
theorem uV(w:World)(n:Nat)(s:ByteArray)(x:n<268435456)(E:s.size<=800000):Calls prog 181 #[.int .i64 n,.string s] w λe w'=>∃u,e=.returned (.string u)/\toL u=slotL n (toL s)/\Below w.heap.size w w':=by
 have h:(toL s).length=s.size:=by unfold toL;rw[Array.length_toList];(first|done|rfl)
 have r:=jK 3 n V;have t:=jK 3 s.size V;have i:J<|Calls prog 220 #[.slice none 0 0,.int .i64 n] w λe w'=>∃a,e=.returned a/\J (aH w.heap.size w' a (dJ n)/\Below w.heap.size w w'):=by refine ψ (uU w.heap.size w _ [] n (aH.nil _ _) (χ _) Ω x) ?_;rintro e w'⟨a,rfl,d,g⟩;exact⟨a,rfl,d,g.below (χ _)⟩
 have j:J<|∀v b,(aH w.heap.size b v (dJ n)/\Below w.heap.size w b)->Calls prog 224 #[v,.string s] b λe w'=>∃a,e=.returned a/\J (aH w.heap.size w' a (dJ n++(dJ (toL s).length++toL s))/\Below w.heap.size w w'):=λv b c=>by refine ψ (Jc w.heap.size b v _ s c.1 c.2.size V V) ?_;rintro e w'⟨a,rfl,d,g⟩;rw[List.append_assoc,<- h]at d;exact⟨a,rfl,d,c.2.trans (g.below c.2.size)⟩
 have k:J<|∀v b,(aH w.heap.size b v (dJ n++(dJ (toL s).length++toL s))/\Below w.heap.size w b)->Calls prog 163 #[v] b λe w'=>∃a,e=.returned a/\J ((convert 93 9 a).run prog w'=.ok (.string (strOfNums ((slotL n (toL s)).map λf=>(f.toNat:Int)))) w')/\J (Below w.heap.size w w'):=λv b c=>by refine ψ (uT w.heap.size b v _ c.1 c.2.size (by rw[h];simp only[ρ];omega)) ?_;rintro e w'⟨a,rfl,d,g⟩;refine⟨a,rfl,Md d (λe=>?_),c.2.trans (g.below c.2.size)⟩;have:=congrArg List.length e;unfold slotL at this;rw[sealL_len]at this;simp at this
 have q:J<|toL (strOfNums ((slotL n (toL s)).map λf=>(f.toNat:Int)))=slotL n (toL s):=pO _;generalize strOfNums ((slotL n (toL s)).map λf=>(f.toNat:Int))=y at *;clear h r t;go_enter func181,ntmps181;go_wp2_with fail;refine ψ i.o ?_;rintro e C⟨A,rfl,l⟩;clear i;go_wp2_with fail;refine ψ (j.o A C l.o) ?_;rintro e D⟨B,rfl,m⟩;clear j l;go_wp2_with fail;refine ψ (k.o B D m.o) ?_;rintro e G⟨F,rfl,p,o⟩;clear k m;go_wp2_with fail;rw[p.o];go_wp2;go_ret;exact⟨y,rfl,q.o,o.o⟩
theorem Fj{wx wy:World}{rb:Nat}(b:Below w.heap.size w wx)(a:Chg (λk=>k=rb) wx wy)(d:w.heap.size<=rb):Below w.heap.size w wy :=
 b.trans ⟨a.os,a.tape,a.output,a.size,λk c=>a.block k (ο c b.size) V⟩
theorem zH(w:World)(q:ByteArray)(n:Nat)(t:Thk.Bs)(p:toL q=slotL n t)(P:n<268435456)(R:t.length<=800000):Calls prog 242 #[.string q] w λe w'=>∃u,e=.returned (.tuple #[.int .i64 n,.string u,.bool true])/\toL u=t/\Below w.heap.size w w':=by
 have E:q.size=(slotL n t).length:=by rw[<- p];unfold toL;rw[Array.length_toList];(first|done|rfl)
 have M:=jK 3 n V;have N:=jK 3 t.length V;have F:q.size<=900000:=by rw[E];unfold slotL;rw[sealL_len];simp only[ρ];omega
 have G:dI (toL q)=some (dJ n++(dJ t.length++t)):=by rw[p];exact rD _
 have f:J<|_:=iZ q w F;rw[G]at f;generalize D:((some (dJ n++(dJ t.length++t))).getD [])=L at f;have o:L=dJ n++(dJ t.length++t):=D.symm;have H:L.length<=900000:=by rw[o];simp only[ρ];omega
 have A:(⟨L.toArray⟩:ByteArray).size=L.length:=by show L.toArray.size=_;simp
 have B:toL (⟨L.toArray⟩:ByteArray)=L:=by unfold toL;simp
 have s:J<|∀c a,iC c a ⟨L.toArray⟩->Calls prog 167 #[.pointer (some (z a)),.int .i64 0,.int .i64 268435455] c λe w'=>∃b,e=.returned (.int .i64 n)/\J (iC w' a b/\toL b=dJ t.length++t/\b.size<=900000/\Chg (λk=>k=a) c w'):=λc a d=>by
  have Q:Fh 4 1 0 (toL (⟨L.toArray⟩:ByteArray))=some (n,dJ t.length++t):=by rw[B,o,zG 3 1 0 n (dJ t.length++t) V];simp
  refine ψ (rF c a ⟨L.toArray⟩ n 0 268435455 _ d Q (Nat.zero_le _) V V (by rw[A];omega)) ?_;rintro e w'⟨b,rfl,l,i,m⟩;refine⟨b,rfl,l,i, ?_,m⟩;have:b.size=(toL b).length:=by simp[toL]
  rw[this,i];simp only[ρ];omega
 have x:J<|∀c a b,(iC c a b/\toL b=dJ t.length++t/\b.size<=900000)->Calls prog 244 #[.pointer (some (z a))] c λe w'=>∃u j,e=.returned (.string u)/\J (toL u=t/\iC w' a j/\toL j=[]/\Chg (λk=>k=a) c w'):=λc a b d=>by refine ψ (Jd c a b t [] d.1 (by rw[d.2.1,List.append_nil]) V (by have:=d.2.2;omega)) ?_;rintro e w'⟨u,j,rfl,l,i,m,K⟩;exact⟨u,j,rfl,l,i,m,K⟩
 clear G D o H A B F M N E p R P;generalize (⟨L.toArray⟩:ByteArray)=T at *;go_enter func242,ntmps242;go_wp2_with fail;refine ψ f.o ?_;rintro e S⟨rfl,C⟩;simp only[Option.isSome_some];have y:J<|Below w.heap.size w S:=C;clear f C;go_wp2_with fail;refine ψ (jC _ _) ?_;rintro e X⟨rfl,rfl⟩;go_wp2_with fail;refine ψ (s.o _ _ (ah.new _ _ _)) ?_;rintro e Y⟨U,rfl,g⟩;clear s;go_wp2_with fail;refine ψ (x.o _ _ _ ⟨g.o.1,g.o.2.1,g.o.2.2.1⟩) ?_;rintro e Z⟨u,W,rfl,h⟩;clear x;go_wp2_with fail;refine ψ (qH _ _ _ h.o.2.1 h.o.2.2.1) ?_;rintro e w5⟨rfl,rfl⟩;go_wp2;have r:=y.o.size;exact ϐ (v:=.tuple #[.int .i64 n,.string u,.bool true]) (by simp[results,Tryz.results242,go_sem]) rfl ⟨u,rfl,h.o.1,Fj (Fj (y.o.alloc r _) g.o.2.2.2 r) h.o.2.2.2 r⟩
theorem Cc(w:World)(q:ByteArray)(c:dI (toL q)=none)(d:q.size<=900000):Calls prog 242 #[.string q] w λe w'=>e=.returned (.tuple #[.int .i64 0,.string ⟨#[]⟩,.bool false])/\Below w.heap.size w w':=by have a:J<|_:=iZ q w d;rw[c]at a;clear c d;go_enter func242,ntmps242;go_wp2_with fail;refine ψ a.o ?_;rintro e g⟨rfl,b⟩;simp only[Option.isSome_none];have f:J<|Below w.heap.size w g:=b;clear a b;go_wp2;exact ϐ (v:=.tuple #[.int .i64 0,.string ⟨#[]⟩,.bool false]) (by simp[results,Tryz.results242,go_sem]) rfl ⟨rfl,f.o⟩
def fO(w:World)(db:Nat)(sl:Nat->ByteArray)(c:Bool)(k:Int):Prop:=ah w db #[.string (sl 0),.string (sl 1),.bool c,.int .i64 k] 229
def zI(sl:Nat->ByteArray)(n:Nat)(s:ByteArray):Nat->ByteArray:=λi=>if i=n % 2 then s else sl i
theorem fO.cellS{a:Nat->ByteArray}(h:fO w db a c k)(n:Nat):w.cell? (O db (n % 2))=some (.string (a (n % 2))):=by rw[ah.cell h];rcases Nat.mod_two_eq_zero_or_one n with e|e<;>rw[e]<;>rfl
theorem fO.put{a:Nat->ByteArray}(h:fO w db a c k)(n:Nat)(s:ByteArray):fO (w.setCell (O db (n % 2)) (.string s)) db (zI a n s) c k:=by unfold fO zI at *;unfold ah at h⊢;rcases Nat.mod_two_eq_zero_or_one n with e|e<;>simp[e,World.setCell,μ,h]
theorem Ce(w:World)(db:Nat)(n:Nat)(s:ByteArray)(a:Nat->ByteArray)(c:Bool)(k:Int)(h:fO w db a c k):Calls prog 180 #[.pointer (some (z db)),.int .i64 n,.string s] w λe w'=>e=.returned (.tuple #[])/\fO w' db (zI a n s) c k/\Chg (λx=>x=db) w w':=by have d:=h.cellS n;have f0:=ah.frozen h (n % 2);have b:J<|fO (w.setCell (O db (n % 2)) (.string s)) db (zI a n s) c k/\Chg (λx=>x=db) w (w.setCell (O db (n % 2)) (.string s)):=⟨h.put n s,(Chg.refl (λx=>x=db) w).setCell (p:=(O db (n % 2))) rfl _⟩;clear h;go_enter func180,ntmps180;go_wp2_with fail;refine bodyPost_end (results_none rfl _ _ _) rfl ?_;exact⟨rfl,b.o⟩
theorem Me(w:World)(s:ByteArray)(l:s.size<=800000):Calls prog 122 #[.string s] w λe w'=>e=.returned (.pointer (some (z w.heap.size)))/\(∃u,toL u=slotL 0 (toL s)/\fO w' w.heap.size (zI (λ_=>⟨#[]⟩) 0 u) false 0)/\Below w.heap.size w w':=by have d:J<|∀b,Calls prog 181 #[.int .i64 0,.string s] b λe w'=>∃u,e=.returned (.string u)/\J (toL u=slotL 0 (toL s))/\J (Below b.heap.size b w'):=λb=>uV b 0 s V l;clear l;go_enter func122,ntmps122;go_wp2_with fail;refine ψ (d.o _) ?_;rintro e w1⟨u,rfl,o,a⟩;clear d;have c:fO w1 w.heap.size (λ_=>⟨#[]⟩) false 0:=(ah.new w _ _).below a.o;have g:J<|_:=Ce w1 w.heap.size 0 u _ _ _ c;have h:Below w.heap.size w w1:=((φ _ w).alloc (χ _) _).trans ⟨a.o.os,a.o.tape,a.o.output,a.o.size,λk c=>a.o.block k Θ⟩;have n:J<|Below w.heap.size w w1:=h;clear c h a;go_wp2_with fail;refine ψ g.o ?_;rintro e m⟨rfl,j,i⟩;have f:J<|fO m w.heap.size (zI (λ_=>⟨#[]⟩) 0 u) false 0/\Chg (λx=>x=w.heap.size) w1 m:=⟨j,i⟩;clear g j i;go_wp2_with fail;go_ret;exact⟨rfl,⟨u,o.o,f.o.1⟩,Fj n.o f.o.2 (χ _)⟩
def Opens(q:ByteArray)(o:Nat×Thk.Bs×Bool):Prop:=∀wx,Calls prog 242 #[.string q] wx λe w'=>∃u,e=.returned (.tuple #[.int .i64 o.1,.string u,.bool o.2.2])/\toL u=o.2.1/\Below wx.heap.size wx w'
def eF(O:Nat->Nat×Thk.Bs×Bool):Nat->Nat×Thk.Bs
 | 0=>(0,[])
 | i+1=>if(O i).2.2=true/\(eF O i).1<=(O i).1 then((O i).1,(O i).2.1)else eF O i
theorem Ci(w:World)(db:Nat)(b:Nat->ByteArray)(c:Bool)(k:Int)(a:Nat->Nat×Thk.Bs×Bool)(l:fO w db b c k)(q:∀i,i<2->Opens (b i) (a i)):Calls prog 182 #[.pointer (some (z db))] w λe w'=>∃u,e=.returned (.tuple #[.int .i64 ((eF a 2).1),.string u])/\toL u=(eF a 2).2/\Below w.heap.size w w':=by
 have S:=(ah.cell l 0).trans rfl;have T:=(ah.cell l 1).trans rfl;have C:J<|∀i,i<2->Opens (b i) (a i):=q;clear l q;go_enter func182,ntmps182;go_wp2_with fail;go_loopg [2,3,13] 2 (λE P Q N R=>∃i:Nat,i+E=2/\N=.int .i64 i/\P=.int .i64 ((eF a i).1)/\(∃u,Q=.string u/\toL u=(eF a i).2)/\Below w.heap.size w R);case atStart=>exact⟨0,V,rfl,rfl,⟨_,rfl,rfl⟩,φ _ w⟩
 case round =>
  obtain⟨i,U,rfl,rfl,⟨u,rfl,y⟩,r⟩:=hrel;have f:J<|Below w.heap.size w wr/\toL u=(eF a i).2:=⟨r,y⟩;clear r y;by_cases G:i<2
  .have p:J<|_:=C.o i G wr;have F:(#[Value.string (b 0),Value.string (b 1)]:Array Value)[i]?=some (.string (b i)):=by rcases(by omega:i=0\/i=1)with e|e<;>subst e<;>rfl
   have t:eF a (i+1)=if(a i).2.2=true/\(eF a i).1<=(a i).1 then((a i).1,(a i).2.1)else eF a i:=rfl
   have d:J<|_:=t;clear t;have H:(Instr.index 227 (Value.agg #[Value.string (b 0),Value.string (b 1)]) (.int .i64 i)).run prog wr=.ok (.string (b i)) wr:=by rcases(by omega:i=0\/i=1)with e|e<;>subst e<;>first|rfl|(simp[Instr.index,go_sem,underlying227];try rfl)
   go_wp2_with fail;refine ψ p.o ?_;rintro e w1⟨B,rfl,A,g⟩;have s:Below w.heap.size w w1:=f.o.1.trans ⟨g.os,g.tape,g.output,g.size,λk K=>g.block k (ο K f.o.1.size)⟩;have h:J<|toL B=(a i).2.1/\Below w.heap.size w w1:=⟨A,s⟩;clear p F H A g s;obtain⟨⟨n,W,D⟩,L⟩:∃o,a i=o:=⟨_,rfl⟩;rw[L]at d h⊢;generalize x:(eF a i).1=m at *;cases D
   .go_wp2_with fail;go_roundg (2-(i+1));case measure=>omega
    case rel=>exact⟨i+1,V,Λ,by rw[d.o];simp[x],⟨u,rfl,by rw[d.o];simp[f.o.2]⟩,h.o.2⟩
   .by_cases j:m<=n
    .have M:(m:Int)<=(n:Int):=V
     go_wp2_with fail;go_roundg (2-(i+1));case measure=>omega
     case rel=>exact⟨i+1,V,Λ,by rw[d.o];simp[j],⟨B,rfl,by rw[d.o];simp[j,h.o.1]⟩,h.o.2⟩
    .have M:¬(m:Int)<=(n:Int):=V
     go_wp2_with fail;go_roundg (2-(i+1));case measure=>omega
     case rel=>exact⟨i+1,V,Λ,by rw[d.o];simp[j,x],⟨u,rfl,by rw[d.o];simp[j,f.o.2]⟩,h.o.2⟩
  .have e:i=2:=V
   subst e;go_wp2;exact ϐ (v:=.tuple #[.int .i64 ((eF a 2).1),.string u]) (by simp[results,Tryz.results182,go_sem]) rfl ⟨u,rfl,f.o.2,f.o.1⟩
theorem Je(w:World)(db:Nat)(b:Nat->ByteArray)(k:Int)(c:Nat->Nat×Thk.Bs×Bool)(s:ByteArray)(h:fO w db b false k)(v:∀i,i<2->Opens (b i) (c i))(E:(eF c 2).1+1<268435456)(A:s.size<=800000):Calls prog 152 #[.pointer (some (z db)),.string s] w λe w'=>e=.returned (.bool true)/\(∃q,toL q=slotL ((eF c 2).1+1) (toL s)/\fO w' db (zI b ((eF c 2).1+1) q) false k)/\Chg (λx=>x=db) w w':=by
 have n:J<|_:=Ci w db b false k c h v;have l:J<|fO w db b false k:=h;generalize (eF c 2).1=m at *;have g:(m:Int)+1=((m+1:Nat):Int):=V
 have r:J<|∀a,Calls prog 181 #[.int .i64 ((m:Int)+1),.string s] a λe w'=>∃u,e=.returned (.string u)/\J (toL u=slotL (m+1) (toL s))/\J (Below a.heap.size a w'):=λa=>by rw[g];exact uV a (m+1) s E A
 have o:J<|∀a q,fO a db b false k->Calls prog 180 #[.pointer (some (z db)),.int .i64 ((m:Int)+1),.string q] a λe w'=>e=.returned (.tuple #[])/\J (fO w' db (zI b (m+1) q) false k/\Chg (λx=>x=db) a w'):=λa q G=>by rw[g];exact Ce a db (m+1) q b false k G
 clear h v A g;go_enter func152,ntmps152;go_wp2_with fail;refine ψ n.o ?_;rintro e H⟨u,rfl,F,y⟩;have d:J<|Below w.heap.size w H:=y;clear n F y;go_wp2_with fail;refine ψ (r.o _) ?_;rintro e j⟨q,rfl,C,f⟩;have hd2:fO j db b false k:=(l.o.below d.o).below f.o;have D:=(ah.cell hd2 2).trans rfl;have B:J<|Chg (λx=>x=db) w j:=(Chg.of_below d.o).trans (Chg.of_below f.o);have p:J<|_:=o.o j q hd2;clear r l d f hd2 o;go_wp2_with fail;refine ψ p.o ?_;rintro e K⟨rfl,t⟩;clear p D;go_wp2_with fail;go_ret;exact⟨rfl,⟨q,C.o,t.o.1⟩,B.o.trans t.o.2⟩
def fZ(w:World)(db n:Nat)(t:Thk.Bs)(c:Bool)(k:Int):Prop :=
 ∃(sl:Nat->ByteArray)(O:Nat->Nat×Thk.Bs×Bool),fO w db sl c k/\(∀i,i<2->Opens (sl i) (O i))/\O (n % 2)=(n,t,true)/\((O ((n+1) % 2)).2.2=true->(O ((n+1) % 2)).1<n)
theorem PX{a:Nat->Nat×Thk.Bs×Bool}{t:Thk.Bs}(h:a (n % 2)=(n,t,true))(b:(a ((n+1) % 2)).2.2=true->(a ((n+1) % 2)).1<n):eF a 2=(n,t):=by
 rcases Nat.mod_two_eq_zero_or_one n with e|e
 .have c:(n+1) % 2=1:=V
  rw[e]at h;rw[c]at b;have d:eF a 1=(n,t):=by simp[eF,h]
  show(if(a 1).2.2=true/\(eF a 1).1<=(a 1).1 then((a 1).1,(a 1).2.1)else eF a 1)=_;rw[d,ύ];rintro⟨f,g⟩;have:=b f;exact absurd g (by show ¬n<=_;omega)
 .have c:(n+1) % 2=0:=V
  rw[e]at h;rw[c]at b;have d:(eF a 1).1<=n:=by
   show(if(a 0).2.2=true/\0<=(a 0).1 then((a 0).1,(a 0).2.1) else((0,[]):Nat×Thk.Bs)).1<=n;split
   .rename_i hh;have:=b hh.1;show(a 0).1<=n;omega
   .exact Nat.zero_le _
  show(if(a 1).2.2=true/\(eF a 1).1<=(a 1).1 then((a 1).1,(a 1).2.1)else eF a 1)=_;rw[h,ώ ⟨rfl,d⟩]
theorem rG{q:ByteArray}{t:Thk.Bs}(b:toL q=slotL n t)(a:n<268435456)(c:t.length<=800000):Opens q (n,t,true):=λd=>zH d q n t b a c
theorem Cj:Opens ⟨#[]⟩ (0,[],false):=λb=>by refine ψ (Cc b ⟨#[]⟩ rfl Ψ) ?_;rintro e c⟨rfl,a⟩;exact⟨_,rfl,rfl,a⟩
theorem GN(s:ByteArray):(toL s).length=s.size:=by unfold toL;rw[Array.length_toList];(first|done|rfl)
theorem fZ.chg{M:Nat->Prop}{a:World}{t:Thk.Bs}(h:fZ w db n t c k)(f:Chg M w a)(g:¬M db):fZ a db n t c k:=by obtain⟨i,b,d,e⟩:=h;exact⟨i,b,ah.chg d f g,e⟩
theorem PY(w:World)(s:ByteArray)(a:s.size<=800000):Calls prog 122 #[.string s] w λe w'=>e=.returned (.pointer (some (z w.heap.size)))/\fZ w' w.heap.size 0 (toL s) false 0/\Below w.heap.size w w':=by
 refine ψ (Me w s a) ?_;rintro e w'⟨rfl,⟨u,d,c⟩,b⟩;refine⟨rfl,⟨_,λi=>if i=0 then(0,toL s,true) else(0,[],false),c,λi f=>?_,rfl,λh=>by simp at h⟩,b⟩;rcases(by omega:i=0\/i=1)with e|e<;>subst e
 .exact rG d V (by rw[GN];exact a)
 .exact Cj
theorem Jf(w:World)(db n:Nat)(t:Thk.Bs)(k:Int)(s:ByteArray)(l:fZ w db n t false k)(f:n+1<268435456)(g:s.size<=800000):Calls prog 152 #[.pointer (some (z db)),.string s] w λe w'=>e=.returned (.bool true)/\fZ w' db (n+1) (toL s) false k/\Chg (λy=>y=db) w w':=by
 obtain⟨x,a,p,c,b,m⟩:=l;have d:=PX b m;have h:=Je w db x k a s p c (by rw[d];exact f) g;rw[d]at h;refine ψ h ?_;rintro e w'⟨rfl,⟨A,u,q⟩,o⟩;have v:(n+1+1) % 2≠(n+1) % 2:=V
 have j:(n+1+1) % 2=n % 2:=V
 refine⟨rfl,⟨_,λi=>if i=(n+1) % 2 then(n+1,toL s,true)else a i,q,λi r=>?_,Ω,λ_=>?_⟩,o⟩
 .unfold zI;by_cases e:i=(n+1) % 2
  .simp only[e,if_true];exact rG u f (by rw[GN];exact g)
  .simp only[e,if_false];exact c i r
 .simp only[v,if_false];rw[j,b];exact Nat.lt_succ_self n
