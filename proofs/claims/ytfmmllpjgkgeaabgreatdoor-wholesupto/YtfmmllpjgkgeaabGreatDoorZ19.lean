import Derived.Test.YtfmmllpjgkgeaabGreatDoorZ18
set_option linter.all false
set_option maxHeartbeats 0
set_option maxRecDepth 100000
namespace Go.Proofs.YtfmmllpjgkgeaabGreatDoor
section
open Go.Proofs.Tryz Go.RowKit Go.Maps
variable{B:Nat}{v:Value}{w:World}
def gW(s:Int)(b:UInt8):Int:=(bits .xor .u32 s (b.toNat:Int)*16777619) % 4294967296
def nU(l:Thk.Bs):Int:=l.foldl gW 2166136261
def zD(l:Thk.Bs)(b:UInt8):nU (l++[b])=gW (nU l) b:=by unfold nU;rw[List.foldl_append];(first|done|rfl)
def yH(l:Thk.Bs):0<=nU l/\nU l<4294967296:=by
 rcases List.eq_nil_or_concat l with rfl|⟨m,b,rfl⟩
 .decide
 .rw[List.concat_eq_append,zD];unfold gW;omega
def TR{l:Thk.Bs}(h:bU B w v l):∃c a,v=.slice c l.length a/\(0<l.length->∃g,c=some (z g)/\l.length<=a):=by
 obtain⟨_,⟨d,b⟩|⟨g,a,f,b,i,_,e,_⟩⟩:=h
 .exact⟨none,0,by rw[d,b],λh=>V⟩
 .exact⟨_,a,b,λ_=>⟨g,rfl,e⟩⟩
def sum_any(B:Nat)(w:World)(v:Value)(l:Thk.Bs)(h:bU B w v l)(D:l.length<=1000000000):Calls prog 214 #[v] w λj q=>j=.returned (.int .u32 (nU l))/\q=w:=by
 obtain⟨t,u,rfl,o⟩:=TR h;have H:=ω h;clear h;go_enter func214,ntmps214;go_wp2_with fail;go_loopw [3,8] (λp a wr=>∃(k:Nat)(s:Int),a=I k/\p=.int .u32 s/\k<=l.length/\J (s=nU (l.take k))/\wr=w) (λ_ a _=>l.length-(intOf a).toNat);case atStart=>exact⟨0,2166136261,rfl,rfl,V,rfl,rfl⟩
 case round =>
  obtain⟨k,s,rfl,rfl,C,Hs,e⟩:=hrel;rw[e];clear e;by_cases d:k<l.length
  .obtain⟨m,n,A⟩:=o V;subst n;have i:(k:Int)<(l.length:Int):=V
   have x:w.cell? (O m k)=some (.int .u8 (l[k].toNat:Int)):=by rw[H.o.cellAt k V];simp[nO,d]
   have g:J<|nU (l.take (k+1))=gW s l[k]:=ω<|by rw[ν d,zD,<- Hs.o]
   have y:l[k].toNat<256:=UInt8.toNat_lt _;clear Hs;have f:J<|∀b:UInt8,gW s b=(bits .xor .u32 s (b.toNat:Int)*16777619) % 4294967296:=λb=>rfl;generalize l[k]=b at *;go_wp2;go_roundw;case rel=>exact⟨k+1,_,by first|rfl|go_num,rfl,V,by unfold J;rw[g.o];exact(f.o b).symm,by first|rfl|trivial⟩
   case measure=>simp[intOf]<;>omega
  .have i:¬(k:Int)<(l.length:Int):=V
   have c:k=l.length:=V
   have r:J<|s=nU l:=ω<|by rw[Hs.o,c,ϑm]
   clear c Hs;go_wp2;go_ret;exact⟨by rw[r.o];rfl,rfl⟩
def yI(s:Int):Nat->Thk.Bs
 | 0=>[]
 | k+1=>UInt8.ofNat (s % 256).toNat::yI (s / 256) k
def bM(l:Thk.Bs):Thk.Bs:=l++yI (nU l) 4
def Dz(B:Nat)(w:World)(v:Value)(l:Thk.Bs)(h:bU B w v l)(K:B<=w.heap.size)(hl:l.length<=1000000):Calls prog 156 #[v] w λe w'=>∃a3,e=.returned a3/\bU B w' a3 (bM l)/\dV B w w':=by
 obtain⟨R,L,N,P,Q⟩:=info_parts Tryz.infoU8;have n:J<|Calls prog 214 #[v] w λe w'=>e=.returned (.int .u32 (nU l))/\w'=w:=sum_any B w v l h V;have i:J<|bU B w v l/\dV B w w:=⟨h,dV.refl _ _⟩;have d:=yH l;clear h;go_enter func156,ntmps156;go_wp2_with fail;refine ψ n.o ?_;rintro e U⟨rfl,p⟩;rw[p];clear p U n;go_wp2_with fail;go_loopw [0,3,6] (λS T b wr=>∃(k:Nat)(s:Int)(g:Value)(m:Thk.Bs),g=S/\b=I k/\T=.int .u32 s/\k<=4/\0<=s/\s<4294967296/\m.length=l.length+k/\J (bM l=m++yI s (4-k))/\J (bU B wr g m/\dV B w wr)) (λ_ _ b _=>4-(intOf b).toNat);case atStart=>exact⟨0,nU l,v,l,rfl,rfl,rfl,V,d.1,d.2,V,rfl,i⟩
 case round =>
  clear i d;obtain⟨k,s,g,m,M,rfl,rfl,Y,a1,a2,a0,c,a⟩:=hrel;subst M;by_cases Z:k<4
  .have E:(k:Int)<4:=V
   have f:=a.o.1;have X:=ς K a.o.2.size;have G:m.length+1<=maxLen:=by unfold maxLen;omega
   have H:(m.length+1)*1<=140737488355328:=V
   unfold bU at f;go_wp2_with (first|(at_builtin;go_loud (refine wpList_append_own_at _ rfl (.tmp 8) (.tmp 11) 190 rfl B 5 R (.int .u8 0) 1 1 underlying190 L N P Q rfl Ψ _ _ _ rfl (f.alloc _) (z wr.heap.size) 1 1 [.int .u8 (s % 256)] rfl rfl (cell_one_new _ _ _) (by intro u r;simp at r;subst r;rfl) G H Θ ?_);intro b x t o y W;have j:=dV.app a.o.1 o;clear o W));have A:J<|bM l=(m++[UInt8.ofNat (s % 256).toNat])++yI (s / 256) (4-(k+1)):=ω<|by rw[c.o,(V:4-k=(4-(k+1))+1)];show m++(UInt8.ofNat (s % 256).toNat::yI (s / 256) (4-(k+1)))=_;simp
   have C:J<|bU B x b (m++[UInt8.ofNat (s % 256).toNat])/\dV B w x:=by
    refine⟨?_,a.o.2.trans j⟩;have F:nO (m++[UInt8.ofNat (s % 256).toNat])=nO m++[.int .u8 (s % 256)]:=by rw[jd];simp[nO,UInt8.toNat_ofNat'];omega
    unfold bU;rw[F,ρ];exact t
   clear t j f a c y;go_roundw;case rel=>exact⟨k+1,s / 256,b,m++[UInt8.ofNat (s % 256).toNat],rfl,by first|rfl|go_num,rfl,V,V,V,Θ,A,C⟩
   case measure=>simp[intOf]<;>omega
  .have E:¬(k:Int)<4:=V
   have q:4-k=0:=V
   have D:J<|bM l=m:=ω<|by rw[c.o,q];show m++[]=m;simp
   clear q c;go_wp2;go_ret;exact⟨_,rfl,by rw[D.o];exact a.o.1,a.o.2⟩
def LC(s:Int):∀k,(yI s k).length=k:=by
 intro k;induction k generalizing s with
 | zero=>rfl
 | succ k a=>show(yI (s / 256) k).length+1=k+1;rw[a]
def gJ(l:Thk.Bs):(bM l).length=l.length+4:=by unfold bM;rw[ρ,LC]
def fB(l:Thk.Bs):Option Thk.Bs:=if 4<=l.length/\bM (l.take (l.length-4))=l then some (l.take (l.length-4))else none
def Ai(l:Thk.Bs):fB (bM l)=some l:=by
 have a:=gJ l;have b:(bM l).take ((bM l).length-4)=l:=by rw[a,Nat.add_sub_cancel];unfold bM;rw[List.take_left]
 unfold fB;rw[b,ώ ⟨V,rfl⟩]
structure qp(B:Nat)(w:World)(v:Value)(l:Thk.Bs):Prop where
 ex:∃g cap,v=.slice (some (z g)) l.length cap/\B<=g/\U8 w g/\l.length<=cap/\(∀j(h:j<l.length),w.cell? (O g j)=some (.int .u8 (l[j].toNat:Int)))/\∀j,l.length<=j->j<cap->(w.cell? (O g j)).isSome=true/\w.frozen? (O g j)=false
def ac8{g:Nat}(h:U8 w g):g<w.heap.size:=by obtain⟨a,b,h⟩:=h;exact(Array.getElem?_eq_some_iff.1 h).1
def qp.alloc{l:Thk.Bs}(h:qp B w v l)(o:Obj):qp B (w.alloc o) v l:=by
 obtain⟨g,d,i,k,c,m,n,q⟩:=h.ex;have a:=(φ _ w).alloc (χ _) o;have b:=ac8 c;refine⟨g,d,i,k, ?_,m,λj u=>(a.cell (p:=(O g j)) b).trans (n j u),λj r s=>?_⟩
 .obtain⟨e,f,t⟩:=c;exact⟨e,f,(a.block g b).trans t⟩
 .have:=q j r s;rw[a.cell (p:=(O g j)) b,World.frozen?_of_block (a.block g b)];exact this
def qp.own{l:Thk.Bs}(h:bU B w v l)(d:l≠[]):qp B w v l:=by
 have k:=λg(n:v.ownBlock=some g)=>h.cells n;obtain⟨y,⟨q,e⟩|⟨g,c,b,rfl,f,a,i,s,t,u⟩⟩:=h
 .exact absurd (ϑr e) d
 .refine⟨g,c,rfl,f,⟨b,_,a⟩,i,λj o=>?_,λj x r=>?_⟩
  .have:=k g rfl j (.int .u8 (l[j].toNat:Int)) (by unfold nO;simp[o]);rw[Addr.add_lit,Nat.zero_add]at this;exact this
  .have p:j<b.size:=V
   have m:w.frozen? (O g j)=false:=by simp[World.frozen?,a]
   refine⟨?_,m⟩;simp[World.cell?,a,p]
def qp.append{l:Thk.Bs}(r:qp B w v l)(Z:B<=w.heap.size){P:Array Oper}{R:List Oper}{o:Oper}{a:Act}{Q:Exit->Act->World->Prop}(hg:o.guard=none)(s x:Operand)(a3:o.op=Op.call { callee:=Callee.builtin Builtin.append,args:=#[s,x],argTypes:=#[190,190] })(hs:a.eval s=v)(q:Addr)(c:Nat)(b:UInt8)(hx:a.eval x=.slice (some q) 1 c)(hc:∀j u,([.int .u8 (b.toNat:Int)]:List Value)[j]?=some u->w.cell? (q.add j)=some u)(hl:l.length<=1000000)(K:∀h e,qp B e h (l++[b])->dV B w e->wpList prog P Q R (a.put o.dst h) e):wpList prog P Q (o::R) a w:=by
 obtain⟨i0,hi,a5,a6,a7⟩:=info_parts Tryz.infoU8;obtain⟨g,i,X,D,t,h4,E,y⟩:=r.ex;have G:=ac8 t;have a2:∀j u,(nO l)[j]?=some u->w.cell? (O g (0+j))=some u:=λj u f=>by
  have d:j<l.length:=by have:=(ϑn.1 f).1;rw[QW]at this;exact this
  rw[Nat.zero_add,E j d,<- f];simp[nO,d]
 refine wpList_append_arg w hg s x 190 a3 5 i0 (.int .u8 0) 1 1 underlying190 hi a5 a6 a7 rfl Ψ g 0 l.length i (nO l) (by rw[hs,X]) (by rw[QW];omega) a2 q 1 c [.int .u8 (b.toNat:Int)] hx Ω hc (by intro u f;simp at f;subst f;rfl) ?_ (by unfold maxLen;omega) V ?_ ?_
 .intro N j d;have:j=0:=by simpa using d
  subst this;rw[(V:0+l.length*1+0=l.length)];exact y l.length (χ _) V
 .intro N;have a0:=y l.length (χ _) V;have hw:w.setCells g (0+l.length*1) [.int .u8 (b.toNat:Int)]=w.setCell (O g l.length) (.int .u8 (b.toNat:Int)):=by rw[(V:0+l.length*1=l.length)];(first|done|rfl)
  rw[hw];obtain⟨u0,a4⟩:=Option.isSome_iff_exists.1 a0.1;refine K _ _ ⟨g,i,by rw[ρ];rfl,D, ?_,by rw[ρ];exact N,λj d=>?_,λj F Y=>?_⟩ ?_
  .obtain⟨A,fz,n⟩:=t;refine⟨A.setIfInBounds l.length (.int .u8 (b.toNat:Int)),fz, ?_⟩;have hq:w.heap[g]=.cells A 5 fz:=by rw[Array.getElem?_eq_getElem G]at n;exact Option.some.inj n
   simp[World.setCell,G,Array.getElem_modify,hq]
  .rw[ρ]at d;by_cases m:j=l.length
   .subst m;rw[bV a4];simp
   .have H:j<l.length:=by simp at d;omega
    rw[aT (υ (λr=>m r.symm)),E j H,ϑk H]
  .rw[ρ]at F;have a8:l.length+1<=j:=F;have C:=y j V Y;rw[aT (υ V)];refine⟨C.1, ?_⟩;rw[<- C.2];exact World.frozen?_setCell _ _ _ _
  .refine aA.setCell (M:=λk=>B<=k/\U8 w k) (aA.refl _ w) (p:=(O g l.length)) ⟨D,t⟩ _
 .intro a9 h e L a1;have hO:bU B e h (l++[b]):=by
   have n:nO (l++[b])=nO l++[.int .u8 (b.toNat:Int)]:=by rw[jd];(first|done|rfl)
   unfold bU;rw[n,ρ];exact⟨L.1,L.2.imp id λ⟨g,i,S,T,U,W⟩=>⟨g,i,S,T,ς Z U,W⟩⟩
  exact K h e (qp.own hO Ω) ((aA.refl _ w).grown a1 (λk m=>by cases m))
def ZB(B:Nat)(w:World)(v:Value)(l:Thk.Bs)(h:qp B w v l)(E:l.length<=1000000000):Calls prog 214 #[v] w λm r=>m=.returned (.int .u32 (nU l))/\r=w:=by
 obtain⟨y,u,rfl,n,o,C,c,p⟩:=h.ex;have H:=ω c;clear h n o c p;go_enter func214,ntmps214;go_wp2_with fail;go_loopw [3,8] (λq a wr=>∃(k:Nat)(s:Int),a=I k/\q=.int .u32 s/\k<=l.length/\J (s=nU (l.take k))/\wr=w) (λ_ a _=>l.length-(intOf a).toNat);case atStart=>exact⟨0,2166136261,rfl,rfl,V,rfl,rfl⟩
 case round =>
  obtain⟨k,s,rfl,rfl,D,Hs,f⟩:=hrel;rw[f];clear f;by_cases e:k<l.length
  .have j:(k:Int)<(l.length:Int):=V
   have x:=H.o k e;have i:J<|nU (l.take (k+1))=gW s l[k]:=ω<|by rw[ν e,zD,<- Hs.o]
   have A:l[k].toNat<256:=UInt8.toNat_lt _;clear Hs;have g:J<|∀b:UInt8,gW s b=(bits .xor .u32 s (b.toNat:Int)*16777619) % 4294967296:=λb=>rfl;generalize l[k]=b at *;go_wp2;go_roundw;case rel=>exact⟨k+1,_,by first|rfl|go_num,rfl,V,by unfold J;rw[i.o];exact(g.o b).symm,by first|rfl|trivial⟩
   case measure=>simp[intOf]<;>omega
  .have j:¬(k:Int)<(l.length:Int):=V
   have d:k=l.length:=V
   have t:J<|s=nU l:=ω<|by rw[Hs.o,d,ϑm]
   clear d Hs;go_wp2;go_ret;exact⟨by rw[t.o];rfl,rfl⟩
def WW(B:Nat)(w:World)(v:Value)(l:Thk.Bs)(h:qp B w v l)(F:B<=w.heap.size)(Q:l.length<=900000):Calls prog 156 #[v] w λe w'=>∃x,e=.returned x/\qp B w' x (bM l)/\dV B w w':=by
 have n:J<|Calls prog 214 #[v] w λe w'=>e=.returned (.int .u32 (nU l))/\w'=w:=ZB B w v l h V;have i:J<|qp B w v l/\dV B w w:=⟨h,dV.refl _ _⟩;have f:=yH l;clear h;go_enter func156,ntmps156;go_wp2_with fail;refine ψ n.o ?_;rintro e L⟨rfl,o⟩;rw[o];clear o L n;go_wp2_with fail;go_loopw [0,3,6] (λH K c wr=>∃(k:Nat)(s:Int)(g:Value)(m:Thk.Bs),g=H/\c=I k/\K=.int .u32 s/\k<=4/\0<=s/\s<4294967296/\m.length=l.length+k/\J (bM l=m++yI s (4-k))/\J (qp B wr g m/\dV B w wr)) (λ_ _ c _=>4-(intOf c).toNat);case atStart=>exact⟨0,nU l,v,l,rfl,rfl,rfl,V,f.1,f.2,V,rfl,i⟩
 case round =>
  clear i f;obtain⟨k,s,g,m,G,rfl,rfl,N,S,T,R,d,a⟩:=hrel;subst G;by_cases P:k<4
  .have E:(k:Int)<4:=V
   have t:=a.o.1;have M:=ς F a.o.2.size;obtain⟨b,q⟩:∃b:UInt8,(b.toNat:Int)=s % 256:=⟨UInt8.ofNat (s % 256).toNat,by rw[UInt8.toNat_ofNat'];omega⟩;have j:J<|b=UInt8.ofNat (s % 256).toNat:=ω<|by apply UInt8.toNat_inj.1;rw[UInt8.toNat_ofNat'];omega
   go_wp2_with (first|(at_builtin;go_loud (refine qp.append (t.alloc _) Θ rfl (.tmp 8) (.tmp 11) rfl rfl (z wr.heap.size) 1 b rfl (by rw[q];exact cell_one_new _ _ _) V ?_);intro c y u p));have A:J<|bM l=(m++[b])++yI (s / 256) (4-(k+1)):=ω<|by rw[d.o,(V:4-k=(4-(k+1))+1),j.o];show m++(UInt8.ofNat (s % 256).toNat::yI (s / 256) (4-(k+1)))=_;simp
   have C:J<|qp B y c (m++[b])/\dV B w y:=⟨u,a.o.2.trans ((dV.of_below ((φ _ wr).alloc (χ _) _)).trans p)⟩;clear u p t a d q j;go_roundw;case rel=>exact⟨k+1,s / 256,c,m++[b],rfl,by first|rfl|go_num,rfl,V,V,V,Θ,A,C⟩
   case measure=>simp[intOf]<;>omega
  .have E:¬(k:Int)<4:=V
   have r:4-k=0:=V
   have D:J<|bM l=m:=ω<|by rw[d.o,r];show m++[]=m;simp
   clear r d;go_wp2;go_ret;exact⟨_,rfl,by rw[D.o];exact a.o.1,a.o.2⟩
def LG{l:Thk.Bs}(h:qp B w v l):(convert 190 9 v).run prog w=.ok (.string (strOfNums (l.map λb=>(b.toNat:Int)))) w:=by
 obtain⟨g,c,rfl,f,j,m,d,k⟩:=h.ex;refine run_convert_bytes_arg (P:=prog) _ 190 5 underlying190 underlying5 g 0 l.length c _ Ω ?_ 9 underlying9;intro i e;have a:i<l.length:=by simpa using e
 rw[Nat.zero_add,d i a];simp[a]
def LH(w:World)(s:ByteArray):∃v w',(convert 9 190 (.string s)).run prog w=.ok v w'/\qp w.heap.size w' v (ay s)/\Below w.heap.size w w':=by
 refine⟨_,_,run_bytes_of_string (P:=prog) w 9 190 5 s underlying9 underlying190 underlying5, ?_,((φ _ w).drew).alloc (χ _) _⟩;have k:=grownCap_ge w s.size 0 5;generalize grownCap w s.size 0 5=cap at *;have a:(ay s).length=s.size:=by unfold ay;rw[Array.length_toList];(first|done|rfl)
 have l:(bytesRow s cap).size=cap:=by unfold bytesRow;rw[Array.size_append,Array.size_map,Array.size_replicate];have:s.data.size=s.size:=rfl;omega
 refine⟨w.heap.size,cap,by rw[a],χ _,⟨_,_,heap_alloc_new w.drew _⟩,by rw[a];omega,λj b=>?_,λj h i=>?_⟩
 .have g:j<s.data.size:=by rw[a]at b;exact b
  have:=World.cell?_alloc_mark w.drew (bytesRow s cap) 5 ((bytesRow s cap).size,(bytesRow s cap).size+1) j;refine Eq.trans this ?_;rw[bytesRow_at s cap j g];rfl
 .have c:=World.cell?_alloc_mark w.drew (bytesRow s cap) 5 ((bytesRow s cap).size,(bytesRow s cap).size+1) j;have d:=World.frozen?_alloc_mark w.drew (bytesRow s cap) 5 (bytesRow s cap).size ((bytesRow s cap).size+1) j;refine⟨?_, ?_⟩
  .have e:(bytesRow s cap)[j]?=some ((bytesRow s cap)[j]'V):=Array.getElem?_eq_getElem _;have f:=c.trans e;exact Option.isSome_iff_exists.2 ⟨_,f⟩
  .refine Eq.trans d ?_;simp;omega
def yJ(l:Thk.Bs):ay (strOfNums (l.map λb=>(b.toNat:Int)))=l:=by unfold ay strOfNums;simp[ϑK,Function.comp_def]
def ZC{a b:ByteArray}(h:a=b):(a.toList==b.toList)=true:=by rw[h];exact beq_self_eq_true _
def ai3{a b:ByteArray}(h:¬a=b):(a.toList==b.toList)=false:=by rw[ό,toList_eq,toList_eq];exact λe=>h (nY e)
def I9(s:ByteArray)(w:World)(c:s.size<4):Calls prog 158 #[.string s] w λe a=>e=.returned (.tuple #[.string ⟨#[]⟩,.bool false])/\a=w:=by
 have b:(s.size:Int)-4<0:=V
 go_enter func158,ntmps158;go_wp2;go_ret2;exact⟨rfl,rfl⟩
def Aj(s:ByteArray)(w:World)(m:Nat)(C:s.size=m+4)(G:s.size<=900000)(a:Bool)(n:a=true↔bM (ay (s.extract 0 m))=ay s):Calls prog 158 #[.string s] w λe w'=>e=.returned (.tuple #[.string (if a then s.extract 0 m else⟨#[]⟩),.bool a])/\Below w.heap.size w w':=by
 obtain⟨v,q,p,o,d⟩:=LH w (s.extract 0 m);have u:(ay (s.extract 0 m)).length<=900000:=by
  have:(ay (s.extract 0 m)).length=(s.extract 0 m).size:=by unfold ay;rw[Array.length_toList];(first|done|rfl)
  rw[this,ϑo];omega
 have k:=ω p;have l:J<|Calls prog 156 #[v] q λe w'=>∃g,e=.returned g/\J ((convert 190 9 g).run prog w'=.ok (.string (strOfNums ((bM (ay (s.extract 0 m))).map λb=>(b.toNat:Int)))) w')/\J (Below w.heap.size w w'):=by refine ψ (WW w.heap.size q v _ o d.size u) ?_;rintro e w'⟨g,rfl,r,t⟩;exact⟨g,rfl,LG r,d.trans (t.below d.size)⟩
 have c:J<|strOfNums ((bM (ay (s.extract 0 m))).map λb=>(b.toNat:Int))=s↔a=true:=by
  unfold J;rw[n];constructor
  .intro h;have:=congrArg ay h;rw[yJ]at this;exact this
  .intro h;exact nY (by rw[yJ];exact h)
 generalize strOfNums ((bM (ay (s.extract 0 m))).map λb=>(b.toNat:Int))=y at *;have A:¬(s.size:Int)-4<0:=V
 have B:(s.size:Int)-4=(m:Int):=V
 have F:¬(m:Int)<0:=V
 have D:m<=s.size:=V
 have E:(m:Int)<=(s.size:Int):=V
 clear p o d n;go_enter func158,ntmps158;go_wp2_with fail;rw[k.o];go_wp2_with fail;refine ψ l.o ?_;rintro e K⟨H,rfl,j,i⟩;clear l k;go_wp2_with fail;rw[j.o];clear j;cases a with
 | true =>have f:=c.o.2 rfl;have x:=ZC f;clear c;subst f;go_wp2;go_ret2;exact⟨rfl,i.o⟩
 | false =>
  have f:¬y=s:=λh=>by have:=c.o.1 h;cases this
  have x:=ai3 f;clear c;go_wp2;go_ret2;exact⟨rfl,i.o⟩
def kZ(s:ByteArray)(w:World)(h:s.size<=900000):Calls prog 158 #[.string s] w λe w'=>e=.returned (.tuple #[.string ⟨((fB (ay s)).getD []).toArray⟩,.bool (fB (ay s)).isSome])/\Below w.heap.size w w':=by
 have g:(ay s).length=s.size:=by unfold ay;rw[Array.length_toList];(first|done|rfl)
 by_cases j:s.size<4
 .have a:fB (ay s)=none:=by unfold fB;rw[ύ V]
  rw[a];refine ψ (I9 s w j) ?_;rintro e w'⟨rfl,rfl⟩;exact⟨rfl,φ _ _⟩
 .obtain⟨m,c⟩:∃m,s.size=m+4:=⟨s.size-4,V⟩;have f:ay (s.extract 0 m)=(ay s).take m:=by unfold ay;rw[ByteArray.data_extract,Array.toList_extract];simp
  by_cases b:bM ((ay s).take m)=ay s
  .have a:fB (ay s)=some ((ay s).take m):=by unfold fB;rw[g,c,Nat.add_sub_cancel,ώ ⟨V,b⟩]
   rw[a];refine ψ (Aj s w m c h true (by rw[f];simp[b])) ?_;rintro e w'⟨rfl,d⟩;refine⟨?_,d⟩;have:s.extract 0 m=⟨((ay s).take m).toArray⟩:=nY (by rw[f];simp[ay]);rw[ώ rfl,this];(first|done|rfl)
  .have a:fB (ay s)=none:=by unfold fB;rw[g,c,Nat.add_sub_cancel,ύ (λi=>b i.2)]
   rw[a];refine ψ (Aj s w m c h false (by rw[f];simp[b])) ?_;rintro e w'⟨rfl,d⟩;exact⟨rfl,d⟩
def dD(n:Nat):Thk.Bs:=if h:n<128 then [UInt8.ofNat n]else UInt8.ofNat (n % 128+128)::dD (n / 128)
def o7{n:Nat}(h:n<128):dD n=[UInt8.ofNat n]:=by rw[dD,dif_pos h]
def o8{n:Nat}(h:¬n<128):dD n=UInt8.ofNat (n % 128+128)::dD (n / 128):=by rw[dD,dif_neg h]
def WX(n:Nat):1<=(dD n).length:=by
 by_cases h:n<128
 .rw[o7 h];simp
 .rw[o8 h];simp
def jc:∀k n,n<128 ^ (k+1)->(dD n).length<=k+1:=by
 intro k;induction k with
 | zero=>intro n h;rw[o7 V];simp
 | succ k ih =>
  intro n h;by_cases a:n<128
  .rw[o7 a];simp
  .rw[o8 a];have:=ih (n / 128) (by rw[Nat.pow_succ]at h;omega);simp;omega
def DC(B:Nat)(w:World)(v:Value)(l:Thk.Bs)(n:Nat)(C:bU B w v l)(T:B<=w.heap.size)(hl:l.length<=1000000)(W:n<268435456):Calls prog 174 #[v,I n] w λS w'=>∃P,S=.returned P/\bU B w' P (l++dD n)/\dV B w w':=by
 obtain⟨N,F,K,L,M⟩:=info_parts Tryz.infoU8;have A:J<|bU B w v l/\dV B w w:=⟨C,dV.refl _ _⟩;have j:(l++dD n).length<=1000010:=by rw[ρ];have:=jc 3 n V;omega
 clear C;go_enter func174,ntmps174;go_wp2_with fail;go_loopw [0,1] (λZ s wr=>∃(k:Nat)(p:Value)(m:Thk.Bs),p=Z/\s=I k/\k<268435456/\m.length+(dD k).length<=1000010/\J (l++dD n=m++dD k)/\J (bU B wr p m/\dV B w wr)) (λ_ s _=>(intOf s).toNat);case atStart=>exact⟨n,v,l,rfl,rfl,W,by rw[ρ]at j;exact j,rfl,A⟩
 case round =>
  clear A j;obtain⟨k,p,m,X,rfl,hk,a5,h,a⟩:=hrel;subst X;have e:=a.o.1;have a0:=ς T a.o.2.size;have a7:=WX k;have D:m.length+1<=maxLen:=by unfold maxLen;omega
  have E:(m.length+1)*1<=140737488355328:=V
  unfold bU at e;by_cases G:k<128
  .have U:¬(k:Int) > 127:=V
   have a1:(k:Int) % 256=k:=V
   go_wp2_with (first|(at_builtin;go_loud (refine wpList_append_own_at _ rfl (.tmp 16) (.tmp 19) 190 rfl B 5 N (.int .u8 0) 1 1 underlying190 F K L M rfl Ψ _ _ _ rfl (e.alloc _) (z wr.heap.size) 1 1 [.int .u8 (k:Int)] rfl rfl (cell_one_new _ _ _) (by intro Y c;simp at c;subst c;rfl) D E Θ ?_);intro t u f b y x;have d:=dV.app a.o.1 b;clear b x));go_ret;refine⟨_,rfl, ?_,a.o.2.trans d⟩;have i:nO (m++[UInt8.ofNat k])=nO m++[.int .u8 (k:Int)]:=by rw[jd];simp[nO,UInt8.toNat_ofNat'];omega
   rw[h.o,o7 G];unfold bU;rw[i,ρ];exact f
  .have U:(k:Int) > 127:=V
   obtain⟨q,H⟩:∃q,k / 128=q:=⟨_,rfl⟩;obtain⟨r,o⟩:∃r,k % 128+128=r:=⟨_,rfl⟩;have a4:bits .and .i64 (k:Int) 127=(k:Int) % 128:=by rw[I5 k V];omega
   have a6:bits .or .i64 ((k:Int) % 128) 128=(r:Int):=by have:=Dl (k % 128) V;rw[<- o,<- this];congr 1
   have a2:(r:Int) % 256=r:=V
   have a3:(k:Int) / 128=(q:Int):=V
   have g:J<|dD k=UInt8.ofNat r::dD q:=ω<|by rw[o8 G,H,o]
   have a9:r<256:=V
   have a8:q<k:=V
   have Y7:m.length+1+(dD q).length<=1000010:=by have:=congrArg List.length g.o;simp at this;omega
   clear H o;go_wp2_with (first|(at_builtin;go_loud (refine wpList_append_own_at _ rfl (.tmp 7) (.tmp 12) 190 rfl B 5 N (.int .u8 0) 1 1 underlying190 F K L M rfl Ψ _ _ _ rfl (e.alloc _) (z wr.heap.size) 1 1 [.int .u8 (r:Int)] rfl rfl (cell_one_new _ _ _) (by intro Y c;simp at c;subst c;rfl) D E Θ ?_);intro t u f b y x;have d:=dV.app a.o.1 b;clear b x));have Q:J<|l++dD n=(m++[UInt8.ofNat r])++dD q:=ω<|by rw[h.o,g.o];simp
   have R:J<|bU B u t (m++[UInt8.ofNat r])/\dV B w u:=by
    refine⟨?_,a.o.2.trans d⟩;have i:nO (m++[UInt8.ofNat r])=nO m++[.int .u8 (r:Int)]:=by rw[jd];simp[nO,UInt8.toNat_ofNat'];omega
    unfold bU;rw[i,ρ];exact f
   clear f d e a h y g;go_roundw;case rel=>exact⟨q,t,m++[UInt8.ofNat r],rfl,by first|rfl|go_num,V,Θ,Q,R⟩
   case measure=>simp[intOf]<;>omega
def TS(B:Nat)(w:World)(v:Value)(l:Thk.Bs)(s:ByteArray)(h:bU B w v l)(f:B<=w.heap.size)(A:l.length<=900000)(C:s.size<=1000000):Calls prog 173 #[v,.string s] w λe w'=>∃g,e=.returned g/\bU B w' g (l++dD s.size++ay s)/\dV B w w':=by
 obtain⟨t,o,p,q,r⟩:=info_parts Tryz.infoU8;have y:=jc 3 s.size V;have b:J<|_:=DC B w v l s.size h f V V;clear h;go_enter func173,ntmps173;go_wp2_with fail;refine ψ b.o ?_;rintro e F⟨D,rfl,d,a⟩;have n:=ς f a.size;have c:=ω d;have i:=ω a;have k:(l++dD s.size).length+s.size<=maxLen:=by unfold maxLen;simp;omega
 have m:(l++dD s.size).length+s.size<=140737488355328:=Θ
 clear d a b;go_wp2_with (first|(at_builtin;refine Lib.wpList_append_own_string _ rfl (.tmp 8) (.tmp 9) 190 9 rfl B 5 t underlying190 underlying9 o p q r _ _ _ rfl c.o s rfl k m n ?_;intro E G u j x));go_ret;refine⟨_,rfl, ?_,i.o.trans (dV.app0 c.o j)⟩;unfold bU;rw[jd,<- yF,ρ];exact u
def Bz:Nat->Nat->Nat->Thk.Bs->Option (Nat×Thk.Bs)
 | 0,_,_,_=>none
 | _+1,_,_,[]=>none
 | f+1,p,n,b::r=>if b.toNat<128 then some (n+b.toNat*p,r)else Bz f (p*128) (n+(b.toNat-128)*p) r
def yK:∀(f p n k:Nat)(r:Thk.Bs),k<128 ^ (f+1)->Bz (f+1) p n (dD k++r)=some (n+k*p,r)
 | f,p,n,k,r,hk=>by
  by_cases h:k<128
  .rw[o7 h];show(if(UInt8.ofNat k).toNat<128 then _ else _)=_;have:(UInt8.ofNat k).toNat=k:=by rw[UInt8.toNat_ofNat'];omega
   rw[this,ώ h];rfl
  .cases f with
   | zero=>omega
   | succ f =>
    rw[o8 h];show(if(UInt8.ofNat (k % 128+128)).toNat<128 then _ else _)=_;have:(UInt8.ofNat (k % 128+128)).toNat=k % 128+128:=by rw[UInt8.toNat_ofNat'];omega
    rw[this,ύ V,Nat.add_sub_cancel];have c:=yK f (p*128) (n+k % 128*p) (k / 128) r (by rw[Nat.pow_succ]at hk;omega);show Bz (f+1) (p*128) (n+k % 128*p) (dD (k / 128)++r)=_;rw[c];have a:k / 128*(p*128)=(k / 128*128)*p:=by rw[Nat.mul_comm p 128,Nat.mul_assoc]
    have b:k % 128*p+(k / 128*128)*p=k*p:=by rw[<- Nat.add_mul];congr 1;omega
    rw[a,Nat.add_assoc,b]
def or_hi{a b i:Nat}(h:a<2 ^ i):a ||| (b*2 ^ i)=a+b*2 ^ i:=by have:=Nat.two_pow_add_eq_or_of_lt h b;rw[Nat.or_comm,Nat.mul_comm b,<- this];omega
end
section
open Go.Proofs.Tryz Go.RowKit Go.Maps Go.WideMaps
variable{c:Bool}{k:Int}{db n:Nat}{w:World}
def WY{f p:Nat}{l r:Thk.Bs}{N:Nat}(h:Bz f p n l=some (N,r)):∃g b t,f=g+1/\l=b::t/\((b.toNat<128/\N=n+b.toNat*p/\r=t)\/(¬b.toNat<128/\Bz g (p*128) (n+(b.toNat-128)*p) t=some (N,r))):=by
 cases f with
 | zero=>cases h
 | succ g =>
  cases l with
  | nil=>cases h
  | cons b t =>
   refine⟨g,b,t,rfl,rfl, ?_⟩;have a:(if b.toNat<128 then some (n+b.toNat*p,t)else Bz g (p*128) (n+(b.toNat-128)*p) t)=some (N,r):=h;by_cases c:b.toNat<128
   .rw[ώ c]at a;cases a
    exact τ ⟨c,rfl,rfl⟩
   .rw[ύ c]at a;exact υ ⟨c,a⟩
def oh(a b i:Nat)(h:a<2 ^ i)(c:a+b*2 ^ i<9223372036854775808):bits .or .i64 (a:Int) ((b*2 ^ i:Nat):Int)=((a+b*2 ^ i:Nat):Int):=by have e:=og .i64 a (b*2 ^ i) (by show a<18446744073709551616;omega) (by show b*2 ^ i<18446744073709551616;omega);rw[e,or_hi h];exact wrap_i64 _ c
def oq(w:World)(rb:Nat)(s:ByteArray)(N lo a9:Nat)(r:Thk.Bs)(B:mO w rb s)(W:Bz 4 1 0 (ay s)=some (N,r))(h1:lo<=N)(h2:N<=a9)(a4:a9<=1000000000)(a6:s.size<=1000000000):Calls prog 160 #[.pointer (some (z rb)),I lo,I a9] w λZ w'=>∃Y,Z=.returned (I N)/\mO w' rb Y/\ay Y=r/\aA (λk=>k=rb) w w':=by
 have c0:=(B.cell 0).trans rfl;have c1:=(B.cell 1).trans rfl;have f0:=B.frozen;have D:=ω B;have Q:J<|Bz 4 1 0 ((ay s).drop 0)=some (N,r):=W;have C:(ay s).length=s.size:=by unfold ay;rw[Array.length_toList];(first|done|rfl)
 clear B W;go_enter func160,ntmps160;go_wp2_with fail;go_loopw [7,8] (λv7 P wx=>∃(k n:Nat),P=I k/\v7=I n/\k<=4/\J (n<128 ^ k)/\J (Bz (4-k) (128 ^ k) n ((ay s).drop k)=some (N,r))/\wx=w) (λ_ P _=>4-(intOf P).toNat);case atStart=>exact⟨0,0,rfl,rfl,V,by unfold J;decide,Q,rfl⟩
 case round =>
  clear Q;obtain⟨k,n,rfl,rfl,hk,S,R,X⟩:=hrel;rw[X];clear X;obtain⟨g,b,t,hg,A,E⟩:=WY R.o;have a5:k<4:=V
  have y:k<s.size:=by have:=congrArg List.length A;rw[List.length_drop,C]at this;simp at this;omega
  have U:(s[k]'y)=b:=by have e1:s[k]'y=(ay s)[k]'(by rw[C];exact y):=rfl;have F:(ay s).drop k=(ay s)[k]'(by rw[C];exact y)::(ay s).drop (k+1):=List.drop_eq_getElem_cons _;rw[F]at A;rw[e1];exact(List.cons.inj A).1
  have a2:t=(ay s).drop (k+1):=by have F:(ay s).drop k=(ay s)[k]'(by rw[C];exact y)::(ay s).drop (k+1):=List.drop_eq_getElem_cons _;rw[F]at A;exact(List.cons.inj A).2.symm
  have a3:(s[k]'y).toNat=b.toNat:=by rw[U]
  have T:b.toNat<256:=UInt8.toNat_lt _;have f:=S.o;clear R A S U;have a1:g=4-(k+1):=V
  subst a2 a1;clear hg;have a0:=Dp b.toNat T;have j:=Dq b.toNat T;have e:J<|ay (s.extract (k+1) s.size)=(ay s).drop (k+1):=ω<|by rw[fU,<- C,ϑm]
  generalize b.toNat=i at *;obtain⟨x,hx⟩:∃x,i % 128=x:=⟨_,rfl⟩;rw[hx]at a0;have a7:x<128:=V
  obtain rfl|rfl|rfl|rfl:k=0\/k=1\/k=2\/k=3:=V
  .
   have u:n<1:=by simpa using f
   have K:bits .or .i64 (n:Int) (x:Int)=((n+x*1:Nat):Int):=by have:=oh n x 0 (by show n<1;exact u) (by show n+x*1<9223372036854775808;omega);rw[show(x:Int)=((x*2 ^ 0:Nat):Int) by(show(x:Int)=((x*1:Nat):Int));omega];exact this
   have L:(0:Int)<(s.size:Int):=V
   rcases E with⟨d,a8,h⟩|⟨d,c⟩
   .rw[ώ d]at j;have a:i=x:=V
    have o:N=n+x*1:=by rw[a8,a]
    have m:J<|ay (s.extract 1 s.size)=r:=by rw[h];exact e
    clear e h a8 a f;generalize q:n+x*1=M at *;clear q;subst o;have H:¬(N:Int)<(lo:Int):=V
    have G:¬(N:Int) > (a9:Int):=V
    go_wp2_with fail;go_ret;exact⟨rfl,_,D.o.set0 _,m.o,(aA.refl (λk=>k=rb) w).setCell (p:=(z rb)) rfl _⟩
   .rw[ύ d]at j;have a:i-128=x:=V
    rw[a]at c;have l:J<|Bz (4-1) (128 ^ 1) (n+x*1) ((ay s).drop 1)=some (N,r):=c;have v:J<|n+x*1<128 ^ 1:=ω<|by show n+x*1<128;omega
    clear e c a f;generalize n+x*1=M at *;go_wp2;go_roundw;case rel=>exact⟨1,M,by first|rfl|go_num,rfl,V,v,l,by first|rfl|trivial⟩
    case measure=>simp[intOf]<;>omega
  .
   have u:n<128:=by simpa using f
   have K:bits .or .i64 (n:Int) ((x:Int)*128)=((n+x*128:Nat):Int):=by have:=oh n x 7 (by show n<128;exact u) (by show n+x*128<9223372036854775808;omega);rw[show((x:Int)*128)=((x*2 ^ 7:Nat):Int) by(show((x:Int)*128)=((x*128:Nat):Int));omega];exact this
   have L:(1:Int)<(s.size:Int):=V
   rcases E with⟨d,a8,h⟩|⟨d,c⟩
   .rw[ώ d]at j;have a:i=x:=V
    have o:N=n+x*128:=by rw[a8,a]
    have m:J<|ay (s.extract 2 s.size)=r:=by rw[h];exact e
    clear e h a8 a f;generalize q:n+x*128=M at *;clear q;subst o;have H:¬(N:Int)<(lo:Int):=V
    have G:¬(N:Int) > (a9:Int):=V
    go_wp2_with fail;go_ret;exact⟨rfl,_,D.o.set0 _,m.o,(aA.refl (λk=>k=rb) w).setCell (p:=(z rb)) rfl _⟩
   .rw[ύ d]at j;have a:i-128=x:=V
    rw[a]at c;have l:J<|Bz (4-2) (128 ^ 2) (n+x*128) ((ay s).drop 2)=some (N,r):=c;have v:J<|n+x*128<128 ^ 2:=ω<|by show n+x*128<16384;omega
    clear e c a f;generalize n+x*128=M at *;go_wp2;go_roundw;case rel=>exact⟨2,M,by first|rfl|go_num,rfl,V,v,l,by first|rfl|trivial⟩
    case measure=>simp[intOf]<;>omega
  .
   have u:n<16384:=by simpa using f
   have K:bits .or .i64 (n:Int) ((x:Int)*16384)=((n+x*16384:Nat):Int):=by have:=oh n x 14 (by show n<16384;exact u) (by show n+x*16384<9223372036854775808;omega);rw[show((x:Int)*16384)=((x*2 ^ 14:Nat):Int) by(show((x:Int)*16384)=((x*16384:Nat):Int));omega];exact this
   have L:(2:Int)<(s.size:Int):=V
   rcases E with⟨d,a8,h⟩|⟨d,c⟩
   .rw[ώ d]at j;have a:i=x:=V
    have o:N=n+x*16384:=by rw[a8,a]
    have m:J<|ay (s.extract 3 s.size)=r:=by rw[h];exact e
    clear e h a8 a f;generalize q:n+x*16384=M at *;clear q;subst o;have H:¬(N:Int)<(lo:Int):=V
    have G:¬(N:Int) > (a9:Int):=V
    go_wp2_with fail;go_ret;exact⟨rfl,_,D.o.set0 _,m.o,(aA.refl (λk=>k=rb) w).setCell (p:=(z rb)) rfl _⟩
   .rw[ύ d]at j;have a:i-128=x:=V
    rw[a]at c;have l:J<|Bz (4-3) (128 ^ 3) (n+x*16384) ((ay s).drop 3)=some (N,r):=c;have v:J<|n+x*16384<128 ^ 3:=ω<|by show n+x*16384<2097152;omega
    clear e c a f;generalize n+x*16384=M at *;go_wp2;go_roundw;case rel=>exact⟨3,M,by first|rfl|go_num,rfl,V,v,l,by first|rfl|trivial⟩
    case measure=>simp[intOf]<;>omega
  .
   have u:n<2097152:=by simpa using f
   have K:bits .or .i64 (n:Int) ((x:Int)*2097152)=((n+x*2097152:Nat):Int):=by have:=oh n x 21 (by show n<2097152;exact u) (by show n+x*2097152<9223372036854775808;omega);rw[show((x:Int)*2097152)=((x*2 ^ 21:Nat):Int) by(show((x:Int)*2097152)=((x*2097152:Nat):Int));omega];exact this
   have L:(3:Int)<(s.size:Int):=V
   rcases E with⟨d,a8,h⟩|⟨d,c⟩
   .rw[ώ d]at j;have a:i=x:=V
    have o:N=n+x*2097152:=by rw[a8,a]
    have m:J<|ay (s.extract 4 s.size)=r:=by rw[h];exact e
    clear e h a8 a f;generalize q:n+x*2097152=M at *;clear q;subst o;have H:¬(N:Int)<(lo:Int):=V
    have G:¬(N:Int) > (a9:Int):=V
    go_wp2_with fail;go_ret;exact⟨rfl,_,D.o.set0 _,m.o,(aA.refl (λk=>k=rb) w).setCell (p:=(z rb)) rfl _⟩
   .rw[ύ d]at j;have a:i-128=x:=V
    rw[a]at c;have l:J<|Bz (4-4) (128 ^ 4) (n+x*2097152) ((ay s).drop 4)=some (N,r):=c;have v:J<|n+x*2097152<128 ^ 4:=ω<|by show n+x*2097152<268435456;omega
    clear e c a f;generalize n+x*2097152=M at *;go_wp2;go_roundw;case rel=>exact⟨4,M,by first|rfl|go_num,rfl,V,v,l,by first|rfl|trivial⟩
    case measure=>simp[intOf]<;>omega
def TT(w:World)(rb:Nat)(s:ByteArray)(t r:Thk.Bs)(h:mO w rb s)(d:ay s=dD t.length++t++r)(B:t.length<268435456)(m:s.size<=1000000000):Calls prog 247 #[.pointer (some (z rb))] w λg w'=>∃u n,g=.returned (.string u)/\ay u=t/\mO w' rb n/\ay n=r/\aA (λk=>k=rb) w w':=by
 have x:=(h.cell 0).trans rfl;have j:s.size=(dD t.length++t++r).length:=by rw[<- d];simp[ay]
 have l:Bz 4 1 0 (ay s)=some (t.length,t++r):=by rw[d,ϑl];have:=yK 3 1 0 t.length (t++r) V;rw[this];simp
 have f:J<|_:=oq w rb s t.length 0 s.size (t++r) h l (Nat.zero_le _) (by rw[j];simp;omega) m m;clear h j d l;go_enter func247,ntmps247;go_wp2_with fail;refine ψ f.o ?_;rintro g o⟨a,rfl,b,c,i⟩;have x:=(b.cell 0).trans rfl;have f0:=b.frozen;have A:t.length<=a.size:=by
  have:a.size=(ay a).length:=by simp[ay]
  rw[this,c];simp
 have v:J<|ay (a.extract 0 t.length)=t:=ω<|by rw[yu,c];simp
 have q:J<|ay (a.extract t.length a.size)=r:=ω<|by rw[Dk,c];simp
 have e:J<|mO o rb a/\aA (λk=>k=rb) w o:=⟨b,i⟩;have y:(t.length:Int)<=(a.size:Int):=V
 generalize t.length=C at *;clear f b c i;go_wp2_with fail;go_ret;exact⟨_,_,rfl,v.o,e.o.1.set0 _,q.o,e.o.2.setCell (p:=(z rb)) rfl _⟩
def slotL(n:Nat)(t:Thk.Bs):Thk.Bs:=bM (dD n++(dD t.length++t))
def Xa{B:Nat}{v:Value}{l:Thk.Bs}(h:bU B w v l)(a:l≠[]):(convert 190 9 v).run prog w=.ok (.string (strOfNums (l.map λb=>(b.toNat:Int)))) w:=LG (qp.own h a)
def wW(w:World)(n:Nat)(s:ByteArray)(x:n<268435456)(E:s.size<=800000):Calls prog 119 #[I n,.string s] w λe w'=>∃u,e=.returned (.string u)/\ay u=slotL n (ay s)/\Below w.heap.size w w':=by
 have h:(ay s).length=s.size:=by unfold ay;rw[Array.length_toList];(first|done|rfl)
 have r:=jc 3 n V;have t:=jc 3 s.size V;have i:J<|Calls prog 174 #[.slice none 0 0,I n] w λe w'=>∃a,e=.returned a/\J (bU w.heap.size w' a (dD n)/\Below w.heap.size w w'):=by refine ψ (DC w.heap.size w _ [] n (bU.nil _ _) (χ _) Ω x) ?_;rintro e w'⟨a,rfl,d,g⟩;exact⟨a,rfl,d,g.below (χ _)⟩
 have j:J<|∀v b,(bU w.heap.size b v (dD n)/\Below w.heap.size w b)->Calls prog 173 #[v,.string s] b λe w'=>∃a,e=.returned a/\J (bU w.heap.size w' a (dD n++(dD (ay s).length++ay s))/\Below w.heap.size w w'):=λv b c=>by refine ψ (TS w.heap.size b v _ s c.1 c.2.size V V) ?_;rintro e w'⟨a,rfl,d,g⟩;rw[ϑl,<- h]at d;exact⟨a,rfl,d,c.2.trans (g.below c.2.size)⟩
 have k:J<|∀v b,(bU w.heap.size b v (dD n++(dD (ay s).length++ay s))/\Below w.heap.size w b)->Calls prog 156 #[v] b λe w'=>∃a,e=.returned a/\J ((convert 190 9 a).run prog w'=.ok (.string (strOfNums ((slotL n (ay s)).map λf=>(f.toNat:Int)))) w')/\J (Below w.heap.size w w'):=λv b c=>by refine ψ (Dz w.heap.size b v _ c.1 c.2.size (by rw[h];simp only[ρ];omega)) ?_;rintro e w'⟨a,rfl,d,g⟩;refine⟨a,rfl,Xa d (λe=>?_),c.2.trans (g.below c.2.size)⟩;have:=congrArg List.length e;unfold slotL at this;rw[gJ]at this;simp at this
 have q:J<|ay (strOfNums ((slotL n (ay s)).map λf=>(f.toNat:Int)))=slotL n (ay s):=yJ _;generalize strOfNums ((slotL n (ay s)).map λf=>(f.toNat:Int))=y at *;clear h r t;go_enter func119,ntmps119;go_wp2_with fail;refine ψ i.o ?_;rintro e C⟨A,rfl,l⟩;clear i;go_wp2_with fail;refine ψ (j.o A C l.o) ?_;rintro e D⟨B,rfl,m⟩;clear j l;go_wp2_with fail;refine ψ (k.o B D m.o) ?_;rintro e G⟨F,rfl,p,o⟩;clear k m;go_wp2_with fail;rw[p.o];go_wp2;go_ret;exact⟨y,rfl,q.o,o.o⟩
def DF{wx wy:World}{rb:Nat}(b:Below w.heap.size w wx)(a:aA (λk=>k=rb) wx wy)(d:w.heap.size<=rb):Below w.heap.size w wy :=
 b.trans ⟨a.os,a.tape,a.output,a.size,λk c=>a.block k (ο c b.size) V⟩
def Ja(w:World)(q:ByteArray)(n:Nat)(t:Thk.Bs)(p:ay q=slotL n t)(P:n<268435456)(R:t.length<=800000):Calls prog 233 #[.string q] w λe w'=>∃u,e=.returned (.tuple #[I n,.string u,.bool true])/\ay u=t/\Below w.heap.size w w':=by
 have E:q.size=(slotL n t).length:=by rw[<- p];unfold ay;rw[Array.length_toList];(first|done|rfl)
 have M:=jc 3 n V;have N:=jc 3 t.length V;have F:q.size<=900000:=by rw[E];unfold slotL;rw[gJ];simp only[ρ];omega
 have G:fB (ay q)=some (dD n++(dD t.length++t)):=by rw[p];exact Ai _
 have f:J<|_:=kZ q w F;rw[G]at f;generalize D:((some (dD n++(dD t.length++t))).getD [])=L at f;have o:L=dD n++(dD t.length++t):=D.symm;have K:L.length<=900000:=by rw[o];simp only[ρ];omega
 have A:(⟨L.toArray⟩:ByteArray).size=L.length:=by show L.toArray.size=_;simp
 have B:ay (⟨L.toArray⟩:ByteArray)=L:=by unfold ay;simp
 have s:J<|∀c a,mO c a ⟨L.toArray⟩->Calls prog 160 #[.pointer (some (z a)),I 0,I 268435455] c λe w'=>∃b,e=.returned (I n)/\J (mO w' a b/\ay b=dD t.length++t/\b.size<=900000/\aA (λk=>k=a) c w'):=λc a d=>by
  have Q:Bz 4 1 0 (ay (⟨L.toArray⟩:ByteArray))=some (n,dD t.length++t):=by rw[B,o,yK 3 1 0 n (dD t.length++t) V];simp
  refine ψ (oq c a ⟨L.toArray⟩ n 0 268435455 _ d Q (Nat.zero_le _) V V (by rw[A];omega)) ?_;rintro e w'⟨b,rfl,l,i,m⟩;refine⟨b,rfl,l,i, ?_,m⟩;have:b.size=(ay b).length:=by simp[ay]
  rw[this,i];simp only[ρ];omega
 have x:J<|∀c a b,(mO c a b/\ay b=dD t.length++t/\b.size<=900000)->Calls prog 247 #[.pointer (some (z a))] c λe w'=>∃u j,e=.returned (.string u)/\J (ay u=t/\mO w' a j/\ay j=[]/\aA (λk=>k=a) c w'):=λc a b d=>by refine ψ (TT c a b t [] d.1 (by rw[d.2.1,List.append_nil]) V (by have:=d.2.2;omega)) ?_;rintro e w'⟨u,j,rfl,l,i,m,H⟩;exact⟨u,j,rfl,l,i,m,H⟩
 clear G D o K A B F M N E p R P;generalize (⟨L.toArray⟩:ByteArray)=S at *;go_enter func233,ntmps233;go_wp2_with fail;refine ψ f.o ?_;rintro e W⟨rfl,C⟩;simp only[Option.isSome_some];have y:=ω C;clear f C;go_wp2_with fail;refine ψ (jG _ _) ?_;rintro e X⟨rfl,rfl⟩;go_wp2_with fail;refine ψ (s.o _ _ (aC.new _ _ _)) ?_;rintro e Y⟨T,rfl,g⟩;clear s;go_wp2_with fail;refine ψ (x.o _ _ _ ⟨g.o.1,g.o.2.1,g.o.2.2.1⟩) ?_;rintro e Z⟨u,U,rfl,h⟩;clear x;go_wp2_with fail;refine ψ (zC _ _ _ h.o.2.1 h.o.2.2.1) ?_;rintro e w5⟨rfl,rfl⟩;go_wp2;have r:=y.o.size;exact ϐ (v:=.tuple #[I n,.string u,.bool true]) (by simp[results,Tryz.results233,go_sem]) rfl ⟨u,rfl,h.o.1,DF (DF (y.o.alloc r _) g.o.2.2.2 r) h.o.2.2.2 r⟩
def Ak(w:World)(q:ByteArray)(c:fB (ay q)=none)(d:q.size<=900000):Calls prog 233 #[.string q] w λe w'=>e=.returned (.tuple #[I 0,.string ⟨#[]⟩,.bool false])/\Below w.heap.size w w':=by have a:J<|_:=kZ q w d;rw[c]at a;clear c d;go_enter func233,ntmps233;go_wp2_with fail;refine ψ a.o ?_;rintro e g⟨rfl,b⟩;simp only[Option.isSome_none];have f:=ω b;clear a b;go_wp2;exact ϐ (v:=.tuple #[I 0,.string ⟨#[]⟩,.bool false]) (by simp[results,Tryz.results233,go_sem]) rfl ⟨rfl,f.o⟩
def gu(w:World)(db:Nat)(sl:Nat->ByteArray)(c:Bool)(k:Int):Prop:=aC w db #[.string (sl 0),.string (sl 1),.bool c,I k] 187
def yL(sl:Nat->ByteArray)(n:Nat)(s:ByteArray):Nat->ByteArray:=λi=>if i=n % 2 then s else sl i
def gu.cellS{a:Nat->ByteArray}(h:gu w db a c k)(n:Nat):w.cell? (O db (n % 2))=some (.string (a (n % 2))):=by rw[aC.cell h];rcases Nat.mod_two_eq_zero_or_one n with e|e<;>rw[e]<;>rfl
def gu.put{a:Nat->ByteArray}(h:gu w db a c k)(n:Nat)(s:ByteArray):gu (w.setCell (O db (n % 2)) (.string s)) db (yL a n s) c k:=by unfold gu yL at *;unfold aC at h⊢;rcases Nat.mod_two_eq_zero_or_one n with e|e<;>simp[e,World.setCell,μ,h]
def DI(w:World)(db:Nat)(n:Nat)(s:ByteArray)(a:Nat->ByteArray)(c:Bool)(k:Int)(h:gu w db a c k):Calls prog 118 #[.pointer (some (z db)),I n,.string s] w λe w'=>e=.returned (.tuple #[])/\gu w' db (yL a n s) c k/\aA (λx=>x=db) w w':=by have d:=h.cellS n;have f0:=aC.frozen h (n % 2);have b:J<|gu (w.setCell (O db (n % 2)) (.string s)) db (yL a n s) c k/\aA (λx=>x=db) w (w.setCell (O db (n % 2)) (.string s)):=⟨h.put n s,(aA.refl (λx=>x=db) w).setCell (p:=(O db (n % 2))) rfl _⟩;clear h;go_enter func118,ntmps118;go_wp2_with fail;refine bodyPost_end (results_none rfl _ _ _) rfl ?_;exact⟨rfl,b.o⟩
def Xb(w:World)(s:ByteArray)(l:s.size<=800000):Calls prog 65 #[.string s] w λe w'=>e=.returned (.pointer (some (z w.heap.size)))/\(∃u,ay u=slotL 0 (ay s)/\gu w' w.heap.size (yL (λ_=>⟨#[]⟩) 0 u) false 0)/\Below w.heap.size w w':=by have d:J<|∀b,Calls prog 119 #[I 0,.string s] b λe w'=>∃u,e=.returned (.string u)/\J (ay u=slotL 0 (ay s))/\J (Below b.heap.size b w'):=λb=>wW b 0 s V l;clear l;go_enter func65,ntmps65;go_wp2_with fail;refine ψ (d.o _) ?_;rintro e w1⟨u,rfl,o,a⟩;clear d;have c:gu w1 w.heap.size (λ_=>⟨#[]⟩) false 0:=(aC.new w _ _).below a.o;have g:J<|_:=DI w1 w.heap.size 0 u _ _ _ c;have h:Below w.heap.size w w1:=((φ _ w).alloc (χ _) _).trans ⟨a.o.os,a.o.tape,a.o.output,a.o.size,λk c=>a.o.block k Θ⟩;have n:=ω h;clear c h a;go_wp2_with fail;refine ψ g.o ?_;rintro e m⟨rfl,j,i⟩;have f:J<|gu m w.heap.size (yL (λ_=>⟨#[]⟩) 0 u) false 0/\aA (λx=>x=w.heap.size) w1 m:=⟨j,i⟩;clear g j i;go_wp2_with fail;go_ret;exact⟨rfl,⟨u,o.o,f.o.1⟩,DF n.o f.o.2 (χ _)⟩
def Opens(q:ByteArray)(o:Nat×Thk.Bs×Bool):Prop:=∀wx,Calls prog 233 #[.string q] wx λe w'=>∃u,e=.returned (.tuple #[I o.1,.string u,.bool o.2.2])/\ay u=o.2.1/\Below wx.heap.size wx w'
def gB(O:Nat->Nat×Thk.Bs×Bool):Nat->Nat×Thk.Bs
 | 0=>(0,[])
 | i+1=>if(O i).2.2=true/\(gB O i).1<=(O i).1 then((O i).1,(O i).2.1)else gB O i
def sZ(w:World)(db:Nat)(b:Nat->ByteArray)(c:Bool)(k:Int)(a:Nat->Nat×Thk.Bs×Bool)(l:gu w db b c k)(q:∀i,i<2->Opens (b i) (a i)):Calls prog 204 #[.pointer (some (z db))] w λe w'=>∃u,e=.returned (.tuple #[I ((gB a 2).1),.string u])/\ay u=(gB a 2).2/\Below w.heap.size w w':=by
 have T:=(aC.cell l 0).trans rfl;have U:=(aC.cell l 1).trans rfl;have C:=ω q;clear l q;go_enter func204,ntmps204;go_wp2_with fail;go_loopg [2,3,13] 2 (λE P Q N S=>∃i:Nat,i+E=2/\N=I i/\P=I ((gB a i).1)/\(∃u,Q=.string u/\ay u=(gB a i).2)/\Below w.heap.size w S);case atStart=>exact⟨0,V,rfl,rfl,⟨_,rfl,rfl⟩,φ _ w⟩
 case round =>
  obtain⟨i,W,rfl,rfl,⟨u,rfl,y⟩,r⟩:=hrel;have f:J<|Below w.heap.size w wr/\ay u=(gB a i).2:=⟨r,y⟩;clear r y;by_cases G:i<2
  .have p:J<|_:=C.o i G wr;have F:(#[Value.string (b 0),Value.string (b 1)]:Array Value)[i]?=some (.string (b i)):=by rcases(by omega:i=0\/i=1)with e|e<;>subst e<;>rfl
   have t:gB a (i+1)=if(a i).2.2=true/\(gB a i).1<=(a i).1 then((a i).1,(a i).2.1)else gB a i:=rfl
   have d:J<|_:=t;clear t;have H:(Instr.index 185 (Value.agg #[Value.string (b 0),Value.string (b 1)]) (I i)).run prog wr=.ok (.string (b i)) wr:=by rcases(by omega:i=0\/i=1)with e|e<;>subst e<;>first|rfl|(simp[Instr.index,go_sem,underlying185];try rfl)
   go_wp2_with fail;refine ψ p.o ?_;rintro e R⟨B,rfl,A,g⟩;have s:=f.o.1.trans ⟨g.os,g.tape,g.output,g.size,λk K=>g.block k (ο K f.o.1.size)⟩;have h:J<|ay B=(a i).2.1/\Below w.heap.size w R:=⟨A,s⟩;clear p F H A g s;obtain⟨⟨n,X,D⟩,L⟩:∃o,a i=o:=⟨_,rfl⟩;rw[L]at d h⊢;generalize x:(gB a i).1=m at *;cases D
   .go_wp2_with fail;go_roundg (2-(i+1));case measure=>omega
    case rel=>exact⟨i+1,V,Λ,by rw[d.o];simp[x],⟨u,rfl,by rw[d.o];simp[f.o.2]⟩,h.o.2⟩
   .by_cases j:m<=n
    .have M:(m:Int)<=(n:Int):=V
     go_wp2_with fail;go_roundg (2-(i+1));case measure=>omega
     case rel=>exact⟨i+1,V,Λ,by rw[d.o];simp[j],⟨B,rfl,by rw[d.o];simp[j,h.o.1]⟩,h.o.2⟩
    .have M:¬(m:Int)<=(n:Int):=V
     go_wp2_with fail;go_roundg (2-(i+1));case measure=>omega
     case rel=>exact⟨i+1,V,Λ,by rw[d.o];simp[j,x],⟨u,rfl,by rw[d.o];simp[j,f.o.2]⟩,h.o.2⟩
  .have e:i=2:=V
   subst e;go_wp2;exact ϐ (v:=.tuple #[I ((gB a 2).1),.string u]) (by simp[results,Tryz.results204,go_sem]) rfl ⟨u,rfl,f.o.2,f.o.1⟩
def TU(w:World)(db:Nat)(b:Nat->ByteArray)(c:Bool)(k:Int)(a:Nat->Nat×Thk.Bs×Bool)(h:gu w db b c k)(f:∀i,i<2->Opens (b i) (a i)):Calls prog 170 #[.pointer (some (z db))] w λe w'=>∃u,e=.returned (.string u)/\ay u=(gB a 2).2/\Below w.heap.size w w':=by have d:J<|_:=sZ w db b c k a h f;clear h f;go_enter func170,ntmps170;go_wp2_with fail;refine ψ d.o ?_;rintro e m⟨u,rfl,j,g⟩;have l:J<|ay u=(gB a 2).2/\Below w.heap.size w m:=⟨j,g⟩;clear d j g;go_wp2_with fail;go_ret;exact⟨u,rfl,l.o⟩
def TV(w:World)(db:Nat)(b:Nat->ByteArray)(k:Int)(c:Nat->Nat×Thk.Bs×Bool)(s:ByteArray)(h:gu w db b false k)(v:∀i,i<2->Opens (b i) (c i))(E:(gB c 2).1+1<268435456)(A:s.size<=800000):Calls prog 144 #[.pointer (some (z db)),.string s] w λe w'=>e=.returned (.bool true)/\(∃q,ay q=slotL ((gB c 2).1+1) (ay s)/\gu w' db (yL b ((gB c 2).1+1) q) false k)/\aA (λx=>x=db) w w':=by
 have n:J<|_:=sZ w db b false k c h v;have l:=ω h;generalize (gB c 2).1=m at *;have g:(m:Int)+1=((m+1:Nat):Int):=V
 have r:J<|∀a,Calls prog 119 #[I ((m:Int)+1),.string s] a λe w'=>∃u,e=.returned (.string u)/\J (ay u=slotL (m+1) (ay s))/\J (Below a.heap.size a w'):=λa=>by rw[g];exact wW a (m+1) s E A
 have o:J<|∀a q,gu a db b false k->Calls prog 118 #[.pointer (some (z db)),I ((m:Int)+1),.string q] a λe w'=>e=.returned (.tuple #[])/\J (gu w' db (yL b (m+1) q) false k/\aA (λx=>x=db) a w'):=λa q G=>by rw[g];exact DI a db (m+1) q b false k G
 clear h v A g;go_enter func144,ntmps144;go_wp2_with fail;refine ψ n.o ?_;rintro e H⟨u,rfl,F,y⟩;have d:=ω y;clear n F y;go_wp2_with fail;refine ψ (r.o _) ?_;rintro e j⟨q,rfl,C,f⟩;have hd2:gu j db b false k:=(l.o.below d.o).below f.o;have D:=(aC.cell hd2 2).trans rfl;have B:J<|aA (λx=>x=db) w j:=(aA.of_below d.o).trans (aA.of_below f.o);have p:J<|_:=o.o j q hd2;clear r l d f hd2 o;go_wp2_with fail;refine ψ p.o ?_;rintro e K⟨rfl,t⟩;clear p D;go_wp2_with fail;go_ret;exact⟨rfl,⟨q,C.o,t.o.1⟩,B.o.trans t.o.2⟩
def gy(w:World)(db n:Nat)(t:Thk.Bs)(c:Bool)(k:Int):Prop :=
 ∃(sl:Nat->ByteArray)(O:Nat->Nat×Thk.Bs×Bool),gu w db sl c k/\(∀i,i<2->Opens (sl i) (O i))/\O (n % 2)=(n,t,true)/\((O ((n+1) % 2)).2.2=true->(O ((n+1) % 2)).1<n)
def Jb{a:Nat->Nat×Thk.Bs×Bool}{t:Thk.Bs}(h:a (n % 2)=(n,t,true))(b:(a ((n+1) % 2)).2.2=true->(a ((n+1) % 2)).1<n):gB a 2=(n,t):=by
 rcases Nat.mod_two_eq_zero_or_one n with e|e
 .have c:(n+1) % 2=1:=V
  rw[e]at h;rw[c]at b;have d:gB a 1=(n,t):=by simp[gB,h]
  show(if(a 1).2.2=true/\(gB a 1).1<=(a 1).1 then((a 1).1,(a 1).2.1)else gB a 1)=_;rw[d,ύ];rintro⟨f,g⟩;have:=b f;exact absurd g (by show ¬n<=_;omega)
 .have c:(n+1) % 2=0:=V
  rw[e]at h;rw[c]at b;have d:(gB a 1).1<=n:=by
   show(if(a 0).2.2=true/\0<=(a 0).1 then((a 0).1,(a 0).2.1) else((0,[]):Nat×Thk.Bs)).1<=n;split
   .rename_i hh;have:=b hh.1;show(a 0).1<=n;omega
   .exact Nat.zero_le _
  show(if(a 1).2.2=true/\(gB a 1).1<=(a 1).1 then((a 1).1,(a 1).2.1)else gB a 1)=_;rw[h,ώ ⟨rfl,d⟩]
def tq{q:ByteArray}{t:Thk.Bs}(b:ay q=slotL n t)(a:n<268435456)(c:t.length<=800000):Opens q (n,t,true):=λd=>Ja d q n t b a c
def LJ:Opens ⟨#[]⟩ (0,[],false):=λb=>by refine ψ (Ak b ⟨#[]⟩ rfl Ψ) ?_;rintro e c⟨rfl,a⟩;exact⟨_,rfl,rfl,a⟩
def qw(s:ByteArray):(ay s).length=s.size:=by unfold ay;rw[Array.length_toList];(first|done|rfl)
def gy.aJ{M:Nat->Prop}{a:World}{t:Thk.Bs}(h:gy w db n t c k)(f:aA M w a)(g:¬M db):gy a db n t c k:=by obtain⟨i,b,d,e⟩:=h;exact⟨i,b,aC.aJ d f g,e⟩
def ZE(w:World)(s:ByteArray)(a:s.size<=800000):Calls prog 65 #[.string s] w λe w'=>e=.returned (.pointer (some (z w.heap.size)))/\gy w' w.heap.size 0 (ay s) false 0/\Below w.heap.size w w':=by
 refine ψ (Xb w s a) ?_;rintro e w'⟨rfl,⟨u,d,c⟩,b⟩;refine⟨rfl,⟨_,λi=>if i=0 then(0,ay s,true) else(0,[],false),c,λi f=>?_,rfl,λh=>by simp at h⟩,b⟩;rcases(by omega:i=0\/i=1)with e|e<;>subst e
 .exact tq d V (by rw[qw];exact a)
 .exact LJ
def Xc(w:World)(db n:Nat)(t:Thk.Bs)(c:Bool)(k:Int)(h:gy w db n t c k):Calls prog 170 #[.pointer (some (z db))] w λe w'=>∃u,e=.returned (.string u)/\ay u=t/\Below w.heap.size w w':=by obtain⟨i,a,g,f,b,d⟩:=h;have:=TU w db i c k a g f;rw[Jb b d]at this;exact this
def TW(w:World)(db n:Nat)(t:Thk.Bs)(k:Int)(s:ByteArray)(l:gy w db n t false k)(f:n+1<268435456)(g:s.size<=800000):Calls prog 144 #[.pointer (some (z db)),.string s] w λe w'=>e=.returned (.bool true)/\gy w' db (n+1) (ay s) false k/\aA (λy=>y=db) w w':=by
 obtain⟨x,a,p,c,b,m⟩:=l;have d:=Jb b m;have h:=TV w db x k a s p c (by rw[d];exact f) g;rw[d]at h;refine ψ h ?_;rintro e w'⟨rfl,⟨A,u,q⟩,o⟩;have v:(n+1+1) % 2≠(n+1) % 2:=V
 have j:(n+1+1) % 2=n % 2:=V
 refine⟨rfl,⟨_,λi=>if i=(n+1) % 2 then(n+1,ay s,true)else a i,q,λi r=>?_,Ω,λ_=>?_⟩,o⟩
 .unfold yL;by_cases e:i=(n+1) % 2
  .simp only[e,if_true];exact tq u f (by rw[qw];exact g)
  .simp only[e,if_false];exact c i r
 .simp only[v,if_false];rw[j,b];exact Nat.lt_succ_self n
def LK(w:World)(db:Nat)(a:Nat->ByteArray)(c:Bool)(k j:Int)(h:gu w db a c k):Calls prog 172 #[.pointer (some (z db)),I j] w λe w'=>e=.returned (.tuple #[])/\gu w' db a true j/\aA (λx=>x=db) w w':=by
 have d:=(aC.cell h 2).trans rfl;have f:=(aC.cell h 3).trans rfl;have f0:=aC.frozen h;have b:J<|gu ((w.setCell (O db 2) (.bool true)).setCell (O db 3) (I j)) db a true j/\aA (λx=>x=db) w ((w.setCell (O db 2) (.bool true)).setCell (O db 3) (I j)):=by refine⟨?_,((aA.refl (λx=>x=db) w).setCell (p:=(O db 2)) rfl _).setCell (p:=(O db 3)) rfl _⟩;unfold gu at *;unfold aC at h⊢;simp[World.setCell,μ,h]
 clear h;go_enter func172,ntmps172;go_wp2_with fail;refine bodyPost_end (results_none rfl _ _ _) rfl ?_;exact⟨rfl,b.o⟩
def PG(w:World)(db n:Nat)(t:Thk.Bs)(c:Bool)(k j:Int)(h:gy w db n t c k):Calls prog 172 #[.pointer (some (z db)),I j] w λe w'=>e=.returned (.tuple #[])/\gy w' db n t true j/\aA (λx=>x=db) w w':=by obtain⟨a,b,g,i⟩:=h;refine ψ (LK w db a c k j g) ?_;rintro e w'⟨rfl,d,f⟩;exact⟨rfl,⟨a,b,d,i⟩,f⟩
def PI(w:World)(db:Nat)(b:Nat->ByteArray)(k:Nat)(c:Nat->Nat×Thk.Bs×Bool)(s:ByteArray)(h:gu w db b true (k:Int))(B:∀j,j<2->Opens (b j) (c j))(P:(gB c 2).1+1<268435456)(F:s.size<=800000):Calls prog 144 #[.pointer (some (z db)),.string s] w λe w'=>e=.returned (.bool false)/\(∃q,ay q=(slotL ((gB c 2).1+1) (ay s)).take k/\gu w' db (yL b ((gB c 2).1+1) q) false (k:Int))/\aA (λx=>x=db) w w':=by
 have r:J<|_:=sZ w db b true k c h B;have o:=ω h;generalize (gB c 2).1=m at *;have i:(m:Int)+1=((m+1:Nat):Int):=V
 have y:J<|∀a,Calls prog 119 #[I ((m:Int)+1),.string s] a λe w'=>∃u,e=.returned (.string u)/\J (ay u=slotL (m+1) (ay s))/\J (Below a.heap.size a w'):=λa=>by rw[i];exact wW a (m+1) s P F
 have t:J<|∀a q,gu a db b true (k:Int)->Calls prog 118 #[.pointer (some (z db)),I ((m:Int)+1),.string q] a λe w'=>e=.returned (.tuple #[])/\J (gu w' db (yL b (m+1) q) true (k:Int)/\aA (λx=>x=db) a w'):=λa q R=>by rw[i];exact DI a db (m+1) q b true k R
 clear h B F i;go_enter func144,ntmps144;go_wp2_with fail;refine ψ r.o ?_;rintro e S⟨u,rfl,Q,C⟩;have f:=ω C;clear r Q C;go_wp2_with fail;refine ψ (y.o _) ?_;rintro e l⟨q,rfl,L,g⟩;have hd2:gu l db b true (k:Int):=(o.o.below f.o).below g.o;have M:=(aC.cell hd2 2).trans rfl;have N:=(aC.cell hd2 3).trans rfl;have K:J<|aA (λx=>x=db) w l:=(aA.of_below f.o).trans (aA.of_below g.o);have v:J<|_:=λq=>t.o l q hd2;have A:J<|ay (q.extract 0 (min k q.size))=(slotL (m+1) (ay s)).take k:=by show _=_;rw[yu,<- L.o,<- qw,<- List.take_eq_take_min]
 clear y o f g hd2 t;have E:(min (k:Int) (q.size:Int)).toNat=min k q.size:=V
 rw[<- E]at A;clear E;go_wp2_with fail;refine ψ (v.o _) ?_;rintro e H⟨rfl,d⟩;generalize q.extract 0 (min (k:Int) (q.size:Int)).toNat=G at *;clear v M N;have d2:=(aC.cell d.o.1 2).trans rfl;have f2:=aC.frozen d.o.1 2;have n:J<|gu (H.setCell (O db 2) (.bool false)) db (yL b (m+1) G) false (k:Int)/\aA (λx=>x=db) w (H.setCell (O db 2) (.bool false)):=by refine⟨?_,(K.o.trans d.o.2).setCell (p:=(O db 2)) rfl _⟩;have D:=d.o.1;unfold gu at *;unfold aC at D⊢;simp[World.setCell,μ,D]
 clear d;go_wp2_with fail;go_ret;exact⟨rfl,⟨G,A.o,n.o.1⟩,n.o.2⟩
def YU(w:World)(rb:Nat):Prop:=aC w rb #[.string ⟨#[]⟩,.bool true] 277
def Gq(w:World)(rb:Nat)(s:ByteArray)(b:Bool)(h:aC w rb #[.string s,.bool b] 277):Calls prog 215 #[.pointer (some (z rb))] w λe w'=>e=.returned (.tuple #[])/\YU w' rb/\aA (λk=>k=rb) w w':=by
 have c:=(h.cell 0).trans rfl;have d:=(h.cell 1).trans rfl;have f0:=h.frozen;have a:J<|YU ((w.setCell (z rb) (.string ⟨#[]⟩)).setCell (O rb 1) (.bool true)) rb/\aA (λk=>k=rb) w ((w.setCell (z rb) (.string ⟨#[]⟩)).setCell (O rb 1) (.bool true)):=by refine⟨?_,((aA.refl (λk=>k=rb) w).setCell (p:=(z rb)) rfl _).setCell (p:=(O rb 1)) rfl _⟩;unfold YU aC at *;simp[World.setCell,μ,h]
 clear h;go_enter func215,ntmps215;go_wp2_with fail;exact bodyPost_end (results_none rfl _ _ _) rfl ⟨rfl,a.o⟩
def JJ(f p n:Nat)(l:Thk.Bs)(hi:Nat):Prop:=∀N r,Bz f p n l=some (N,r)->hi<N
def JJ.step{g p d:Nat}{b:UInt8}{t:Thk.Bs}(h:JJ (g+1) p n (b::t) d):(b.toNat<128/\d<n+b.toNat*p)\/(¬b.toNat<128/\JJ g (p*128) (n+(b.toNat-128)*p) t d):=by
 have a:∀N r,(if b.toNat<128 then some (n+b.toNat*p,t)else Bz g (p*128) (n+(b.toNat-128)*p) t)=some (N,r)->d<N:=h;by_cases c:b.toNat<128
 .rw[ώ c]at a;exact τ ⟨c,a _ _ rfl⟩
 .rw[ύ c]at a;exact υ ⟨c,a⟩
def Am(w:World)(rb:Nat)(s:ByteArray)(L:Bool)(b:Nat)(A:aC w rb #[.string s,.bool L] 277)(Q:JJ 4 1 0 (ay s) b)(a1:b<=1000000000)(a3:s.size<=1000000000):Calls prog 160 #[.pointer (some (z rb)),I 0,I b] w λp w'=>p=.returned (I 0)/\YU w' rb/\aA (λk=>k=rb) w w':=by
 have Z:=(A.cell 0).trans rfl;have q:J<|_:=Gq w rb s L A;have K:J<|JJ (4-0) (128 ^ 0) 0 ((ay s).drop 0) b:=Q;have W:(ay s).length=s.size:=by unfold ay;rw[Array.length_toList];(first|done|rfl)
 clear A Q;go_enter func160,ntmps160;go_wp2_with fail;go_loopw [7,8] (λX H Y=>∃(k n:Nat),H=I k/\X=I n/\k<=4/\J (n<128 ^ k)/\J (JJ (4-k) (128 ^ k) n ((ay s).drop k) b)/\Y=w) (λ_ H _=>4-(intOf H).toNat);case atStart=>exact⟨0,0,rfl,rfl,V,by unfold J;decide,K,rfl⟩
 case round =>
  clear K;obtain⟨k,n,rfl,rfl,hk,v,u,R⟩:=hrel;rw[R];clear R;by_cases P:k<4/\k<s.size
  .obtain⟨a2,hks⟩:=P;obtain⟨h,B⟩:∃h,h=s[k]'hks:=⟨_,rfl⟩;have a0:(s[k]'hks).toNat=h.toNat:=by rw[B]
   have r:=(show JJ (4-(k+1)+1) (128 ^ k) n (h::(ay s).drop (k+1)) b by
    have S:(ay s).drop k=h::(ay s).drop (k+1):=by rw[B];exact List.drop_eq_getElem_cons (by rw[W];exact hks)
    rw[<- S,(V:4-(k+1)+1=4-k)];exact u.o).step
   have N:h.toNat<256:=UInt8.toNat_lt _;have e:=v.o;clear u v B;have T:=Dp h.toNat N;have l:=Dq h.toNat N;generalize h.toNat=i at *;obtain⟨x,G⟩:∃x,i % 128=x:=⟨_,rfl⟩;rw[G]at T;have a4:x<128:=V
   obtain rfl|rfl|rfl|rfl:k=0\/k=1\/k=2\/k=3:=V
   .have g:n<1:=by simpa using e
    have E:bits .or .i64 (n:Int) (x:Int)=((n+x*1:Nat):Int):=by have:=oh n x 0 (by show n<1;exact g) (by show n+x*1<9223372036854775808;omega);rw[show(x:Int)=((x*2 ^ 0:Nat):Int) by(show(x:Int)=((x*1:Nat):Int));omega];exact this
    have F:(0:Int)<(s.size:Int):=V
    rcases r with⟨d,f⟩|⟨d,c⟩
    .rw[ώ d]at l;have a:i=x:=V
     have y:b<n+x*1:=by rw[<- a];exact f
     clear f a e g;generalize n+x*1=M at *;have D:¬(M:Int)<0:=V
     have C:(M:Int) > (b:Int):=V
     go_wp2_with fail;refine ψ q.o ?_;rintro p t⟨rfl,j⟩;go_wp2;go_ret;exact⟨rfl,j⟩
    .rw[ύ d]at l;have a:i-128=x:=V
     rw[a]at c;have m:J<|JJ (4-1) (128 ^ 1) (n+x*1) ((ay s).drop 1) b:=c;have o:J<|n+x*1<128 ^ 1:=ω<|by show n+x*1<128;omega
     clear c a e;generalize n+x*1=M at *;go_wp2;go_roundw;case rel=>exact⟨1,M,by first|rfl|go_num,rfl,V,o,m,by first|rfl|trivial⟩
     case measure=>simp[intOf]<;>omega
   .have g:n<128:=by simpa using e
    have E:bits .or .i64 (n:Int) ((x:Int)*128)=((n+x*128:Nat):Int):=by have:=oh n x 7 (by show n<128;exact g) (by show n+x*128<9223372036854775808;omega);rw[show((x:Int)*128)=((x*2 ^ 7:Nat):Int) by(show((x:Int)*128)=((x*128:Nat):Int));omega];exact this
    have F:(1:Int)<(s.size:Int):=V
    rcases r with⟨d,f⟩|⟨d,c⟩
    .rw[ώ d]at l;have a:i=x:=V
     have y:b<n+x*128:=by rw[<- a];exact f
     clear f a e g;generalize n+x*128=M at *;have D:¬(M:Int)<0:=V
     have C:(M:Int) > (b:Int):=V
     go_wp2_with fail;refine ψ q.o ?_;rintro p t⟨rfl,j⟩;go_wp2;go_ret;exact⟨rfl,j⟩
    .rw[ύ d]at l;have a:i-128=x:=V
     rw[a]at c;have m:J<|JJ (4-2) (128 ^ 2) (n+x*128) ((ay s).drop 2) b:=c;have o:J<|n+x*128<128 ^ 2:=ω<|by show n+x*128<16384;omega
     clear c a e;generalize n+x*128=M at *;go_wp2;go_roundw;case rel=>exact⟨2,M,by first|rfl|go_num,rfl,V,o,m,by first|rfl|trivial⟩
     case measure=>simp[intOf]<;>omega
   .have g:n<16384:=by simpa using e
    have E:bits .or .i64 (n:Int) ((x:Int)*16384)=((n+x*16384:Nat):Int):=by have:=oh n x 14 (by show n<16384;exact g) (by show n+x*16384<9223372036854775808;omega);rw[show((x:Int)*16384)=((x*2 ^ 14:Nat):Int) by(show((x:Int)*16384)=((x*16384:Nat):Int));omega];exact this
    have F:(2:Int)<(s.size:Int):=V
    rcases r with⟨d,f⟩|⟨d,c⟩
    .rw[ώ d]at l;have a:i=x:=V
     have y:b<n+x*16384:=by rw[<- a];exact f
     clear f a e g;generalize n+x*16384=M at *;have D:¬(M:Int)<0:=V
     have C:(M:Int) > (b:Int):=V
     go_wp2_with fail;refine ψ q.o ?_;rintro p t⟨rfl,j⟩;go_wp2;go_ret;exact⟨rfl,j⟩
    .rw[ύ d]at l;have a:i-128=x:=V
     rw[a]at c;have m:J<|JJ (4-3) (128 ^ 3) (n+x*16384) ((ay s).drop 3) b:=c;have o:J<|n+x*16384<128 ^ 3:=ω<|by show n+x*16384<2097152;omega
     clear c a e;generalize n+x*16384=M at *;go_wp2;go_roundw;case rel=>exact⟨3,M,by first|rfl|go_num,rfl,V,o,m,by first|rfl|trivial⟩
     case measure=>simp[intOf]<;>omega
   .have g:n<2097152:=by simpa using e
    have E:bits .or .i64 (n:Int) ((x:Int)*2097152)=((n+x*2097152:Nat):Int):=by have:=oh n x 21 (by show n<2097152;exact g) (by show n+x*2097152<9223372036854775808;omega);rw[show((x:Int)*2097152)=((x*2 ^ 21:Nat):Int) by(show((x:Int)*2097152)=((x*2097152:Nat):Int));omega];exact this
    have F:(3:Int)<(s.size:Int):=V
    rcases r with⟨d,f⟩|⟨d,c⟩
    .rw[ώ d]at l;have a:i=x:=V
     have y:b<n+x*2097152:=by rw[<- a];exact f
     clear f a e g;generalize n+x*2097152=M at *;have D:¬(M:Int)<0:=V
     have C:(M:Int) > (b:Int):=V
     go_wp2_with fail;refine ψ q.o ?_;rintro p t⟨rfl,j⟩;go_wp2;go_ret;exact⟨rfl,j⟩
    .rw[ύ d]at l;have a:i-128=x:=V
     rw[a]at c;have m:J<|JJ (4-4) (128 ^ 4) (n+x*2097152) ((ay s).drop 4) b:=c;have o:J<|n+x*2097152<128 ^ 4:=ω<|by show n+x*2097152<268435456;omega
     clear c a e;generalize n+x*2097152=M at *;go_wp2;go_roundw;case rel=>exact⟨4,M,by first|rfl|go_num,rfl,V,o,m,by first|rfl|trivial⟩
     case measure=>simp[intOf]<;>omega
  .have U:(¬(k:Int)<4)\/((k:Int)<4/\¬(k:Int)<(s.size:Int)):=V
   clear P u v;rcases U with G|⟨G,a5⟩
   all_goals
    go_wp2_with fail;refine ψ q.o ?_;rintro p t⟨rfl,j⟩;go_wp2;go_ret;exact⟨rfl,j⟩
def TY(w:World)(rb:Nat)(s:ByteArray)(d:Bool)(h:aC w rb #[.string s,.bool d] 277)(m:d=true->s=⟨#[]⟩)(a:JJ 4 1 0 (ay s) s.size\/∃N r,Bz 4 1 0 (ay s)=some (N,r)/\N<=s.size/\r.length<N)(g:s.size<=1000000000):Calls prog 247 #[.pointer (some (z rb))] w λe w'=>e=.returned (.string ⟨#[]⟩)/\YU w' rb/\aA (λk=>k=rb) w w':=by
 have o:=(h.cell 0).trans rfl;rcases a with a|⟨N,r,a,y,C⟩
 .have c:J<|_:=Am w rb s d s.size h a g g;clear h a m;go_enter func247,ntmps247;go_wp2_with fail;refine ψ c.o ?_;rintro e j⟨rfl,b,f⟩;have d0:=(aC.cell b 0).trans rfl;have f0:=aC.frozen b;have l:J<|YU (j.setCell (z rb) (.string ⟨#[]⟩)) rb/\aA (λk=>k=rb) w (j.setCell (z rb) (.string ⟨#[]⟩)):=by refine⟨?_,f.setCell (p:=(z rb)) rfl _⟩;unfold YU aC at *;simp[World.setCell,μ,b]
  clear c b f o;go_wp2_with fail;go_ret;exact⟨rfl,l.o⟩
 .have A:d=false:=by
   cases d with
   | false=>rfl
   | true=>rw[m rfl]at a;cases a
  subst A;have c:J<|_:=oq w rb s N 0 s.size r h a (Nat.zero_le _) y g g;clear h a m;go_enter func247,ntmps247;go_wp2_with fail;refine ψ c.o ?_;rintro e j⟨i,rfl,b,u,f⟩;have d0:=(aC.cell b 0).trans rfl;have B:(i.size:Int)<(N:Int):=by
   have e:i.size=(ay i).length:=by simp[ay]
   rw[e,u];omega
  have x:J<|_:=Gq j rb i false b;have n:=ω f;clear c b f u o;go_wp2_with fail;refine ψ x.o ?_;rintro e v⟨rfl,q,t⟩;have l:J<|YU v rb/\aA (λk=>k=rb) w v:=⟨q,n.o.trans t⟩;clear q t n d0;go_wp2;go_ret;exact⟨rfl,l.o⟩
def Ua(w:World)(rb:Nat)(h:YU w rb):Calls prog 162 #[.pointer (some (z rb))] w λe a=>e=.returned (.bool false)/\a=w:=by have b:=(aC.cell h 0).trans rfl;have c:=(aC.cell h 1).trans rfl;clear h;go_enter func162,ntmps162;go_wp2;go_ret;exact⟨rfl,rfl⟩
