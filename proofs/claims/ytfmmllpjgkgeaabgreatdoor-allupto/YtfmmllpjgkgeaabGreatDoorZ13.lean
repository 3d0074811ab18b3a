import Derived.Test.YtfmmllpjgkgeaabGreatDoorZ06
import Derived.Test.YtfmmllpjgkgeaabGreatDoorZ10
set_option linter.all false
set_option maxHeartbeats 0
set_option maxRecDepth 100000
namespace Go.Proofs.YtfmmllpjgkgeaabGreatDoor
section
open Go.Proofs.Tryz Go.RowKit
variable{ls:List LF}{k:Nat}
structure JH where
 kv:Value
 al:Value
 y:LF
def mg(f:lH)(x:JH):List Value:=[I f.src,I f.dst,I f.ack,x.kv,I x.y.made,x.al,I x.y.lost,.bool x.y.had,I x.y.most]
def eH:List lH->List JH->List Value
 | f::fs,x::xs=>mg f x++eH fs xs
 | _,_=>[]
def nC:∀(fs:List lH)(xs:List JH)(i:Nat)(h:i<fs.length)(a:i<xs.length)(j:Nat),j<9->(eH fs xs)[i*9+j]?=(mg fs[i] xs[i])[j]?
 | [],_,i,h,_,_,_=>by simp at h
 | _::_,[],i,_,a,_,_=>by simp at a
 | f::fs,x::xs,0,_,_,j,hj=>by rw[eH,ε (by simp[mg];omega)];simp
 | f::fs,x::xs,i+1,h,a,j,hj=>by have:=nC fs xs i (by simpa using h) (by simpa using a) j hj;have b:(mg f x).length=9:=rfl;rw[eH,ϋ (by rw[b];omega),b,show(i+1)*9+j-9=i*9+j by omega,this];rfl
def yx:∀(fs:List lH)(xs:List JH)(f:lH)(x:JH),xs.length=fs.length->eH (fs++[f]) (xs++[x])=eH fs xs++mg f x
 | [],[],f,x,_=>by simp[eH]
 | [],_::_,_,_,h=>by simp at h
 | _::_,[],_,_,h=>by simp at h
 | a::fs,b::xs,f,x,h=>by rw[List.cons_append,List.cons_append,eH,yx fs xs f x (by simpa using h),eH,ϑl]
def Ag:∀(fs:List lH)(xs:List JH)(i:Nat)(h:i<fs.length)(a:i<xs.length),xs.length=fs.length->(eH fs xs).set (i*9+7) (.bool true)=eH fs (xs.set i ⟨xs[i].kv,xs[i].al,⟨xs[i].y.made,xs[i].y.lost,true,xs[i].y.most,xs[i].y.al⟩⟩)
 | [],_,i,h,_,_=>by simp at h
 | _::_,[],i,_,a,_=>by simp at a
 | f::fs,x::xs,0,_,_,_=>by rw[eH,List.set_append_left _ _ (by simp[mg])];rfl
 | f::fs,x::xs,i+1,h,a,he=>by have:=Ag fs xs i (by simpa using h) (by simpa using a) (by simpa using he);have b:(mg f x).length=9:=rfl;rw[eH,List.set_append_right _ _ (by rw[b];omega),b,show(i+1)*9+7-9=i*9+7 by omega,this];rfl
structure Fz(I:Nat->Prop)(w:World)(f:lH)(x:JH):Prop where
 kn:aI 4 w x.kv (bools f.known)
 kl:f.known.length<=1048576
 al:wI I w x.al x.y.al
 all:x.y.al.length<=1048576
 m1:1<=x.y.most
 m2:x.y.most<=100000000
 m3:x.y.made<=1048576
def iZ(I:Nat->Prop)(w:World)(fv:Value)(fs:List lH)(ls:List LF):Prop:=∃xs:List JH,xs.length=fs.length/\xs.map JH.y=ls/\w.ownsRow 0 162 9 fv fs.length (eH fs xs)/\∀j(h:j<fs.length)(h':j<xs.length),Fz I w fs[j] xs[j]
section
variable{M I I':Nat->Prop}{w w':World}{f:lH}{x:JH}{fv:Value}{fs:List lH}{ls:List LF}
def Fz.aJ(h:Fz I w f x)(a:aA M w w')(c:∀b,Tagged w b 4->¬M b)(d:∀b,I b->¬M b)(e:∀b,I b->I' b):Fz I' w' f x:=⟨h.kn.aJ a c,h.kl,h.al.aJ a d e,h.all,h.m1,h.m2,h.m3⟩
def iZ.aJ(h:iZ I w fv fs ls)(a:aA M w w')(i:∀g,fv.ownBlock=some g->¬M g)(j:∀b,Tagged w b 4->¬M b)(k:∀b,I b->¬M b)(m:∀b,I b->I' b):iZ I' w' fv fs ls:=by obtain⟨o,e,d,f,l⟩:=h;exact⟨o,e,d,bG f a i,λn c b=>(l n c b).aJ a j k m⟩
def iZ.below(h:iZ I w fv fs ls)(a:Below w.heap.size w w'):iZ I w' fv fs ls:=h.aJ (M:=λ_=>False) (aA.of_below a) (λ_ _ h=>h) (λ_ _ h=>h) (λ_ _ h=>h) (λ_ h=>h)
def iZ.tag(h:iZ I w fv fs ls):∀g,fv.ownBlock=some g->Tagged w g 162:=by obtain⟨b,_,_,a,_⟩:=h;exact pO a
def iZ.shape(h:iZ I w fv fs ls):∃b cap,fv=.slice b fs.length cap/\fs.length<=cap:=by
 obtain⟨f,_,_,⟨_,⟨a,c⟩|⟨g,cap,e,a,_,_,d,_⟩⟩,_⟩:=h
 .exact⟨none,0,by rw[a,c],V⟩
 .exact⟨_,cap,a,d⟩
def iZ.nil(I:Nat->Prop)(w:World):iZ I w (.slice none 0 0) [] []:=⟨[],rfl,rfl,ϑj _ _ _ _,λj h=>absurd h Ω⟩
end
def qm(ls:List LF)(f:Int):Nat:=if 1<=f/\f<=ls.length then(ls[f.toNat-1]?.map LF.most).getD 0 else 0
def Tj(w:World)(c:Nat)(fv:Value)(fs:List lH)(q:w.cell? (O c 4)=some fv){I:Nat->Prop}(h:iZ I w fv fs ls)(x:fs.length<=500)(f:Int):Calls prog 46 #[.pointer (some (z c)),.int .i64 f] w λo w'=>o=.returned (.int .i64 (qm ls f))/\w'=w:=by
 obtain⟨r,t,d,A⟩:=h.shape;have B:ls.length=fs.length:=by obtain⟨a,j,b,_⟩:=h;rw[<- b,ϑh,j]
 rw[d]at q;by_cases u:f<1
 .clear h d;go_enter func46,ntmps46;go_wp2;go_ret;exact⟨by rw[qm,ύ V];rfl,rfl⟩
 .by_cases v:(fs.length:Int)<f
  .clear h d;go_enter func46,ntmps46;go_wp2;go_ret;exact⟨by rw[qm,ύ V];rfl,rfl⟩
  .obtain⟨k,rfl⟩:∃k:Nat,f=(k:Int)+1:=⟨(f-1).toNat,V⟩;have n:k<fs.length:=V
   obtain⟨a,j,i,b,l⟩:=h;have e:k<a.length:=V
   have g:=l k n e;obtain⟨p,s,rfl⟩:=dK b V;have y:w.cell? (O p (k*9+8))=some (.int .i64 (a[k].y.most)):=by rw[b.cellAt (k*9+8) V,nC fs a k n e 8 V];(first|done|rfl)
   have m1:=g.m1;have m2:=g.m2;simp only[ϑa]at d;obtain⟨rfl,_,rfl⟩:=d;have m:qm ls ((k:Int)+1)=a[k].y.most:=by rw[qm,ώ V,<- i];simp[show((k:Int)+1).toNat-1=k by omega,e]
   rw[m];clear b l g m i;generalize a[k].y.most=C at *;go_enter func46,ntmps46;go_wp2;go_ret;exact⟨rfl,rfl⟩
def fP(a b:List Bool)(k:Nat):List Bool:=(bH a b).take k++List.replicate (max a.length b.length-k) false
def OX(a b:List Bool)(k:Nat)(h:k<=max a.length b.length):(fP a b k).length=max a.length b.length:=by unfold fP;rw[ρ,List.length_take,kT,List.length_replicate];omega
def OY(a b:List Bool)(k:Nat)(h:k<max a.length b.length):(bools (fP a b k)).set k (.bool (a.getD k false||b.getD k false))=bools (fP a b (k+1)):=by
 have c:k<(bH a b).length:=by rw[kT];exact h
 have d:(bH a b)[k]=(a.getD k false||b.getD k false):=by rw[<- fG,ξ,σ c];(first|done|rfl)
 unfold bools fP;rw[<- d,<- List.map_set];congr 1;rw[List.set_append_right _ _ (by rw[List.length_take];omega),List.length_take,Nat.min_eq_left V,Nat.sub_self,(V:max a.length b.length-k=(max a.length b.length-(k+1))+1),List.replicate_succ,List.set_cons_zero,ν c,ϑl];rfl
def KR(a b:List Bool):fP a b 0=List.replicate (max a.length b.length) false:=by unfold fP;simp
def OZ(a b:List Bool):fP a b (max a.length b.length)=bH a b:=by unfold fP;rw[<- kT,ϑm,Nat.sub_self];simp
def heap_put{w:World}{g:Nat}{xs:List Value}{e:TypeId}(h:w.heap[g]?=some (.cells xs.toArray e (0,0)))(u:Value):(w.setCell (O g k) u).heap[g]?=some (.cells (xs.set k u).toArray e (0,0)):=by simp[World.setCell,μ,h]
def both_any(w:World)(r s:Value)(a b:List Bool)(x:aI 4 w r (bools a))(y:aI 4 w s (bools b))(ha:a.length<=1048576)(hb:b.length<=1048576):Calls prog 97 #[r,s] w λe w'=>∃Q,e=.returned Q/\aI 4 w' Q (bools (bH a b))/\Below w.heap.size w w':=by
 obtain⟨i4,a2,a0,Za,a1⟩:=info_parts Tryz.info4;obtain⟨ao,ac,N,_⟩:=x.shape;obtain⟨bo,bc,P,_⟩:=y.shape;have K:(bools a).length=a.length:=by simp[bools]
 have L:(bools b).length=b.length:=by simp[bools]
 rw[K]at N;rw[L]at P;have D:J<|∀c(k:Nat),k<=1048576->Below w.heap.size w c->Calls prog 110 #[r,.int .i64 k] c λe w'=>e=.returned (.bool (a.getD k false))/\w'=c:=λc k h d=>yZ w.heap.size r a k c V V (x.A8.below d);have E:J<|∀c(k:Nat),k<=1048576->Below w.heap.size w c->Calls prog 110 #[s,.int .i64 k] c λe w'=>e=.returned (.bool (b.getD k false))/\w'=c:=λc k h d=>yZ w.heap.size s b k c V V (y.A8.below d);subst N P;obtain⟨n,a5⟩:∃n,n=max a.length b.length:=⟨_,rfl⟩;have Kr:n<=1048576:=V
 have a4:∀c:World,(Instr.makeSlice 61 (.int .i64 n) (.int .i64 n)).run prog c=.ok (.slice (some (z c.heap.size)) n n) (c.alloc (.cells (madeCells #[.bool false] n) 4)):=λc=>run_make_row' 61 4 (.bool false) 1 underlying61 Tryz.info4 rfl .i64 .i64 n V V c;have M:madeCells #[.bool false] n=(bools (fP a b 0)).toArray:=by rw[KR,<- a5];have:=FV n;apply Array.ext';rw[show(Value.bool false).cells=#[.bool false]from rfl]at this;rw[this];simp[bools]
 have o:J<|(w.alloc (.cells (madeCells #[.bool false] n) 4)).heap[w.heap.size]?=some (.cells (bools (fP a b 0)).toArray 4 (0,0))/\Below w.heap.size w (w.alloc (.cells (madeCells #[.bool false] n) 4)):=⟨by rw[<- M];exact aC.new w _ _,(φ _ w).alloc (χ _) _⟩;have G:J<|∀k,k<n->(bools (fP a b k)).set k (.bool (a.getD k false||b.getD k false))=bools (fP a b (k+1)):=λk h=>OY a b k V;have q:J<|∀k,k<=n->(bools (fP a b k)).length=n:=λk h=>by unfold bools;rw[ϑh,OX _ _ _ V,a5]
 have H:J<|∀c,c.heap[w.heap.size]?=some (.cells (bools (fP a b n)).toArray 4 (0,0))->aI 4 c (.slice (some (z w.heap.size)) n n) (bools (bH a b)):=λc d=>by
  have e:fP a b n=bH a b:=by rw[a5];exact OZ a b
  have U:(bools (bH a b)).length=n:=by unfold bools;rw[ϑh,kT,a5]
  rw[e]at d;exact υ ⟨w.heap.size,0,n,by rw[U],V,⟨_,d⟩,λj T=>by rw[Nat.zero_add,cell_of_heap d,σ T]⟩
 have F:=ω a5;clear x y K L M a5;by_cases a3:a.length<b.length
 .have X:n=b.length:=by have:=F.o;omega
  subst X;go_enter func97,ntmps97;go_wp2;go_loopw [7,8,9] (λi _ _ c=>∃k:Nat,k<=b.length/\i=.int .i64 k/\c.heap[w.heap.size]?=some (.cells (bools (fP a b k)).toArray 4 (0,0))/\Below w.heap.size w c) (λi _ _ _=>b.length-(intOf i).toNat);case atStart=>exact⟨0,V,rfl,o.o.1,o.o.2⟩
  case round =>
   obtain⟨k,h,rfl,f,g⟩:=hrel;by_cases hkn:k<b.length
   .have R:wr.cell? (O w.heap.size k)=some ((bools (fP a b k))[k]'(by rw[q.o k h];exact hkn)):=by rw[cell_of_heap f,σ]
    have S:=Tagged.frozen ⟨_,f⟩;have m:J<|(wr.setCell (O w.heap.size k) (.bool (a.getD k false||b.getD k false))).heap[w.heap.size]?=some (.cells (bools (fP a b (k+1))).toArray 4 (0,0))/\Below w.heap.size w (wr.setCell (O w.heap.size k) (.bool (a.getD k false||b.getD k false))):=⟨by rw[<- G.o k hkn];exact heap_put f _,g.setCell (p:=(O w.heap.size k)) (χ _) _⟩;have l:J<|_:=g;have t:J<|∀c,Below w.heap.size w c->_:=λc d=>D.o c k V d;have u:J<|∀c,Below w.heap.size w c->_:=λc d=>E.o c k V d;generalize a.getD k false=B at *;generalize b.getD k false=C at *;clear f g;generalize (bools (fP a b k))[k]'(by rw[q.o k h];exact hkn)=Y at *;go_wp2_with fail;refine ψ (t.o _ l.o) ?_;rintro e Z⟨rfl,rfl⟩;go_wp2_with fail;refine ψ (u.o _ l.o) ?_;rintro e w3⟨rfl,rfl⟩;cases B<;>cases C
    all_goals
     go_wp2;go_roundw;case rel=>exact⟨k+1,V,Λ,m.o.1,m.o.2⟩
     case measure=>simp[intOf];omega
   .have A:k=b.length:=V
    subst A;have v:J<|_:=H.o _ f;go_wp2;go_ret;exact⟨_,rfl,v.o,g⟩
 .have W:n=a.length:=by have:=F.o;omega
  subst W;go_enter func97,ntmps97;go_wp2;go_loopw [7,8,9] (λi _ _ c=>∃k:Nat,k<=a.length/\i=.int .i64 k/\c.heap[w.heap.size]?=some (.cells (bools (fP a b k)).toArray 4 (0,0))/\Below w.heap.size w c) (λi _ _ _=>a.length-(intOf i).toNat);case atStart=>exact⟨0,V,rfl,o.o.1,o.o.2⟩
  case round =>
   obtain⟨k,h,rfl,f,g⟩:=hrel;by_cases hkn:k<a.length
   .have R:wr.cell? (O w.heap.size k)=some ((bools (fP a b k))[k]'(by rw[q.o k h];exact hkn)):=by rw[cell_of_heap f,σ]
    have S:=Tagged.frozen ⟨_,f⟩;have m:J<|(wr.setCell (O w.heap.size k) (.bool (a.getD k false||b.getD k false))).heap[w.heap.size]?=some (.cells (bools (fP a b (k+1))).toArray 4 (0,0))/\Below w.heap.size w (wr.setCell (O w.heap.size k) (.bool (a.getD k false||b.getD k false))):=⟨by rw[<- G.o k hkn];exact heap_put f _,g.setCell (p:=(O w.heap.size k)) (χ _) _⟩;have l:J<|_:=g;have t:J<|∀c,Below w.heap.size w c->_:=λc d=>D.o c k V d;have u:J<|∀c,Below w.heap.size w c->_:=λc d=>E.o c k V d;generalize a.getD k false=B at *;generalize b.getD k false=C at *;clear f g;generalize (bools (fP a b k))[k]'(by rw[q.o k h];exact hkn)=Y at *;go_wp2_with fail;refine ψ (t.o _ l.o) ?_;rintro e Z⟨rfl,rfl⟩;go_wp2_with fail;refine ψ (u.o _ l.o) ?_;rintro e w3⟨rfl,rfl⟩;cases B<;>cases C
    all_goals
     go_wp2;go_roundw;case rel=>exact⟨k+1,V,Λ,m.o.1,m.o.2⟩
     case measure=>simp[intOf];omega
   .have A:k=a.length:=V
    subst A;have v:J<|_:=H.o _ f;go_wp2;go_ret;exact⟨_,rfl,v.o,g⟩
def aI.KT{w:World}{v:Value}{l:List Nat}(h:aI 3 w v (ints (bW l))){a:Nat}(k:a<l.length):∃b d c,v=.slice (some (O b d)) l.length c/\l.length<=c/\w.cell? (O b (d+a))=some (.int .i64 (l[a])):=by
 have e:=jX l;rcases h with⟨_,f⟩|⟨b,d,c,g,f,j,i⟩
 .rw[f]at e;simp at e;omega
 .refine⟨b,d,c,by rw[g,e],V, ?_⟩;rw[i a V];simp[ints,bW]
def jm(fs:List lH)(ls:List LF)(i j lost n:Nat)(al:List Nat):Nat->Nat
 | 0=>200+80*al.length
 | k+1=>match fs[k]?,ls[k]? with
  | some h,some x=>if h.ack=0/\h.src=i/\h.dst=j/\x.had=true/\x.lost=lost then min (jm fs ls i j lost n al k) (80+80*(n-cnt h.known)+8*oU x.al al)else jm fs ls i j lost n al k
  | _,_=>jm fs ls i j lost n al k
def Gj(s:Sl)(i j:Nat):∀k,rF s i j k=jm s.fs s.ls i j (s.rs i).lost (cnt (s.kn.getD i [])) (aH s.es (s.kn.getD i []) s.es.length) k
 | 0=>rfl
 | k+1=>by unfold rF jm;rw[Gj s i j k];(first|done|rfl)
def zB(fs:List lH)(ls:List LF)(i j b n:Nat)(a:List Nat)(h:a.length<=1048576):∀k,1<=jm fs ls i j b n a k/\jm fs ls i j b n a k<=100000000
 | 0=>by unfold jm;omega
 | k+1=>by
  have:=zB fs ls i j b n a h k;unfold jm;split
  .split<;>omega
  .exact this
def Wu{fs:List lH}{i j a n:Nat}{b:List Nat}(h:k<fs.length)(c:k<ls.length)(d:¬(fs[k].ack=0/\fs[k].src=i/\fs[k].dst=j/\ls[k].had=true/\ls[k].lost=a)):jm fs ls i j a n b (k+1)=jm fs ls i j a n b k:=by rw[jm,σ h,σ c];exact ύ d
def Tn{fs:List lH}{i j b n:Nat}{a:List Nat}(h:k<fs.length)(c:k<ls.length)(d:fs[k].ack=0/\fs[k].src=i/\fs[k].dst=j/\ls[k].had=true/\ls[k].lost=b):jm fs ls i j b n a (k+1)=min (jm fs ls i j b n a k) (80+80*(n-cnt fs[k].known)+8*oU ls[k].al a):=by rw[jm,σ h,σ c];exact ώ d
def O1(l b:List Nat)(a:Nat)(h:a<l.length):oU (l.take (a+1)) b=oU (l.take a) b+if b.contains l[a]then 0 else 1:=by unfold oU;rw[ν h,ϑH,ρ];congr 1;rw[List.filter_cons];cases b.contains l[a]<;>rfl
def Tq(l:List Nat)(b m:Nat)(h:b<l.length):(l.take (b+1)).contains m=((l.take b).contains m||(m==l[b])):=by rw[ν h,List.contains_eq_any_beq,List.contains_eq_any_beq,List.any_append];simp
def Tt(w:World)(c:Nat)(fv:Value)(fs:List lH)(h4:w.cell? (O c 4)=some fv){I:Nat->Prop}(i:iZ I w fv fs ls)(h5:fs.length<=500)(g:lH)(x:JH)(hg:aI 4 w x.kv (bools g.known))(ba:g.known.length<=1048576)(ag:aI 3 w x.al (ints (bW x.y.al)))(bo:x.y.al.length<=1048576)(b6:∀f∈fs,f.ack=0->f.src=g.src->cnt f.known<=cnt g.known):Calls prog 96 #[.pointer (some (z c)),.agg (mg g x).toArray] w λm w'=>m=.returned (.int .i64 (jm fs ls g.src g.dst x.y.lost (cnt g.known) x.y.al fs.length))/\Below w.heap.size w w':=by
 have bq:c<w.heap.size:=ϑA w (O c 4) h4;obtain⟨a0,cq,⟨bg,o,bf,bh,e⟩⟩:=x;simp only at *;have b0:=jX e;have cf:ls.length=fs.length:=by obtain⟨P,T,G,_⟩:=i;rw[<- G,ϑh,T]
 obtain⟨ao,ac,b4,bm⟩:=ag.shape;rw[b0]at b4 bm;subst b4;obtain⟨fo,fc,ai,br⟩:=i.shape;obtain⟨W0,W⟩:∃W0,W0=w.alloc (.cells (mg g ⟨a0,.slice ao e.length ac,⟨bg,o,bf,bh,e⟩⟩).toArray 162):=⟨_,rfl⟩;have H:Below w.heap.size w W0:=by rw[W];exact(φ _ w).alloc (χ _) _
 have kg:aC W0 w.heap.size (mg g ⟨a0,.slice ao e.length ac,⟨bg,o,bf,bh,e⟩⟩).toArray 162:=by rw[W];exact aC.new w _ _
 have ci:W0.heap.size=w.heap.size+1:=by rw[W];simp
 have h0:=i.below H;have b1:=ag.below H;have b9:=hg.below H;have HC:J<|∀a,Below W0.heap.size W0 a->a.cell? (O c 4)=some (.slice fo fs.length fc):=λa cr=>by rw[<- ai,cr.cell (p:=(O c 4)) (V:c<W0.heap.size),H.cell (p:=(O c 4)) bq];exact h4
 have A:J<|∀a,Below W0.heap.size W0 a->a.cell? (z w.heap.size)=some (.int .i64 g.src)/\a.cell? (O w.heap.size 1)=some (.int .i64 g.dst)/\a.cell? (O w.heap.size 3)=some a0/\a.cell? (O w.heap.size 5)=some (.slice ao e.length ac)/\a.cell? (O w.heap.size 6)=some (.int .i64 o):=λa cr=>by have k:=kg.below cr;exact⟨(k.cell 0).trans rfl,(k.cell 1).trans rfl,(k.cell 3).trans rfl,(k.cell 5).trans rfl,(k.cell 6).trans rfl⟩
 have HA:J<|∀a,Below W0.heap.size W0 a->∀h(_:h<e.length),∃b a9,ao=some (O b a9)/\a.cell? (O b (a9+h))=some (.int .i64 (e[h])):=λa cr h ha=>by obtain⟨b,a9,c5,T,_,e3⟩:=(b1.below cr).KT ha;simp only[ϑa]at T;exact⟨b,a9,T.1,e3⟩
 have HK:J<|∀a,Below W0.heap.size W0 a->aI 4 a a0 (bools g.known):=λa cr=>b9.below cr;have HF:J<|∀a,Below W0.heap.size W0 a->∀k(hk:k<fs.length)(aj:k<ls.length),∃b kv K B t y cs,fo=some (z b)/\K=.slice B ls[k].al.length t/\kv=.slice y fs[k].known.length cs/\ls[k].al.length<=t/\a.cell? (O b (k*9))=some (.int .i64 (fs[k].src))/\a.cell? (O b (k*9+1))=some (.int .i64 (fs[k].dst))/\a.cell? (O b (k*9+2))=some (.int .i64 (fs[k].ack))/\a.cell? (O b (k*9+3))=some kv/\a.cell? (O b (k*9+4))=some (.int .i64 (ls[k].made))/\a.cell? (O b (k*9+5))=some K/\a.cell? (O b (k*9+6))=some (.int .i64 (ls[k].lost))/\a.cell? (O b (k*9+7))=some (.bool ls[k].had)/\a.cell? (O b (k*9+8))=some (.int .i64 (ls[k].most))/\aI 4 a kv (bools fs[k].known)/\aI 3 a K (ints (bW ls[k].al))/\ls[k].al.length<=1048576/\fs[k].known.length<=1048576:=λa cr k hk bc=>by
  obtain⟨P,T,e0,G,e3⟩:=h0.below cr;subst e0;rw[ϑI];have aj:k<P.length:=V
  have Y:=e3 k hk aj;have a1:=Y.al.1;have a2:=Y.all;obtain⟨B,t,a3,a4⟩:=a1.shape;rw[jX]at a3 a4;obtain⟨y,cs,a5,_⟩:=Y.kn.shape;have X:(bools fs[k].known).length=fs[k].known.length:=by simp[bools]
  rw[X]at a5;rw[ai]at G;obtain⟨b,c',U⟩:=dK G V;simp only[ϑa]at U;obtain⟨U,_,rfl⟩:=U;have u:∀L,L<9->a.cell? (O b (k*9+L))=(mg fs[k] P[k])[L]?:=λL hj=>by rw[U]at G;rw[G.cellAt (k*9+L) V,nC fs P k hk aj L hj]
  exact⟨b,P[k].kv,P[k].al,B,t,y,cs,U,a3,a5,a4,u 0 V,u 1 V,u 2 V,u 3 V,u 4 V,u 5 V,u 6 V,u 7 V,u 8 V,Y.kn,a1,a2,Y.kl⟩
 have Wv:J<|_:=b6;have cb:=ς (cnt_le _) ba;have aw:=ω W.symm;have an:J<|_:=H;obtain⟨g0,g1,g3,E,r⟩:=A.o W0 (φ _ _);unfold mg;unfold mg at aw;clear i h0 ag b1 hg b9 b6 W kg ai h4 H b0;go_enter func96,ntmps96;go_wp2_with fail;rw[aw.o];go_wp2_with fail;clear g0 g1 g3 E r;go_loopw [5,6,7,8,9,10,11,12] (λv5 v6 _ _ _ _ _ _ a=>∃k j:Nat,k<=fs.length/\v6=.int .i64 k/\v5=.int .i64 j/\j=jm fs ls g.src g.dst o (cnt g.known) e k/\Below W0.heap.size W0 a) (λ_ v6 _ _ _ _ _ _ _=>fs.length-(intOf v6).toNat);case atStart=>exact⟨0,200+80*e.length,V,rfl,Λ,rfl,φ _ _⟩
 case round =>
  obtain⟨k,j,hk,rfl,rfl,ah,d⟩:=hrel;obtain⟨c7,c8⟩:1<=j/\j<=100000000:=by rw[ah];exact zB _ _ _ _ _ _ _ bo k
  have aa:=ω ah;clear ah;have c4:=HC.o _ d;by_cases hkn:k<fs.length
  .have X:k<ls.length:=V
   obtain⟨fb,kv,K,B,t,y,cs,rfl,rfl,rfl,bp,f0,f1,f2,f3,f4,f5,f6,f7,f8,fk,fa,fl,b2⟩:=HF.o _ d k hkn X;have Q:J<|¬(fs[k].ack=0/\fs[k].src=g.src/\fs[k].dst=g.dst/\ls[k].had=true/\ls[k].lost=o)->j=jm fs ls g.src g.dst o (cnt g.known) e (k+1):=λhn=>by rw[Wu hkn X hn];exact aa.o
   have Wx:J<|fs[k].ack=0/\fs[k].src=g.src/\fs[k].dst=g.dst/\ls[k].had=true/\ls[k].lost=o->jm fs ls g.src g.dst o (cnt g.known) e (k+1)=min j (80+80*(cnt g.known-cnt fs[k].known)+8*oU ls[k].al e):=λhn=>by rw[Tn hkn X hn,aa.o]
   obtain⟨hl,bb⟩:∃hl,ls[k].al=hl:=⟨_,rfl⟩;rw[bb]at f5 fa fl bp Wx;clear bb;have bz:J<|hl.take hl.length=hl:=ϑm;obtain⟨g0,g1,g3,E,r⟩:=A.o _ d;have bj:=λC=>(A.o (wr.alloc C) (d.alloc d.size C)).1;have bk:=λC=>(A.o (wr.alloc C) (d.alloc d.size C)).2.1;have bl:=λC=>(A.o (wr.alloc C) (d.alloc d.size C)).2.2.2.2;have R:=ω d;have c1:=br;have az:=ω fk;have ax:=ω fa;have bi:=ω<|Wv.o fs[k] (κ hkn);have cc:=ς (cnt_le _) b2;clear fk fa d;obtain⟨W3,a6⟩:∃W3,W3=wr.alloc (.cells #[.int .i64 (fs[k].src),.int .i64 (fs[k].dst),.int .i64 (fs[k].ack),.slice y fs[k].known.length cs,.int .i64 (ls[k].made),.slice B hl.length t,.int .i64 (ls[k].lost),.bool ls[k].had,.int .i64 (ls[k].most)] 162):=⟨_,rfl⟩;have a7:Below wr.heap.size wr W3:=by rw[a6];exact(φ _ wr).alloc (χ _) _
   have n:=ω<|R.o.trans (a7.mono R.o.size)
   have F:aC W3 wr.heap.size #[.int .i64 (fs[k].src),.int .i64 (fs[k].dst),.int .i64 (fs[k].ack),.slice y fs[k].known.length cs,.int .i64 (ls[k].made),.slice B hl.length t,.int .i64 (ls[k].lost),.bool ls[k].had,.int .i64 (ls[k].most)] 162:=by rw[a6];exact aC.new wr _ _
   have cj:=R.o.size;have bs:=(F.cell 0).trans rfl;have bt:=(F.cell 1).trans rfl;have bc:=(F.cell 2).trans rfl;have bu:=(F.cell 6).trans rfl;have bv:=(F.cell 7).trans rfl;obtain⟨q0,q1,q3,q5,q6⟩:=A.o W3 n.o;have HH:J<|∀a,Below W3.heap.size W3 a->a.cell? (O wr.heap.size 3)=some (.slice y fs[k].known.length cs)/\a.cell? (O wr.heap.size 5)=some (.slice B hl.length t)/\aI 4 a (.slice y fs[k].known.length cs) (bools fs[k].known)/\aI 3 a (.slice B hl.length t) (ints (bW hl))/\Below W0.heap.size W0 a:=λa cr=>by have k':=F.below cr;exact⟨(k'.cell 3).trans rfl,(k'.cell 5).trans rfl,(az.o.below a7).below cr,(ax.o.below a7).below cr,n.o.trans (cr.mono n.o.size)⟩
   have D:=ω a6.symm;clear a6 a7 F az ax;generalize fs[k].src=be at *;generalize fs[k].dst=b7 at *;generalize fs[k].ack=af at *;generalize ls[k].had=bn at *;generalize ls[k].lost=a8 at *;generalize ls[k].made=ck at *;generalize ls[k].most=cl at *;by_cases t1:0<af
   .have bw:(0:Int)<(af:Int):=V
    go_wp2_with fail;rw[D.o];try go_wp2
    go_roundw;case rel=>exact⟨k+1,j,V,Λ,rfl,Q.o (λi=>V),n.o⟩
    case measure=>simp[intOf];omega
   .have bw:¬(0:Int)<(af:Int):=V
    by_cases t2:be=g.src
    .subst t2;have s2:((g.src:Int) !=(g.src:Int))=false:=bne_self_eq_false _;by_cases t3:b7=g.dst
     .subst t3;have s3:((g.dst:Int) !=(g.dst:Int))=false:=bne_self_eq_false _;cases bn
      .go_wp2_with fail;rw[D.o];try go_wp2
       go_roundw;case rel=>exact⟨k+1,j,V,Λ,rfl,Q.o (λi=>Bool.false_ne_true i.2.2.2.1),n.o⟩
       case measure=>simp[intOf];omega
      .by_cases t5:a8=o
       .subst t5;have s5:((a8:Int) !=(a8:Int))=false:=bne_self_eq_false _;have ce:cnt fs[k].known<=cnt g.known:=bi.o V rfl;go_wp2_with fail;rw[D.o];try go_wp2
        clear f0 f1 f2 f3 f4 f5 f6 f7 f8 g0 g1 g3 E r bj bk bl bs bt bc bu bv q0 q1 q3 q5 q6 c4 D;go_loopw [8,9,10,11] (λv8 v9 _ _ a=>∃h s:Nat,h<=hl.length/\v9=.int .i64 h/\v8=.int .i64 s/\s<=h/\J (s=oU (hl.take h) e)/\Below W3.heap.size W3 a) (λ_ v9 _ _ _=>hl.length-(intOf v9).toNat);case atStart=>exact⟨0,0,V,rfl,rfl,V,rfl,φ _ _⟩
        case round =>
         obtain⟨h,s,ha,rfl,rfl,cd,ad,d⟩:=hrel;obtain⟨p3,p5,N,M,ct⟩:=HH.o _ d;obtain⟨g0,g1,g3,E,r⟩:=A.o _ ct;by_cases b3:h<hl.length
         .clear N M g0 g1 g3 r p3;have ar:=ω<|O1 hl e h b3
          have ae:J<|_:=d;clear d;go_wp2;clear p5 E ct;go_loopw [10,11] (λbx ak a=>∃(b:Nat)(st:Bool),b<=e.length/\ak=.int .i64 b/\bx=.bool st/\J (st=(e.take b).contains hl[h])/\Below W3.heap.size W3 a) (λ_ ak _=>e.length-(intOf ak).toNat);case atStart=>exact⟨0,false,V,rfl,rfl,by show _=_;simp,ae.o⟩
          case round =>
           obtain⟨b,st,c9,rfl,rfl,O4,d⟩:=hrel;obtain⟨p3,p5,N,M,ct⟩:=HH.o _ d;obtain⟨g0,g1,g3,E,r⟩:=A.o _ ct;by_cases b5:b<e.length
           .obtain⟨ab,c3,rfl,ca⟩:=HA.o _ ct b b5;have aq:=ω<|Tq e b hl[h] b5;obtain⟨Vl,ch,c0,b8,c2,c6⟩:=M.KT b3;simp only[ϑa]at b8;obtain⟨rfl,_,_⟩:=b8;generalize hl[h]=m2 at *;generalize e[b]=m1 at *;have S:J<|_:=d;clear N M d ct g0 g1 g3 r p3;cases st
            .go_wp2_with fail
             go_quiet (fail)
             go_wp2;go_roundw;case rel=>exact⟨b+1,_,V,Λ,rfl,by show _=_;rw[aq.o,<- O4.o];by_cases m:m2=m1;(subst m;simp);(have e':¬(m2:Int)=(m1:Int):=V;simp[ό.2 m,ό.2 e']),below_drewN S.o _⟩
             case measure=>simp[intOf];omega
            .go_wp2_with fail
             go_quiet (fail)
             go_wp2;go_roundw;case rel=>exact⟨b+1,_,V,Λ,rfl,by show _=_;rw[aq.o,<- O4.o];by_cases m:m2=m1;(subst m;simp);(have e':¬(m2:Int)=(m1:Int):=V;simp[ό.2 m,ό.2 e']),below_drewN S.o _⟩
             case measure=>simp[intOf];omega
           .have S:J<|_:=d;clear N M d ct g0 g1 g3 r p3;cases st
            .go_wp2;go_roundw;case rel=>exact⟨h+1,s+1,V,Λ,Λ,V,by show _=_;have Z:=O4.o;rw[ϑg V]at Z;rw[ar.o,<- ad.o,<- Z];rfl,S.o⟩
             case measure=>simp[intOf];omega
            .go_wp2;go_roundw;case rel=>exact⟨h+1,s,V,Λ,rfl,V,by show _=_;have Z:=O4.o;rw[ϑg V]at Z;rw[ar.o,<- ad.o,<- Z];rfl,S.o⟩
             case measure=>simp[intOf];omega
         .have ae:J<|_:=d;have av:J<|s=oU hl e:=by have:=ad.o;rw[ϑg V]at this;exact this
          have HN:J<|∀(v:Value)(l:List Bool),(aI 4 wr v (bools l)/\l.length<=1048576)->∀q,Calls prog 25 #[v] (wr.drewN q) λm w'=>m=.returned (.int .i64 (cnt l))/\w'=wr.drewN q:=λv l K q=>oQ wr.heap.size v l _ V (aI.below K.1 (below_drewN (φ _ _) q)).A8;have Pk:J<|aI 4 wr (.slice y fs[k].known.length cs) (bools fs[k].known)/\fs[k].known.length<=1048576:=⟨N,b2⟩;have Px:J<|aI 4 wr a0 (bools g.known)/\g.known.length<=1048576:=⟨HK.o _ ct,ba⟩;clear N M d ct g0 g1 E r;go_wp2_with fail
          go_quiet (first|(go_at_call 25;exact ψ (HN.o _ _ (by first|exact Pk.o|exact Px.o) _) (λ_ _ i=>⟨i.1,_,i.2⟩)))
          clear HN Pk Px;generalize cnt fs[k].known=n1 at *;generalize bd:cnt g.known=n2 at *;have zX:=ω bd;clear bd;have ap:J<|Below W0.heap.size W0 (wr.drewN nq):=by have:=n.o.trans (ae.o.mono n.o.size);exact below_drewN this _
          by_cases cg:(80:Int)+80*((n2:Int)-(n1:Int))+8*(s:Int)<(j:Int)
          .go_wp2;go_roundw;case rel=>exact⟨k+1,80+80*(n2-n1)+8*s,V,Λ,Λ,by rw[zX.o,Wx.o Θ,<- av.o];omega,ap.o⟩
           case measure=>simp[intOf];omega
          .go_wp2;go_roundw;case rel=>exact⟨k+1,j,V,Λ,rfl,by rw[zX.o,Wx.o Θ,<- av.o];omega,ap.o⟩
           case measure=>simp[intOf];omega
       .have cp:((a8:Int) !=(o:Int))=true:=ϑv.2 V;go_wp2_with fail;rw[D.o];try go_wp2
        go_roundw;case rel=>exact⟨k+1,j,V,Λ,rfl,Q.o (λi=>t5 i.2.2.2.2),n.o⟩
        case measure=>simp[intOf];omega
     .have co:((b7:Int) !=(g.dst:Int))=true:=ϑv.2 V;go_wp2_with fail;rw[D.o];try go_wp2
      go_roundw;case rel=>exact⟨k+1,j,V,Λ,rfl,Q.o (λi=>t3 i.2.2.1),n.o⟩
      case measure=>simp[intOf];omega
    .have cn:((be:Int) !=(g.src:Int))=true:=ϑv.2 V;go_wp2_with fail;rw[D.o];try go_wp2
     go_roundw;case rel=>exact⟨k+1,j,V,Λ,rfl,Q.o (λi=>t2 i.2.1),n.o⟩
     case measure=>simp[intOf];omega
  .have R:J<|_:=d;clear d;go_wp2;go_ret;have m:k=fs.length:=V
   subst m;exact⟨by rw[<- aa.o];rfl,an.o.trans (R.o.mono an.o.size)⟩
end
section
open Go.Proofs.Tryz Go.RowKit Go.Deep
def Tryz.infoFrame:(prog.info? 162).map (λi=>(i.zero,i.size,i.bytes))=some (some (.agg #[I 0,I 0,I 0,.slice none 0 0,I 0,.slice none 0 0,I 0,.bool false,I 0]),9,104):=by kernel_rfl
section
variable{I:Nat->Prop}{w w6:World}{c rb:Nat}{aY fv eX:Value}{av:Nat->Value}{room:Nat}{es:List Ev}{acc:Nat}{ld:Ld}{ah:List (List Bool)}{fs:List lH}{ls:List LF}
def bD.wider(h:bD w c rb aY fv av room es acc ld ah)(d:∀b,ld.I b->I b)(a:∀b,I b->Tagged w b 3):bD w c rb aY fv av room es acc ⟨I,ld.ls⟩ ah :=
 ⟨h.tc,h.jr,h.pV,h.n6,h.oH,h.f0,h.f1,h.f2,h.f3,h.Ol,h.wJ,h.evs,h.ok,λi e=>(h.kX i e).keep (M:=λ_=>False) (aA.refl _ _) (λ_ _ h=>h) (λ_ _ h=>h) d (λ_ _=>rfl),h.kn,h.f4,h.a11,a,h.dl⟩
def QV(h:bD w c rb aY fv av room es acc ld ah)(F:iZ ld.I w fv fs ls)(r:aA (λk=>fv.ownBlock=some k) w w6)(f:lH)(x:JH)(K:Fz I w f x)(q:∀b,ld.I b->I b)(u:∀b,I b->Tagged w b 3)(xs:List JH)(C:xs.length=fs.length)(N:xs.map JH.y=ls)(M:∀j(h:j<fs.length)(P:j<xs.length),Fz ld.I w fs[j] xs[j])(B:w6.ownsRow 0 162 9 eX (fs.length+1) (eH fs xs++mg f x)):bD (w6.setCell (O c 4) eX) c rb aY eX av room es acc ⟨I,ld.ls⟩ ah/\iZ I (w6.setCell (O c 4) eX) eX (fs++[f]) (ls++[x.y]):=by
 have d:∀{k:Nat}{D:TypeId},Tagged w k D->D≠162->¬fv.ownBlock=some k:=λL H G=>Tagged.ne L (F.tag _ G) H rfl;have i:∀b,Tagged w b 4->¬fv.ownBlock=some b:=λb a=>d a Ψ;have g:∀b,I b->¬fv.ownBlock=some b:=λb a=>d (u b a) Ψ;have o:=(h.wider q u).aJ r (d h.tc Ψ) (d h.jr Ψ) (λn t=>d (h.zi n t).2 Ψ) i g;have t6:=o.tc;have s:aA (λx=>x=c) w6 (w6.setCell (O c 4) eX):=(aA.refl (λx=>x=c) w6).setCell (p:=(O c 4)) rfl _;have v:∀b,Tagged w6 b 4->¬b=c:=λb a e=>Tagged.ne a t6 Ψ e;have y:∀b,I b->¬b=c:=λb a e=>Tagged.ne (o.ib b a) t6 Ψ e;refine⟨o.ax0 eX,xs++[x],by simp[C],by simp[N], ?_,λj E Q=>?_⟩
 .rw[yx fs xs f x C,ρ,List.length_singleton];exact bG B s (λn t e=>Tagged.ne (pO B n t) t6 Ψ e)
 .by_cases A:j<fs.length
  .have l:(fs++[f])[j]=fs[j]:=ϑk A;have m:(xs++[x])[j]=xs[j]'V:=ϑk V;rw[l,m];exact((M j A V).aJ r i (λb a=>g b (q b a)) q).aJ s v y (λ_ h=>h)
  .have R:j=fs.length:=by simp at E;omega
   have l:(fs++[f])[j]=f:=by rw[ϑu V];simp
   have m:(xs++[x])[j]=x:=by rw[ϑu V];simp
   rw[l,m];exact(K.aJ r i g (λ_ h=>h)).aJ s v y (λ_ h=>h)
def bD.iF(h:bD w c rb aY fv av room es acc ld ah)(a:iZ I w fv fs ls):fv.ownBlock≠some c:=λe=>Tagged.ne (a.tag c e) h.tc Ψ rfl
end
def Tv(l:List Nat):xI l=ints (bW l):=by unfold xI ints bW;rw[ϑK];(first|done|rfl)
def KU{es:List Ev}{a:List Bool}(h:es.length<=1048576):(aH es a es.length).length<=1048576:=ς (pJ es a es.length) h
def O5(w:World)(c rb:Nat)(aY fv:Value)(av:Nat->Value)(room:Nat)(es:List Ev)(acc:Nat)(ld:Ld)(ah:List (List Bool))(l:bD w c rb aY fv av room es acc ld ah)(fs:List lH)(ls:List LF)(hf:iZ ld.I w fv fs ls)(k m:Nat)(dl:k<ah.length)(cl:m<ah.length)(df:k≠m)(T:(ld.ls k).dn=none)(c3:(ld.ls m).dn=none)(h5:fs.length<500)(bt:∀f∈fs,f.ack=0->f.src=k->cnt f.known<=cnt ah[k])(cj:∃h n c,av k=.slice h n c)(b:ByteArray):Calls prog 47 #[.pointer (some (z c)),.int .i64 k,.int .i64 m] w λj w'=>j=.returned (.tuple #[.int .i64 ((fs.length:Int)+1),.int .i64 0])/\∃eX I',(∀b,I' b->ld.I b\/w.heap.size<=b)/\(∀b,ld.I b->I' b)/\bD w' c rb aY eX av room es acc ⟨I',ld.ls⟩ ah/\iZ I' w' eX (fs++[⟨k,m,0,ah[k],b⟩]) (ls++[⟨(ld.ls k).made,(ld.ls k).lost,false,jm fs ls k m (ld.ls k).lost (cnt ah[k]) (aH es ah[k] es.length) fs.length,aH es ah[k] es.length⟩]) /\ aA (λx=>x=c\/fv.ownBlock=some x) w w'/\(∀g,eX.ownBlock=some g->fv.ownBlock=some g\/w.heap.size<=g):=by
 have H:J<|bD w c rb aY fv av room es acc ld ah:=l;have HF:J<|iZ ld.I w fv fs ls:=hf;obtain⟨iR,VU,CB,CJ,CO⟩:=info_parts Tryz.infoFrame;obtain⟨dk,f1,dc⟩:=l.f1;have h6:=l.n6;obtain⟨⟨kv,a0,b0⟩,a1,a7,a9,⟨kp,cd,ar,_⟩,ce,⟨⟨v2,n2,aw,a2⟩,⟨v3,n3,ax,a3⟩,⟨v4,a4⟩,⟨v5,a5⟩,⟨v6,a6⟩,⟨v8,a8⟩⟩,-,-⟩:=l.kX k dl;rw[T]at a1;have a1:w.cell? (O rb (k*13+1))=some (.bool false):=a1;generalize (ld.ls k).arm.isSome=v7 at *;obtain⟨b9,da,_⟩:=l.wJ k;have cx:=l.oH;obtain⟨kl,bw⟩:∃kl,kl=bW (ld.ls k).kept:=⟨_,rfl⟩;rw[<- bw]at ar;clear bw;obtain⟨e,ac⟩:∃e,e=aH es ah[k] es.length:=⟨_,rfl⟩;have al:e.length<=1048576:=by rw[ac];exact KU l.oH
 rw[<- ac];have c4:J<|e=aH es ah[k] es.length:=ac;clear ac;generalize cu:(ld.ls k).made=dj at *;generalize Iq:(ld.ls k).lost=t at *;clear cu Iq;obtain⟨o,ag⟩:∃o,o=jm fs ls k m t (cnt ah[k]) e fs.length:=⟨_,rfl⟩;obtain⟨cs,ct⟩:1<=o/\o<=100000000:=by rw[ag];exact zB _ _ _ _ _ _ _ al _
 rw[<- ag];have ca:J<|o=jm fs ls k m t (cnt ah[k]) e fs.length:=ag;clear ag;have bl:=l.a11 k dl;have bm:ah[k].length<=1048576:=by have:=l.kn _ (κ dl);have:=l.oH;omega
 obtain⟨fo,fc,bv,dd⟩:=hf.shape;have f4:w.cell? (O c 4)=some (.slice fo fs.length fc):=by rw[<- bv];exact l.f4
 obtain⟨r,q,af,cn⟩:=b0.shape;have cf:(bools ah[k]).length=ah[k].length:=by simp[bools]
 rw[cf]at af cn;obtain⟨bb,ba,co,_⟩:=ar.shape;have bu:=l.VO;have HU:J<|∀i:Int,oI ld ah i=0->Calls prog 22 #[.pointer (some (z c)),.int .i64 i] w λj w'=>j=.returned (.int .i64 0)/\w'=w:=λi hi=>by have:=iG w c rb aY fv av room es acc ld ah l i;rw[hi]at this;exact this
 have bf:J<|oI ld ah (k:Int)=0/\oI ld ah (m:Int)=0:=⟨Ce dl T,Ce cl c3⟩;clear T c3;obtain⟨aq,ap,an,br⟩:=cj;rw[br]at bl;clear br;obtain⟨W1,Z⟩:∃W1,W1=w.alloc (.cells #[.slice r ah[k].length q,.bool false,.slice v2 n2 aw,.slice v3 n3 ax,.bool v4,.int .i64 v5,.int .i64 v6,.bool v7,.int .i64 v8,.int .i64 dj,.slice bb (ints kl).length ba,.slice aq ap an,.int .i64 t] 64):=⟨_,rfl⟩;have az:Below w.heap.size w W1:=by rw[Z];exact(φ _ w).alloc (χ _) _
 have k1:aC W1 w.heap.size #[.slice r ah[k].length q,.bool false,.slice v2 n2 aw,.slice v3 n3 ax,.bool v4,.int .i64 v5,.int .i64 v6,.bool v7,.int .i64 v8,.int .i64 dj,.slice bb (ints kl).length ba,.slice aq ap an,.int .i64 t] 64:=by rw[Z];exact aC.new w _ _
 have ai:W1.heap.size=w.heap.size+1:=by rw[Z];simp
 obtain⟨W2,aa⟩:∃W2,W2=W1.alloc (.cells #[.int .i64 k,.int .i64 m,.int .i64 0,.slice r ah[k].length q,.int .i64 dj,.slice none 0 0,.int .i64 t,.bool false,.int .i64 0] 162):=⟨_,rfl⟩;have O6:Below W1.heap.size W1 W2:=by rw[aa];exact(φ _ W1).alloc (χ _) _
 have R:Below w.heap.size w W2:=az.trans (O6.mono az.size);have k2:aC W2 (w.heap.size+1) #[.int .i64 k,.int .i64 m,.int .i64 0,.slice r ah[k].length q,.int .i64 dj,.slice none 0 0,.int .i64 t,.bool false,.int .i64 0] 162:=by rw[aa,<- ai];exact aC.new W1 _ _
 have b8:=k1.below O6;have c1:W2.heap.size=w.heap.size+2:=by rw[aa];simp[ai]
 have bc:J<|∀wx,wx.heap=W2.heap->wx.os=W2.os->wx.tape=W2.tape->wx.output=W2.output->Calls prog 61 #[aY,.slice r ah[k].length q] wx λj w'=>∃h n di,j=.returned (.slice h n di)/\(e.length=n/\aI 3 w' (.slice h n di) (ints (bW e))/\(∀g K,h=some (O g K)->W2.heap.size<=g)/\Below W2.heap.size W2 w')/\(∀B,w'.frozen? (O (w.heap.size+1) B)=false)/\w'.cell? (O (w.heap.size+1) 5)=some (.slice none 0 0)/\w'.cell? (O c 2)=some aY/\w'.cell? (z w.heap.size)=some (.slice r ah[k].length q):=λwx hx ho ht hp=>by
  have b3:Below W2.heap.size W2 wx:=⟨ho,ht,hp,by rw[hx];exact χ _,λk _=>by rw[hx]⟩;have b2:Below w.heap.size w wx:=R.trans (b3.mono R.size);have oH:=l.oH;refine ψ (zh aY es (.slice r ah[k].length q) ah[k] wx V V ((bu.below b2).mono b2.size) (by rw[<- af];exact(b0.below b2).A8) l.ok) ?_;rintro j w'⟨v,rfl,b5,Vl⟩;have S:=fF b5;rw[<- c4.o,Tv]at S b5;have cr:∀g K n c,v=.slice (some (O g K)) n c->W2.heap.size<=g:=λg K n c j=>by
   rcases b5.2 with⟨Y,_⟩|⟨g',c',db,Y,h2,_⟩
   .rw[j]at Y;cases Y
   .rw[j]at Y;cases Y;exact ς (by rw[hx];exact χ _) h2
  obtain⟨h,di,rfl,_⟩:=S.shape;rw[jX]at S⊢;have ae:Below W2.heap.size W2 w':=b3.trans (Vl.mono b3.size);have kk:=k2.below ae;have cv:=b8.below ae;refine⟨h,_,di,rfl,⟨rfl,S,λg K j=>cr g K _ _ (by rw[j]),ae⟩,kk.frozen,(kk.cell 5).trans rfl, ?_,(cv.cell 0).trans rfl⟩
  .rw[ae.cell (p:=(O c 2)) (show c<W2.heap.size by have:=l.tc.lt;omega),R.cell (p:=(O c 2)) l.tc.lt];exact l.f2
 have c2:W2.cell? (O c 2)=some aY:=by rw[R.cell (p:=(O c 2)) l.tc.lt];exact l.f2
 have d0:=(b8.cell 0).trans rfl;have ch:=(k1.cell 0).trans rfl;have ci:=(k1.cell 9).trans rfl;have cg:=(k1.cell 12).trans rfl;have c7:J<|w.alloc (.cells #[.slice r ah[k].length q,.bool false,.slice v2 n2 aw,.slice v3 n3 ax,.bool v4,.int .i64 v5,.int .i64 v6,.bool v7,.int .i64 v8,.int .i64 dj,.slice bb (ints kl).length ba,.slice aq ap an,.int .i64 t] 64)=W1:=Z.symm;have c8:J<|W1.alloc (.cells #[.int .i64 k,.int .i64 m,.int .i64 0,.slice r ah[k].length q,.int .i64 dj,.slice none 0 0,.int .i64 t,.bool false,.int .i64 0] 162)=W2:=aa.symm;have KW:J<|aC W2 (w.heap.size+1) #[.int .i64 k,.int .i64 m,.int .i64 0,.slice r ah[k].length q,.int .i64 dj,.slice none 0 0,.int .i64 t,.bool false,.int .i64 0] 162:=k2;have ak:J<|Below w.heap.size w W2:=R;have bg:J<|aI 4 w (.slice r ah[k].length q) (bools ah[k]):=by rw[<- af];exact b0
 have Wv:J<|_:=bt;have cy:J<|W1.heap.size=w.heap.size+1:=ai;have cz:J<|W2.heap.size=w.heap.size+2:=c1;have de:((k:Int)==(m:Int))=false:=ό.2 V;subst af co;clear l hf b0 ar bu Z aa az O6 R k1 k2 b8 bt ai c1;go_enter func47,ntmps47;go_wp2_with fail;refine ψ (HU.o (k:Int) bf.o.1) ?_;rintro j d⟨rfl,rfl⟩;go_wp2_with fail;refine ψ (HU.o (m:Int) bf.o.2) ?_;rintro j d⟨rfl,rfl⟩;go_wp2_with fail;rw[c7.o,c8.o];clear a0 a1 a2 a3 a4 a5 a6 a7 a8 a9 cd bl ce f1 f4 ch ci cg HU bv;go_cut []from 48 to 56 (λwx=>∃h n di w5,wx=w5.setCell (O (d.heap.size+1) 5) (.slice h n di)/\e.length=n/\aI 3 w5 (.slice h n di) (ints (bW e))/\(∀g K,h=some (O g K)->W2.heap.size<=g)/\Below W2.heap.size W2 w5)
 case first =>
  go_region_law (go_simp;refine ψ (bc.o _ rfl rfl rfl rfl) ?_;rintro j w5⟨h,n,di,rfl,cq,z5,z6,z7,z8⟩)
  all_goals
   go_wp2_with fail;go_meet;obtain⟨q2,q3,q5,q4⟩:=cq;exact⟨h,n,di,w5,rfl,q2,q3,q5,q4⟩
 case rest =>
 obtain⟨h,n,di,w5,rfl,cp,bx,bz,b1⟩:=hcut;have HG:J<|∀b y n dk,Value.slice h e.length di=.slice (some (O b y)) n dk->d.heap.size<=b:=λb y n dk j=>by simp only[ϑa]at j;exact ς ak.o.size (bz b y j.1)
 clear bz;subst cp;clear bc c2 d0;have k5:=KW.o.below b1;have E:aC (w5.setCell (O (d.heap.size+1) 5) (.slice h e.length di)) (d.heap.size+1) #[.int .i64 k,.int .i64 m,.int .i64 0,.slice r ah[k].length q,.int .i64 dj,.slice h e.length di,.int .i64 t,.bool false,.int .i64 0] 162:=by unfold aC at k5⊢;simp[World.setCell,μ,k5]
 have bn:Below d.heap.size d w5:=ak.o.trans (b1.mono ak.o.size);have bs:Below d.heap.size d (w5.setCell (O (d.heap.size+1) 5) (.slice h e.length di)):=bn.setCell (p:=(O (d.heap.size+1) 5)) Ω _;have b6:aI 3 (w5.setCell (O (d.heap.size+1) 5) (.slice h e.length di)) (.slice h e.length di) (ints (bW e)):=by exact bx.aJ (M:=λx=>x=d.heap.size+1) ((aA.refl (λx=>x=d.heap.size+1) w5).setCell (p:=(O (d.heap.size+1) 5)) rfl _) (λb D j=>Tagged.ne D ⟨_,k5⟩ Ψ j)
 generalize w5.setCell (O (d.heap.size+1) 5) (.slice h e.length di)=Q at *;clear bx b1 bn k5;have W:J<|Below d.heap.size d Q:=bs;have bd:J<|∀wx,wx=Q->Calls prog 96 #[.pointer (some (z c)),.agg #[.int .i64 k,.int .i64 m,.int .i64 0,.slice r ah[k].length q,.int .i64 dj,.slice h e.length di,.int .i64 t,.bool false,.int .i64 0]] wx λj w'=>j=.returned (.int .i64 o)/\Below Q.heap.size Q w':=λwx hx=>by subst hx;have Zg:=H.o.below W.o;rw[ca.o];exact Tt wx c fv fs Zg.f4 (HF.o.below W.o) V ⟨k,m,0,ah[k],b⟩ ⟨.slice r ah[k].length q,.slice h e.length di,⟨dj,t,false,0,e⟩⟩ (bg.o.below W.o) bm b6 al (λf hf h0 S=>Wv.o f hf h0 S)
 have WA:J<|aC Q (d.heap.size+1) #[.int .i64 k,.int .i64 m,.int .i64 0,.slice r ah[k].length q,.int .i64 dj,.slice h e.length di,.int .i64 t,.bool false,.int .i64 0] 162:=E;have j0:=(E.cell 0).trans rfl;have j1:=(E.cell 1).trans rfl;have j2:=(E.cell 2).trans rfl;have j3:=(E.cell 3).trans rfl;have j4:=(E.cell 4).trans rfl;have j5:=(E.cell 5).trans rfl;have j6:=(E.cell 6).trans rfl;have j7:=(E.cell 7).trans rfl;have j8:=(E.cell 8).trans rfl;have bi:J<|aI 3 Q (.slice h e.length di) (ints (bW e)):=b6;clear bs E b6;go_wp2_with fail;refine ψ (bd.o _ rfl) ?_;rintro j w7⟨rfl,ad⟩;clear j0 j1 j2 j3 j4 j5 j6 j7 j8 bd;have U:=WA.o.below ad;have q8:=(U.cell 8).trans rfl;have cw:=U.frozen;have F:aC (w7.setCell (O (d.heap.size+1) 8) (.int .i64 o)) (d.heap.size+1) #[.int .i64 k,.int .i64 m,.int .i64 0,.slice r ah[k].length q,.int .i64 dj,.slice h e.length di,.int .i64 t,.bool false,.int .i64 o] 162:=by unfold aC at U⊢;simp[World.setCell,μ,U]
 have bo:Below d.heap.size d w7:=W.o.trans (ad.mono W.o.size);have ab:Below d.heap.size d (w7.setCell (O (d.heap.size+1) 8) (.int .i64 o)):=bo.setCell (p:=(O (d.heap.size+1) 8)) Ω _;have b7:aI 3 (w7.setCell (O (d.heap.size+1) 8) (.int .i64 o)) (.slice h e.length di) (ints (bW e)) :=
  (bi.o.below ad).aJ (M:=λx=>x=d.heap.size+1) ((aA.refl (λx=>x=d.heap.size+1) w7).setCell (p:=(O (d.heap.size+1) 8)) rfl _) (λb D j=>Tagged.ne D ⟨_,U⟩ Ψ j)
 have P:J<|bD (w7.setCell (O (d.heap.size+1) 8) (.int .i64 o)) c rb aY fv av room es acc ld ah:=H.o.below ab;have aj:J<|iZ ld.I (w7.setCell (O (d.heap.size+1) 8) (.int .i64 o)) fv fs ls:=HF.o.below ab;have c6:J<|Fz (λb=>ld.I b\/∃y n dk,Value.slice h e.length di=.slice (some (O b y)) n dk) (w7.setCell (O (d.heap.size+1) 8) (.int .i64 o)) ⟨k,m,0,ah[k],b⟩ ⟨.slice r ah[k].length q,.slice h e.length di,⟨dj,t,false,o,e⟩⟩:=⟨bg.o.below ab,bm,⟨b7,λb y n dk j=>υ ⟨y,n,dk,j⟩⟩,al,cs,ct,b9⟩;have c5:J<|∀b,(ld.I b\/∃y n dk,Value.slice h e.length di=.slice (some (O b y)) n dk)->Tagged (w7.setCell (O (d.heap.size+1) 8) (.int .i64 o)) b 3:=by
  rintro b (D|⟨y,n,dk,j⟩)
  .exact P.o.ib b D
  .rcases b7 with⟨X,_⟩|⟨b',o',c',X,_,h3,_⟩
   .rw[j]at X;cases X
   .rw[j]at X;cases X;exact h3
 have bh:J<|Below d.heap.size d (w7.setCell (O (d.heap.size+1) 8) (.int .i64 o)):=ab;clear ad bo b7 bi WA U;go_wp2_with fail;clear q8 cw;generalize w7.setCell (O (d.heap.size+1) 8) (.int .i64 o)=G at *;clear ab;obtain⟨N,x1,x0,x2,x3⟩:=aj.o;have cb:J<|N.map JH.y=ls:=x0;clear x0;have j0:=(F.cell 0).trans rfl;have j1:=(F.cell 1).trans rfl;have j2:=(F.cell 2).trans rfl;have j3:=(F.cell 3).trans rfl;have j4:=(F.cell 4).trans rfl;have j5:=(F.cell 5).trans rfl;have j6:=(F.cell 6).trans rfl;have j7:=(F.cell 7).trans rfl;have j8:=(F.cell 8).trans rfl;have g4:G.cell? (O c 4)=some fv:=P.o.f4;have bq:c<G.heap.size:=P.o.tc.lt;have bp:=P.o.tc.frozen;have bj:J<|G.ownsRow 0 162 9 fv fs.length (eH fs N):=x2;have bk:J<|∀B(l:B<fs.length)(h':B<N.length),Fz ld.I G fs[B] N[B]:=x3;have Vo:J<|fv.ownBlock≠some c:=P.o.iF aj.o;have m1:J<|fs.length+1<=maxLen:=by unfold J maxLen;omega
 have m2:J<|(fs.length+1)*104<=140737488355328:=ω V
 have c0:J<|∀u∈([.int .i64 k,.int .i64 m,.int .i64 0,.slice r ah[k].length q,.int .i64 dj,.slice h e.length di,.int .i64 t,.bool false,.int .i64 o]:List Value),u.oneCell'=true:=by intro u T;simp only[ϑL,List.mem_nil_iff,ϑO]at T;rcases T with rfl|rfl|rfl|rfl|rfl|rfl|rfl|rfl|rfl<;>rfl
 clear x2 x3 F;go_cut []from 60 to 70 (λwx=>∃w9 A C,wx=w9.setCell (O c 4) (.slice (some (z A)) (fs.length+1) C)/\aA (λk=>fv.ownBlock=some k) G w9/\w9.ownsRow 0 162 9 (.slice (some (z A)) (fs.length+1) C) (fs.length+1) (eH fs N++[.int .i64 k,.int .i64 m,.int .i64 0,.slice r ah[k].length q,.int .i64 dj,.slice h e.length di,.int .i64 t,.bool false,.int .i64 o])/\(fv.ownBlock=some A\/G.heap.size<=A))
 case first =>
  go_region_law (refine iU rfl (.tmp 64) (.tmp 66) 36 rfl 162 iR (.agg #[.int .i64 0,.int .i64 0,.int .i64 0,.slice none 0 0,.int .i64 0,.slice none 0 0,.int .i64 0,.bool false,.int .i64 0]) 9 104 underlying36 VU CB CJ CO rfl Ψ fv fs.length (eH fs N) rfl ?_ _ 1 1 [.int .i64 k,.int .i64 m,.int .i64 0,.slice r ah[k].length q,.int .i64 dj,.slice h e.length di,.int .i64 t,.bool false,.int .i64 o] rfl rfl ?_ c0.o m1.o m2.o (Nat.succ_pos _) ?_;(exact bj.o.alloc _);(intro B u s;match B,s with|0,s=>(cases s;simp[Addr.add])|1,s=>(cases s;simp[Addr.add])|2,s=>(cases s;simp[Addr.add])|3,s=>(cases s;simp[Addr.add])|4,s=>(cases s;simp[Addr.add])|5,s=>(cases s;simp[Addr.add])|6,s=>(cases s;simp[Addr.add])|7,s=>(cases s;simp[Addr.add])|8,s=>(cases s;simp[Addr.add]));intro A C w9 yA ck yB;have L:aA (λk=>fv.ownBlock=some k) G w9:=aA.grown (aA.of_below Γ) ck (λk dl=>τ dl);have k4:=(η (w:=G) (a:=(O c 4)) (L.block c bq Vo.o)).trans g4;have dg:∀B,w9.frozen? (O c B)=false:=λB=>(World.frozen?_of_block (w:=G) (a:=(O c B)) (L.block c bq Vo.o)).trans (bp B))
  all_goals
   go_wp2_with fail;go_meet;refine⟨w9,A,C,rfl,L,yA, ?_⟩;rcases yB with l|l
   .exact τ l
   .exact υ (by simp at l;omega)
 case rest =>
 obtain⟨w9,A,C,rfl,L,yA,yB⟩:=hcut;have b4:=QV P.o aj.o L ⟨k,m,0,ah[k],b⟩ _ c6.o (λb D=>τ D) c5.o N x1 cb.o bk.o yA;have be:J<|bD (w9.setCell (O c 4) (.slice (some (z A)) (fs.length+1) C)) c rb aY (.slice (some (z A)) (fs.length+1) C) av room es acc ⟨λb=>ld.I b\/∃y n dk,Value.slice h e.length di=.slice (some (O b y)) n dk,ld.ls⟩ ah/\iZ (λb=>ld.I b\/∃y n dk,Value.slice h e.length di=.slice (some (O b y)) n dk) (w9.setCell (O c 4) (.slice (some (z A)) (fs.length+1) C)) (.slice (some (z A)) (fs.length+1) C) (fs++[⟨k,m,0,ah[k],b⟩]) (ls++[⟨dj,t,false,o,e⟩]):=b4;have r4:=b4.1.f4;have HX:J<|aA (λx=>x=c\/fv.ownBlock=some x) d (w9.setCell (O c 4) (.slice (some (z A)) (fs.length+1) C))/\(fv.ownBlock=some A\/d.heap.size<=A):=⟨aA.setCell (M:=λx=>x=c\/fv.ownBlock=some x) (p:=(O c 4)) ((aA.of_below bh.o).trans (L.mono (λk _ dl=>υ dl))) (τ rfl) _,yB.imp id (λl=>ς bh.o.size l)⟩;clear b4 L yA yB j0 j1 j2 j3 j4 j5 j6 j7 j8 g4 bp bj bk c0 m1 m2;generalize w9.setCell (O c 4) (.slice (some (z A)) (fs.length+1) C)=W9 at *;go_wp2_with fail;go_ret2;exact⟨by first|rfl|(congr 2;go_num),_,_,(by rintro b (D|⟨y,n,dk,j⟩);exact τ D;exact υ (HG.o b y n dk j)),λb D=>τ D,be.o.1,be.o.2,HX.o.1,λg hg=>by cases hg;exact HX.o.2⟩
def Zo{w:World}{B g n c size:Nat}{e:TypeId}{xs:List Value}(h:w.ownsRow B e size (.slice (some (z g)) n c) n xs)(i:Nat)(u:Value):(w.setCell (O g i) u).ownsRow B e size (.slice (some (z g)) n c) n (xs.set i u):=by
 obtain⟨l,⟨d,_⟩|⟨r,q,b,a,j,k,f,m,o,p⟩⟩:=h
 .cases d
 .simp only[ϑa,ϑb,ϑz,ϑM,ϑN]at a;obtain⟨rfl,rfl⟩:=a;refine⟨by rw[List.length_set];exact l,υ ⟨g,c,b.setIfInBounds i u,rfl,j, ?_,f,m,by simpa using o, ?_⟩⟩
  .simp[World.setCell,μ,k]
  .rw[<- p,Array.toList_setIfInBounds,List.take_set]
def O8(w:World)(c:Nat)(fv:Value)(fs:List lH)(b:w.cell? (O c 4)=some fv){I:Nat->Prop}{ls:List LF}(h:iZ I w fv fs ls)(k:fs.length<=500)(f:Int)(m:¬(1<=f/\f<=fs.length)):Calls prog 48 #[.pointer (some (z c)),.int .i64 f] w λe w'=>e=.returned (.tuple #[.int .i64 0,.int .i64 9])/\w'=w:=by
 obtain⟨d,g,a,l⟩:=h.shape;rw[a]at b;clear h a;by_cases i:f<1
 .go_enter func48,ntmps48;go_wp2;go_ret2;exact⟨rfl,rfl⟩
 .have j:(fs.length:Int)<f:=V
  go_enter func48,ntmps48;go_wp2;go_ret2;exact⟨rfl,rfl⟩
structure az6(w:World)(c rb fb cap fc n len k:Nat)(fs:List lH)(hk:k<fs.length)(ko:Option Addr)(kc:Nat)(made:Int)(ho:Option Addr)(hn hc:Nat)(lost:Int)(had:Bool)(most:Nat)(db:Bool):Prop where
 c1:w.cell? (O c 1)=some (.slice (some (z rb)) n cap)
 c4:w.cell? (O c 4)=some (.slice (some (z fb)) len fc)
 dn:w.cell? (O rb (fs[k].dst*13+1))=some (.bool db)
 r0:w.cell? (O fb (k*9))=some (.int .i64 (fs[k].src))
 r1:w.cell? (O fb (k*9+1))=some (.int .i64 (fs[k].dst))
 r2:w.cell? (O fb (k*9+2))=some (.int .i64 (fs[k].ack))
 r3:w.cell? (O fb (k*9+3))=some (.slice ko fs[k].known.length kc)
 r4:w.cell? (O fb (k*9+4))=some (.int .i64 made)
 r5:w.cell? (O fb (k*9+5))=some (.slice ho hn hc)
 r6:w.cell? (O fb (k*9+6))=some (.int .i64 lost)
 r7:w.cell? (O fb (k*9+7))=some (.bool had)
 r8:w.cell? (O fb (k*9+8))=some (.int .i64 most)
 kn:aI 4 w (.slice ko fs[k].known.length kc) (bools fs[k].known)
def WC{w:World}{c rb:Nat}{aY fv:Value}{av:Nat->Value}{room:Nat}{es:List Ev}{acc:Nat}{ld:Ld}{ah:List (List Bool)}{fs:List lH}{ls:List LF}(h:bD w c rb aY fv av room es acc ld ah)(D:iZ ld.I w fv fs ls)(k:Nat)(i:k<fs.length)(C:fs[k].dst<ah.length):∃d e fc o n M l H y L x N,fv=.slice (some (z d)) fs.length fc/\fs.length<=fc/\ah.length<=e/\az6 w c rb d e fc ah.length fs.length k fs i o n M l H y L x N (ld.ls fs[k].dst).dn.isSome:=by
 obtain⟨e,f1,B⟩:=h.f1;obtain⟨b,T,S,g,t⟩:=D;have q:k<b.length:=V
 have m:=t k i q;have r:=m.al.1;obtain⟨l,A,s,P⟩:=r.shape;obtain⟨o,n,f,_⟩:=m.kn.shape;have G:(bools fs[k].known).length=fs[k].known.length:=by simp[bools]
 rw[G]at f;obtain⟨d,fc,rfl⟩:=dK g V;have a:∀j,j<9->w.cell? (O d (k*9+j))=(mg fs[k] b[k])[j]?:=λj F=>by rw[g.cellAt (k*9+j) V,nC fs b k i q j F]
 have E:fs.length<=fc:=by
  obtain⟨_,⟨u,_⟩|⟨U,Q,R,K,_,_,p,_⟩⟩:=g
  .cases u
  .simp only[ϑa]at K;omega
 have p:=a 3 V;have v:=a 5 V;refine⟨d,e,fc,o,n,(b[k].y.made:Int),l,(ints (bW b[k].y.al)).length,A,(b[k].y.lost:Int),b[k].y.had,b[k].y.most,rfl,E,B,⟨f1,h.f4,(h.kX _ C).c1,a 0 V,a 1 V,a 2 V, ?_,a 4 V, ?_,a 6 V,a 7 V,a 8 V,by rw[<- f];exact m.kn⟩⟩
 .rw[<- f];exact p
 .rw[<- s];exact v
def KX(w:World)(c rb:Nat)(aY fv:Value)(av:Nat->Value)(room:Nat)(es:List Ev)(acc:Nat)(ld:Ld)(ah:List (List Bool))(h:bD w c rb aY fv av room es acc ld ah)(fs:List lH)(ls:List LF)(f:iZ ld.I w fv fs ls)(k:Nat)(v:k<fs.length)(t:fs[k].dst<ah.length)(g:(ld.ls fs[k].dst).dn=none)(d:fs[k].ack=0)(G:fs.length=500):Calls prog 48 #[.pointer (some (z c)),.int .i64 ((k:Int)+1)] w λn w'=>n=.returned (.tuple #[.int .i64 0,.int .i64 7])/\Below w.heap.size w w':=by
 obtain⟨r,C,s,U,S,X,R,Q,L,W,K,Y,u,P,M,D⟩:=WC h f k v t;obtain⟨j,l,b,Z,r1,y,r3,r4,r5,r6,r7,r8,_⟩:=D;rw[g]at b;have b:w.cell? (O rb (fs[k].dst*13+1))=some (.bool false):=b;have H:=h.n6;have e:=h.tc.lt;have x:=h.jr.lt;have a:=λo=>(φ _ w).alloc (χ _) o;have A:=λo=>((a o).cell (p:=(O c 1)) e).trans j;have m:=λo=>((a o).cell (p:=(O c 4)) e).trans l;have E:=λo=>((a o).cell (p:=(O rb _)) x).trans b;have i:=ω<|λo q=>below_drewN (a o) q;have B:∀o q,((w.alloc o).drewN q).cell? (O c 4)=some (.slice (some (z r)) fs.length s):=λo q=>m o;rw[d]at y;have N:(fs[k].dst:Int)<(ah.length:Int):=V
 clear h f a u d g;generalize fs[k].dst=F at *;generalize fs[k].src=src at *;generalize fs[k].known.length=T at *;go_enter func48,ntmps48;go_wp2_with fail
 go_quiet (fail)
 go_wp2_with fail;go_ret2;exact⟨rfl,i.o _ _⟩
def KY(w:World)(c rb:Nat)(aY fv:Value)(av:Nat->Value)(room:Nat)(es:List Ev)(acc:Nat)(ld:Ld)(ah:List (List Bool))(h:bD w c rb aY fv av room es acc ld ah)(fs:List lH)(ls:List LF)(e:iZ ld.I w fv fs ls)(k:Nat)(u:k<fs.length)(s:fs[k].dst<ah.length)(f:(ld.ls fs[k].dst).dn.isSome=true)(F:fs.length<=500):Calls prog 48 #[.pointer (some (z c)),.int .i64 ((k:Int)+1)] w λm w'=>m=.returned (.tuple #[.int .i64 0,.int .i64 3])/\Below w.heap.size w w':=by
 obtain⟨n,B,r,T,R,W,Q,P,K,U,H,X,t,N,L,D⟩:=WC h e k u s;obtain⟨i,j,b,Y,Z,r2,r3,r4,r5,r6,r7,r8,_⟩:=D;rw[f]at b;have G:=h.n6;have d:=h.tc.lt;have v:=h.jr.lt;have a:=λo=>(φ _ w).alloc (χ _) o;have y:=λo=>((a o).cell (p:=(O c 1)) d).trans i;have l:=λo=>((a o).cell (p:=(O c 4)) d).trans j;have C:=λo=>((a o).cell (p:=(O rb _)) v).trans b;have g:=ω<|λo q=>below_drewN (a o) q;have A:∀o q,((w.alloc o).drewN q).cell? (O c 4)=some (.slice (some (z n)) fs.length r):=λo q=>l o;have M:(fs[k].dst:Int)<(ah.length:Int):=V
 clear h e a t f;generalize fs[k].dst=E at *;generalize fs[k].src=src at *;generalize fs[k].ack=x at *;generalize fs[k].known.length=S at *;go_enter func48,ntmps48;go_wp2_with fail
 go_quiet (fail)
 go_wp2_with fail;go_ret2;exact⟨rfl,g.o _ _⟩
