import Derived.Test.YtfmmllpjgkgeaaaGreatDoorPartS06
import Derived.Test.YtfmmllpjgkgeaaaGreatDoorPartS10
set_option linter.unusedVariables false
set_option linter.unusedSimpArgs false
set_option maxHeartbeats 16000000
set_option maxRecDepth 100000
namespace Go.Proofs.YtfmmllpjgkgeaaaGreatDoor
section
open Go.Proofs.Tryz Go.RowKit
variable{ls:List LF}{k:Nat}
structure xR where
 kv:Value
 al:Value
 y:LF
def ig(f:FrD)(x:xR):List Value:=[.int .i64 f.src,.int .i64 f.dst,.int .i64 f.ack,x.kv,.int .i64 x.y.made,x.al,.int .i64 x.y.lost,.bool x.y.had,.int .i64 x.y.most]
def bD:List FrD->List xR->List Value
 | f::fs,x::xs=>ig f x++bD fs xs
 | _,_=>[]
theorem iW:∀(fs:List FrD)(xs:List xR)(i:Nat)(h:i<fs.length)(a:i<xs.length)(j:Nat),j<9->(bD fs xs)[i*9+j]?=(ig fs[i] xs[i])[j]?
 | [],_,i,h,_,_,_=>by simp at h
 | _::_,[],i,_,a,_,_=>by simp at a
 | f::fs,x::xs,0,_,_,j,hj=>by rw[bD,ε (by simp[ig];omega)];simp
 | f::fs,x::xs,i+1,h,a,j,hj=>by have:=iW fs xs i (by simpa using h) (by simpa using a) j hj;have b:(ig f x).length=9:=rfl;rw[bD,ϋ (by rw[b];omega),b,show(i+1)*9+j-9=i*9+j by omega,this];rfl
theorem pq:∀(fs:List FrD)(xs:List xR)(f:FrD)(x:xR),xs.length=fs.length->bD (fs++[f]) (xs++[x])=bD fs xs++ig f x
 | [],[],f,x,_=>by simp[bD]
 | [],_::_,_,_,h=>by simp at h
 | _::_,[],_,_,h=>by simp at h
 | a::fs,b::xs,f,x,h=>by rw[List.cons_append,List.cons_append,bD,pq fs xs f x (by simpa using h),bD,List.append_assoc]
theorem ru:∀(fs:List FrD)(xs:List xR)(i:Nat)(h:i<fs.length)(a:i<xs.length),xs.length=fs.length->(bD fs xs).set (i*9+7) (.bool true)=bD fs (xs.set i ⟨xs[i].kv,xs[i].al,⟨xs[i].y.made,xs[i].y.lost,true,xs[i].y.most,xs[i].y.al⟩⟩)
 | [],_,i,h,_,_=>by simp at h
 | _::_,[],i,_,a,_=>by simp at a
 | f::fs,x::xs,0,_,_,_=>by rw[bD,List.set_append_left _ _ (by simp[ig])];rfl
 | f::fs,x::xs,i+1,h,a,he=>by have:=ru fs xs i (by simpa using h) (by simpa using a) (by simpa using he);have b:(ig f x).length=9:=rfl;rw[bD,List.set_append_right _ _ (by rw[b];omega),b,show(i+1)*9+7-9=i*9+7 by omega,this];rfl
structure rX(I:Nat->Prop)(w:World)(f:FrD)(x:xR):Prop where
 kn:SliceT 4 w x.kv (bools f.known)
 kl:f.known.length<=500
 al:SliceI I w x.al x.y.al
 all:x.y.al.length<=500
 m1:1<=x.y.most
 m2:x.y.most<=100000
 m3:x.y.made<=1000
def FrAt(I:Nat->Prop)(w:World)(fv:Value)(fs:List FrD)(ls:List LF):Prop:=∃xs:List xR,xs.length=fs.length/\xs.map xR.y=ls/\w.ownsRow 0 233 9 fv fs.length (bD fs xs)/\∀j(h:j<fs.length)(h':j<xs.length),rX I w fs[j] xs[j]
section
variable{M I I':Nat->Prop}{w w':World}{f:FrD}{x:xR}{fv:Value}{fs:List FrD}{ls:List LF}
theorem rX.chg(h:rX I w f x)(a:Chg M w w')(c:∀b,Tagged w b 4->¬M b)(d:∀b,I b->¬M b)(e:∀b,I b->I' b):rX I' w' f x:=⟨h.kn.chg a c,h.kl,h.al.chg a d e,h.all,h.m1,h.m2,h.m3⟩
theorem FrAt.chg(h:FrAt I w fv fs ls)(a:Chg M w w')(i:∀g,fv.ownBlock=some g->¬M g)(j:∀b,Tagged w b 4->¬M b)(k:∀b,I b->¬M b)(m:∀b,I b->I' b):FrAt I' w' fv fs ls:=by obtain⟨o,e,d,f,l⟩:=h;exact⟨o,e,d,ownsRow_chg f a i,λn c b=>(l n c b).chg a j k m⟩
theorem FrAt.below(h:FrAt I w fv fs ls)(a:Below w.heap.size w w'):FrAt I w' fv fs ls:=h.chg (M:=λ_=>False) (Chg.of_below a) (λ_ _ h=>h) (λ_ _ h=>h) (λ_ _ h=>h) (λ_ h=>h)
theorem FrAt.tag(h:FrAt I w fv fs ls):∀g,fv.ownBlock=some g->Tagged w g 233:=by obtain⟨b,_,_,a,_⟩:=h;exact own_tag a
theorem FrAt.shape(h:FrAt I w fv fs ls):∃b cap,fv=.slice b fs.length cap/\fs.length<=cap:=by
 obtain⟨f,_,_,⟨_,⟨a,c⟩|⟨g,cap,e,a,_,_,d,_⟩⟩,_⟩:=h
 .exact⟨none,0,by rw[a,c],V⟩
 .exact⟨_,cap,a,d⟩
theorem FrAt.nil(I:Nat->Prop)(w:World):FrAt I w (.slice none 0 0) [] []:=⟨[],rfl,rfl,World.ownsRow_nil _ _ _ _,λj h=>absurd h Ω⟩
end
def boundR(ls:List LF)(f:Int):Nat:=if 1<=f/\f<=ls.length then(ls[f.toNat-1]?.map LF.most).getD 0 else 0
theorem Bound_any(w:World)(c:Nat)(fv:Value)(fs:List FrD)(q:w.cell? (O c 4)=some fv){I:Nat->Prop}(h:FrAt I w fv fs ls)(x:fs.length<=500)(f:Int):Calls prog 112 #[.pointer (some (z c)),.int .i64 f] w λo w'=>o=.returned (.int .i64 (boundR ls f))/\w'=w:=by
 obtain⟨r,t,d,A⟩:=h.shape;have B:ls.length=fs.length:=by obtain⟨a,j,b,_⟩:=h;rw[<- b,List.length_map,j]
 rw[d]at q;by_cases u:f<1
 .clear h d;go_enter func112,ntmps112;go_wp2;go_ret;exact⟨by rw[boundR,ύ V];rfl,rfl⟩
 .by_cases v:(fs.length:Int)<f
  .clear h d;go_enter func112,ntmps112;go_wp2;go_ret;exact⟨by rw[boundR,ύ V];rfl,rfl⟩
  .obtain⟨k,rfl⟩:∃k:Nat,f=(k:Int)+1:=⟨(f-1).toNat,V⟩;have n:k<fs.length:=V
   obtain⟨a,j,i,b,l⟩:=h;have e:k<a.length:=V
   have g:=l k n e;obtain⟨p,s,rfl⟩:=own_some b V;have y:w.cell? (O p (k*9+8))=some (.int .i64 (a[k].y.most)):=by rw[b.cellAt (k*9+8) V,iW fs a k n e 8 V];(first|done|rfl)
   have m1:=g.m1;have m2:=g.m2;simp only[Value.slice.injEq]at d;obtain⟨rfl,_,rfl⟩:=d;have m:boundR ls ((k:Int)+1)=a[k].y.most:=by rw[boundR,ώ V,<- i];simp[show((k:Int)+1).toNat-1=k by omega,e]
   rw[m];clear b l g m i;generalize a[k].y.most=C at *;go_enter func112,ntmps112;go_wp2;go_ret;exact⟨rfl,rfl⟩
def bZ(a b:List Bool)(k:Nat):List Bool:=(bothL a b).take k++List.replicate (max a.length b.length-k) false
theorem ER(a b:List Bool)(k:Nat)(h:k<=max a.length b.length):(bZ a b k).length=max a.length b.length:=by unfold bZ;rw[ρ,List.length_take,gJ,List.length_replicate];omega
theorem ES(a b:List Bool)(k:Nat)(h:k<max a.length b.length):(bools (bZ a b k)).set k (.bool (a.getD k false||b.getD k false))=bools (bZ a b (k+1)):=by
 have c:k<(bothL a b).length:=by rw[gJ];exact h
 have d:(bothL a b)[k]=(a.getD k false||b.getD k false):=by rw[<- bU,ξ,σ c];(first|done|rfl)
 unfold bools bZ;rw[<- d,<- List.map_set];congr 1;rw[List.set_append_right _ _ (by rw[List.length_take];omega),List.length_take,Nat.min_eq_left V,Nat.sub_self,(V:max a.length b.length-k=(max a.length b.length-(k+1))+1),List.replicate_succ,List.set_cons_zero,ν c,List.append_assoc];rfl
theorem BF(a b:List Bool):bZ a b 0=List.replicate (max a.length b.length) false:=by unfold bZ;simp
theorem ET(a b:List Bool):bZ a b (max a.length b.length)=bothL a b:=by unfold bZ;rw[<- gJ,List.take_length,Nat.sub_self];simp
theorem heap_put{w:World}{g:Nat}{xs:List Value}{e:TypeId}(h:w.heap[g]?=some (.cells xs.toArray e (0,0)))(u:Value):(w.setCell (O g k) u).heap[g]?=some (.cells (xs.set k u).toArray e (0,0)):=by simp[World.setCell,μ,h]
theorem both_any(w:World)(s t:Value)(a b:List Bool)(y:SliceT 4 w s (bools a))(A:SliceT 4 w t (bools b))(ha:a.length<=500)(hb:b.length<=500):Calls prog 176 #[s,t] w λe w'=>∃R,e=.returned R/\SliceT 4 w' R (bools (bothL a b))/\Below w.heap.size w w':=by
 obtain⟨i4,a0,RU,O7,RV⟩:=info_parts Tryz.info4;obtain⟨ao,ac,P,_⟩:=y.shape;obtain⟨bo,bc,Q,_⟩:=A.shape;have L:(bools a).length=a.length:=by simp[bools]
 have M:(bools b).length=b.length:=by simp[bools]
 rw[L]at P;rw[M]at Q;have E:J<|∀c(k:Nat),k<=1000->Below w.heap.size w c->Calls prog 231 #[s,.int .i64 k] c λe w'=>e=.returned (.bool (a.getD k false))/\w'=c:=λc k h d=>qh w.heap.size s a k c V V (y.toIn.below d);have F:J<|∀c(k:Nat),k<=1000->Below w.heap.size w c->Calls prog 231 #[t,.int .i64 k] c λe w'=>e=.returned (.bool (b.getD k false))/\w'=c:=λc k h d=>qh w.heap.size t b k c V V (A.toIn.below d);subst P Q;obtain⟨n,j⟩:∃n,n=max a.length b.length:=⟨_,rfl⟩;have a3:n<=500:=V
 have a2:∀c:World,(Instr.makeSlice 163 (.int .i64 n) (.int .i64 n)).run prog c=.ok (.slice (some (z c.heap.size)) n n) (c.alloc (.cells (madeCells #[.bool false] n) 4)):=λc=>run_make_row' 163 4 (.bool false) 1 underlying163 Tryz.info4 rfl .i64 .i64 n V V c;have N:madeCells #[.bool false] n=(bools (bZ a b 0)).toArray:=by rw[BF,<- j];have:=xC n;apply Array.ext';rw[show(Value.bool false).cells=#[.bool false]from rfl]at this;rw[this];simp[bools]
 have o:J<|(w.alloc (.cells (madeCells #[.bool false] n) 4)).heap[w.heap.size]?=some (.cells (bools (bZ a b 0)).toArray 4 (0,0))/\Below w.heap.size w (w.alloc (.cells (madeCells #[.bool false] n) 4)):=⟨by rw[<- N];exact ah.new w _ _,(φ _ w).alloc (χ _) _⟩;have H:J<|∀k,k<n->(bools (bZ a b k)).set k (.bool (a.getD k false||b.getD k false))=bools (bZ a b (k+1)):=λk h=>ES a b k V;have q:J<|∀k,k<=n->(bools (bZ a b k)).length=n:=λk h=>by unfold bools;rw[List.length_map,ER _ _ _ V,j]
 have K:J<|∀c,c.heap[w.heap.size]?=some (.cells (bools (bZ a b n)).toArray 4 (0,0))->SliceT 4 c (.slice (some (z w.heap.size)) n n) (bools (bothL a b)):=λc d=>by
  have e:bZ a b n=bothL a b:=by rw[j];exact ET a b
  have W:(bools (bothL a b)).length=n:=by unfold bools;rw[List.length_map,gJ,j]
  rw[e]at d;exact υ ⟨w.heap.size,0,n,by rw[W],V,⟨_,d⟩,λr U=>by rw[Nat.zero_add,cell_of_heap d,σ U]⟩
 have G:J<|n=max a.length b.length:=j;clear y A L M N j;by_cases a1:a.length<b.length
 .have Y:n=b.length:=by have:=G.o;omega
  subst Y;go_enter func176,ntmps176;go_wp2;go_loopw [7,8,9] (λi _ _ c=>∃k:Nat,k<=b.length/\i=.int .i64 k/\c.heap[w.heap.size]?=some (.cells (bools (bZ a b k)).toArray 4 (0,0))/\Below w.heap.size w c) (λi _ _ _=>b.length-(intOf i).toNat);case atStart=>exact⟨0,V,rfl,o.o.1,o.o.2⟩
  case round =>
   obtain⟨k,h,rfl,f,g⟩:=hrel;by_cases hkn:k<b.length
   .have S:wr.cell? (O w.heap.size k)=some ((bools (bZ a b k))[k]'(by rw[q.o k h];exact hkn)):=by rw[cell_of_heap f,σ]
    have T:∀r,wr.frozen? (O w.heap.size r)=false:=Tagged.frozen ⟨_,f⟩;have m:J<|(wr.setCell (O w.heap.size k) (.bool (a.getD k false||b.getD k false))).heap[w.heap.size]?=some (.cells (bools (bZ a b (k+1))).toArray 4 (0,0))/\Below w.heap.size w (wr.setCell (O w.heap.size k) (.bool (a.getD k false||b.getD k false))):=⟨by rw[<- H.o k hkn];exact heap_put f _,g.setCell (p:=(O w.heap.size k)) (χ _) _⟩;have l:J<|_:=g;have v:J<|∀c,Below w.heap.size w c->_:=λc d=>E.o c k V d;have x:J<|∀c,Below w.heap.size w c->_:=λc d=>F.o c k V d;generalize a.getD k false=C at *;generalize b.getD k false=D at *;clear f g;generalize (bools (bZ a b k))[k]'(by rw[q.o k h];exact hkn)=Z at *;go_wp2_with fail;refine ψ (v.o _ l.o) ?_;rintro e w2⟨rfl,rfl⟩;go_wp2_with fail;refine ψ (x.o _ l.o) ?_;rintro e w3⟨rfl,rfl⟩;cases C<;>cases D
    all_goals
     go_wp2;go_roundw;case rel=>exact⟨k+1,V,Λ,m.o.1,m.o.2⟩
     case measure=>simp[intOf];omega
   .have B:k=b.length:=V
    subst B;have u:J<|_:=K.o _ f;go_wp2;go_ret;exact⟨_,rfl,u.o,g⟩
 .have X:n=a.length:=by have:=G.o;omega
  subst X;go_enter func176,ntmps176;go_wp2;go_loopw [7,8,9] (λi _ _ c=>∃k:Nat,k<=a.length/\i=.int .i64 k/\c.heap[w.heap.size]?=some (.cells (bools (bZ a b k)).toArray 4 (0,0))/\Below w.heap.size w c) (λi _ _ _=>a.length-(intOf i).toNat);case atStart=>exact⟨0,V,rfl,o.o.1,o.o.2⟩
  case round =>
   obtain⟨k,h,rfl,f,g⟩:=hrel;by_cases hkn:k<a.length
   .have S:wr.cell? (O w.heap.size k)=some ((bools (bZ a b k))[k]'(by rw[q.o k h];exact hkn)):=by rw[cell_of_heap f,σ]
    have T:∀r,wr.frozen? (O w.heap.size r)=false:=Tagged.frozen ⟨_,f⟩;have m:J<|(wr.setCell (O w.heap.size k) (.bool (a.getD k false||b.getD k false))).heap[w.heap.size]?=some (.cells (bools (bZ a b (k+1))).toArray 4 (0,0))/\Below w.heap.size w (wr.setCell (O w.heap.size k) (.bool (a.getD k false||b.getD k false))):=⟨by rw[<- H.o k hkn];exact heap_put f _,g.setCell (p:=(O w.heap.size k)) (χ _) _⟩;have l:J<|_:=g;have v:J<|∀c,Below w.heap.size w c->_:=λc d=>E.o c k V d;have x:J<|∀c,Below w.heap.size w c->_:=λc d=>F.o c k V d;generalize a.getD k false=C at *;generalize b.getD k false=D at *;clear f g;generalize (bools (bZ a b k))[k]'(by rw[q.o k h];exact hkn)=Z at *;go_wp2_with fail;refine ψ (v.o _ l.o) ?_;rintro e w2⟨rfl,rfl⟩;go_wp2_with fail;refine ψ (x.o _ l.o) ?_;rintro e w3⟨rfl,rfl⟩;cases C<;>cases D
    all_goals
     go_wp2;go_roundw;case rel=>exact⟨k+1,V,Λ,m.o.1,m.o.2⟩
     case measure=>simp[intOf];omega
   .have B:k=a.length:=V
    subst B;have u:J<|_:=K.o _ f;go_wp2;go_ret;exact⟨_,rfl,u.o,g⟩
theorem SliceT.natAt{w:World}{v:Value}{l:List Nat}(h:SliceT 3 w v (ints (natsI l))){a:Nat}(k:a<l.length):∃b d c,v=.slice (some (O b d)) l.length c/\l.length<=c/\w.cell? (O b (d+a))=some (.int .i64 (l[a])):=by
 have e:=natsI_len l;rcases h with⟨_,f⟩|⟨b,d,c,g,f,j,i⟩
 .rw[f]at e;simp at e;omega
 .refine⟨b,d,c,by rw[g,e],V, ?_⟩;rw[i a V];simp[ints,natsI]
def bestL(fs:List FrD)(ls:List LF)(i j lost n:Nat)(al:List Nat):Nat->Nat
 | 0=>200+80*al.length
 | k+1=>match fs[k]?,ls[k]? with
  | some h,some x=>if h.ack=0/\h.src=i/\h.dst=j/\x.had=true/\x.lost=lost then min (bestL fs ls i j lost n al k) (80+80*(n-cnt h.known)+8*goneN x.al al)else bestL fs ls i j lost n al k
  | _,_=>bestL fs ls i j lost n al k
theorem bestTo_eq(s:Sl)(i j:Nat):∀k,bestTo s i j k=bestL s.fs s.ls i j (s.rs i).lost (cnt (s.kn.getD i [])) (aliveTo s.es (s.kn.getD i []) s.es.length) k
 | 0=>rfl
 | k+1=>by unfold bestTo bestL;rw[bestTo_eq s i j k];(first|done|rfl)
theorem qG(fs:List FrD)(ls:List LF)(i j b n:Nat)(a:List Nat)(h:a.length<=500):∀k,1<=bestL fs ls i j b n a k/\bestL fs ls i j b n a k<=100000
 | 0=>by unfold bestL;omega
 | k+1=>by
  have:=qG fs ls i j b n a h k;unfold bestL;split
  .split<;>omega
  .exact this
theorem Lm{fs:List FrD}{i j a n:Nat}{b:List Nat}(h:k<fs.length)(c:k<ls.length)(d:¬(fs[k].ack=0/\fs[k].src=i/\fs[k].dst=j/\ls[k].had=true/\ls[k].lost=a)):bestL fs ls i j a n b (k+1)=bestL fs ls i j a n b k:=by rw[bestL,σ h,σ c];exact ύ d
theorem IE{fs:List FrD}{i j b n:Nat}{a:List Nat}(h:k<fs.length)(c:k<ls.length)(d:fs[k].ack=0/\fs[k].src=i/\fs[k].dst=j/\ls[k].had=true/\ls[k].lost=b):bestL fs ls i j b n a (k+1)=min (bestL fs ls i j b n a k) (80+80*(n-cnt fs[k].known)+8*goneN ls[k].al a):=by rw[bestL,σ h,σ c];exact ώ d
theorem EU(l b:List Nat)(a:Nat)(h:a<l.length):goneN (l.take (a+1)) b=goneN (l.take a) b+if b.contains l[a]then 0 else 1:=by unfold goneN;rw[ν h,List.filter_append,ρ];congr 1;rw[List.filter_cons];cases b.contains l[a]<;>rfl
theorem IG(l:List Nat)(b m:Nat)(h:b<l.length):(l.take (b+1)).contains m=((l.take b).contains m||(m==l[b])):=by rw[ν h,List.contains_eq_any_beq,List.contains_eq_any_beq,List.any_append];simp
theorem II(w:World)(c:Nat)(fv:Value)(fs:List FrD)(h4:w.cell? (O c 4)=some fv){I:Nat->Prop}(i:FrAt I w fv fs ls)(h5:fs.length<=500)(g:FrD)(x:xR)(hg:SliceT 4 w x.kv (bools g.known))(b7:g.known.length<=500)(af:SliceT 3 w x.al (ints (natsI x.y.al)))(bh:x.y.al.length<=500)(b4:∀f∈fs,f.ack=0->f.src=g.src->cnt f.known<=cnt g.known):Calls prog 175 #[.pointer (some (z c)),.agg (ig g x).toArray] w λn w'=>n=.returned (.int .i64 (bestL fs ls g.src g.dst x.y.lost (cnt g.known) x.y.al fs.length))/\Below w.heap.size w w':=by
 have bj:c<w.heap.size:=World.block_lt_of_cell? w (O c 4) h4;obtain⟨G,ch,⟨Zl,m,Zm,Zn,d⟩⟩:=x;simp only at *;have V9:=natsI_len d;have c6:ls.length=fs.length:=by obtain⟨Q,W,H,_⟩:=i;rw[<- H,List.length_map,W]
 obtain⟨U,ac,b2,bf⟩:=af.shape;rw[V9]at b2 bf;subst b2;obtain⟨fo,fc,ai,bk⟩:=i.shape;obtain⟨W0,Y⟩:∃W0,W0=w.alloc (.cells (ig g ⟨G,.slice U d.length ac,⟨Zl,m,Zm,Zn,d⟩⟩).toArray 233):=⟨_,rfl⟩;have K:Below w.heap.size w W0:=by rw[Y];exact(φ _ w).alloc (χ _) _
 have kg:ah W0 w.heap.size (ig g ⟨G,.slice U d.length ac,⟨Zl,m,Zm,Zn,d⟩⟩).toArray 233:=by rw[Y];exact ah.new w _ _
 have c9:W0.heap.size=w.heap.size+1:=by rw[Y];simp
 have h0:=i.below K;have Wh:=af.below K;have b6:=hg.below K;have HC:J<|∀a,Below W0.heap.size W0 a->a.cell? (O c 4)=some (.slice fo fs.length fc):=λa ci=>by rw[<- ai,ci.cell (p:=(O c 4)) (V:c<W0.heap.size),K.cell (p:=(O c 4)) bj];exact h4
 have C:J<|∀a,Below W0.heap.size W0 a->a.cell? (z w.heap.size)=some (.int .i64 g.src)/\a.cell? (O w.heap.size 1)=some (.int .i64 g.dst)/\a.cell? (O w.heap.size 3)=some G/\a.cell? (O w.heap.size 5)=some (.slice U d.length ac)/\a.cell? (O w.heap.size 6)=some (.int .i64 m):=λa ci=>by have k:=kg.below ci;exact⟨(k.cell 0).trans rfl,(k.cell 1).trans rfl,(k.cell 3).trans rfl,(k.cell 5).trans rfl,(k.cell 6).trans rfl⟩
 have HA:J<|∀a,Below W0.heap.size W0 a->∀h(_:h<d.length),∃b ad,U=some (O b ad)/\a.cell? (O b (ad+h))=some (.int .i64 (d[h])):=λa ci h ha=>by obtain⟨b,ad,bv,W,_,e3⟩:=(Wh.below ci).natAt ha;simp only[Value.slice.injEq]at W;exact⟨b,ad,W.1,e3⟩
 have HK:J<|∀a,Below W0.heap.size W0 a->SliceT 4 a G (bools g.known):=λa ci=>b6.below ci;have HF:J<|∀a,Below W0.heap.size W0 a->∀k(hk:k<fs.length)(aj:k<ls.length),∃b kv L u cj s r,fo=some (z b)/\L=.slice u ls[k].al.length cj/\kv=.slice s fs[k].known.length r/\ls[k].al.length<=cj/\a.cell? (O b (k*9))=some (.int .i64 (fs[k].src))/\a.cell? (O b (k*9+1))=some (.int .i64 (fs[k].dst))/\a.cell? (O b (k*9+2))=some (.int .i64 (fs[k].ack))/\a.cell? (O b (k*9+3))=some kv/\a.cell? (O b (k*9+4))=some (.int .i64 (ls[k].made))/\a.cell? (O b (k*9+5))=some L/\a.cell? (O b (k*9+6))=some (.int .i64 (ls[k].lost))/\a.cell? (O b (k*9+7))=some (.bool ls[k].had)/\a.cell? (O b (k*9+8))=some (.int .i64 (ls[k].most))/\SliceT 4 a kv (bools fs[k].known)/\SliceT 3 a L (ints (natsI ls[k].al))/\ls[k].al.length<=500/\fs[k].known.length<=500:=λa ci k hk b9=>by
  obtain⟨Q,W,e0,H,e3⟩:=h0.below ci;subst e0;rw[List.getElem_map];have aj:k<Q.length:=V
  have a0:=e3 k hk aj;have a1:=a0.al.1;have a2:=a0.all;obtain⟨u,cj,a3,a4⟩:=a1.shape;rw[natsI_len]at a3 a4;obtain⟨s,r,a5,_⟩:=a0.kn.shape;have Z:(bools fs[k].known).length=fs[k].known.length:=by simp[bools]
  rw[Z]at a5;rw[ai]at H;obtain⟨b,c',X⟩:=own_some H V;simp only[Value.slice.injEq]at X;obtain⟨X,_,rfl⟩:=X;have B:∀M,M<9->a.cell? (O b (k*9+M))=(ig fs[k] Q[k])[M]?:=λM hj=>by rw[X]at H;rw[H.cellAt (k*9+M) V,iW fs Q k hk aj M hj]
  exact⟨b,Q[k].kv,Q[k].al,u,cj,s,r,X,a3,a5,a4,B 0 V,B 1 V,B 2 V,B 3 V,B 4 V,B 5 V,B 6 V,B 7 V,B 8 V,a0.kn,a1,a2,a0.kl⟩
 have Lp:J<|_:=b4;have c1:cnt g.known<=500:=ς (cnt_le _) b7;have aw:J<|w.alloc (.cells (ig g ⟨G,.slice U d.length ac,⟨Zl,m,Zm,Zn,d⟩⟩).toArray 233)=W0:=Y.symm;have an:J<|_:=K;obtain⟨g0,g1,g3,E,y⟩:=C.o W0 (φ _ _);unfold ig;unfold ig at aw;clear i h0 af Wh hg b6 b4 Y kg ai h4 K V9;go_enter func175,ntmps175;go_wp2_with fail;rw[aw.o];go_wp2_with fail;clear g0 g1 g3 E y;go_loopw [5,6,7,8,9,10,11,12] (λv5 v6 _ _ _ _ _ _ a=>∃k j:Nat,k<=fs.length/\v6=.int .i64 k/\v5=.int .i64 j/\j=bestL fs ls g.src g.dst m (cnt g.known) d k/\Below W0.heap.size W0 a) (λ_ v6 _ _ _ _ _ _ _=>fs.length-(intOf v6).toNat);case atStart=>exact⟨0,200+80*d.length,V,rfl,Λ,rfl,φ _ _⟩
 case round =>
  obtain⟨k,j,hk,rfl,rfl,ag,e⟩:=hrel;obtain⟨bx,bz⟩:1<=j/\j<=100000:=by rw[ag];exact qG _ _ _ _ _ _ _ bh k
  have Zo:J<|j=bestL fs ls g.src g.dst m (cnt g.known) d k:=ag;clear ag;have c4:=HC.o _ e;by_cases hkn:k<fs.length
  .have Z:k<ls.length:=V
   obtain⟨fb,kv,L,u,cj,s,r,rfl,rfl,rfl,bi,f0,f1,f2,f3,f4,f5,f6,f7,f8,fk,fa,fl,b0⟩:=HF.o _ e k hkn Z;have T:J<|¬(fs[k].ack=0/\fs[k].src=g.src/\fs[k].dst=g.dst/\ls[k].had=true/\ls[k].lost=m)->j=bestL fs ls g.src g.dst m (cnt g.known) d (k+1):=λhn=>by rw[Lm hkn Z hn];exact Zo.o
   have Lr:J<|fs[k].ack=0/\fs[k].src=g.src/\fs[k].dst=g.dst/\ls[k].had=true/\ls[k].lost=m->bestL fs ls g.src g.dst m (cnt g.known) d (k+1)=min j (80+80*(cnt g.known-cnt fs[k].known)+8*goneN ls[k].al d):=λhn=>by rw[IE hkn Z hn,Zo.o]
   obtain⟨hl,b8⟩:∃hl,ls[k].al=hl:=⟨_,rfl⟩;rw[b8]at f5 fa fl bi Lr;clear b8;have br:J<|hl.take hl.length=hl:=List.take_length;obtain⟨g0,g1,g3,E,y⟩:=C.o _ e;have bc:∀o,(wr.alloc o).cell? (z w.heap.size)=some (.int .i64 g.src):=λo=>(C.o (wr.alloc o) (e.alloc e.size o)).1;have bd:∀o,(wr.alloc o).cell? (O w.heap.size 1)=some (.int .i64 g.dst):=λo=>(C.o (wr.alloc o) (e.alloc e.size o)).2.1;have be:∀o,(wr.alloc o).cell? (O w.heap.size 6)=some (.int .i64 m):=λo=>(C.o (wr.alloc o) (e.alloc e.size o)).2.2.2.2;have R:J<|Below W0.heap.size W0 wr:=e;have bt:fs.length<=fc:=bk;have az:J<|SliceT 4 wr (.slice s fs[k].known.length r) (bools fs[k].known):=fk;have ax:J<|SliceT 3 wr (.slice u hl.length cj) (ints (natsI hl)):=fa;have XW:J<|fs[k].ack=0->fs[k].src=g.src->cnt fs[k].known<=cnt g.known:=Lp.o fs[k] (κ hkn);have c2:cnt fs[k].known<=500:=ς (cnt_le _) b0;clear fk fa e;obtain⟨W3,a8⟩:∃W3,W3=wr.alloc (.cells #[.int .i64 (fs[k].src),.int .i64 (fs[k].dst),.int .i64 (fs[k].ack),.slice s fs[k].known.length r,.int .i64 (ls[k].made),.slice u hl.length cj,.int .i64 (ls[k].lost),.bool ls[k].had,.int .i64 (ls[k].most)] 233):=⟨_,rfl⟩;have a9:Below wr.heap.size wr W3:=by rw[a8];exact(φ _ wr).alloc (χ _) _
   have t:J<|Below W0.heap.size W0 W3:=R.o.trans (a9.mono R.o.size);have F:ah W3 wr.heap.size #[.int .i64 (fs[k].src),.int .i64 (fs[k].dst),.int .i64 (fs[k].ack),.slice s fs[k].known.length r,.int .i64 (ls[k].made),.slice u hl.length cj,.int .i64 (ls[k].lost),.bool ls[k].had,.int .i64 (ls[k].most)] 233:=by rw[a8];exact ah.new wr _ _
   have cb:W0.heap.size<=wr.heap.size:=R.o.size;have bl:=(F.cell 0).trans rfl;have bm:=(F.cell 1).trans rfl;have b9:=(F.cell 2).trans rfl;have bn:=(F.cell 6).trans rfl;have bo:=(F.cell 7).trans rfl;obtain⟨q0,q1,q3,q5,q6⟩:=C.o W3 t.o;have HH:J<|∀a,Below W3.heap.size W3 a->a.cell? (O wr.heap.size 3)=some (.slice s fs[k].known.length r)/\a.cell? (O wr.heap.size 5)=some (.slice u hl.length cj)/\SliceT 4 a (.slice s fs[k].known.length r) (bools fs[k].known)/\SliceT 3 a (.slice u hl.length cj) (ints (natsI hl))/\Below W0.heap.size W0 a:=λa ci=>by have k':=F.below ci;exact⟨(k'.cell 3).trans rfl,(k'.cell 5).trans rfl,(az.o.below a9).below ci,(ax.o.below a9).below ci,t.o.trans (ci.mono t.o.size)⟩
   have D:J<|wr.alloc (.cells #[.int .i64 (fs[k].src),.int .i64 (fs[k].dst),.int .i64 (fs[k].ack),.slice s fs[k].known.length r,.int .i64 (ls[k].made),.slice u hl.length cj,.int .i64 (ls[k].lost),.bool ls[k].had,.int .i64 (ls[k].most)] 233)=W3:=a8.symm;clear a8 a9 F az ax;generalize fs[k].src=bb at *;generalize fs[k].dst=b5 at *;generalize fs[k].ack=ae at *;generalize ls[k].had=bg at *;generalize ls[k].lost=aa at *;generalize ls[k].made=cc at *;generalize ls[k].most=cd at *;by_cases t1:0<ae
   .have bp:(0:Int)<(ae:Int):=V
    go_wp2_with fail;rw[D.o];try go_wp2
    go_roundw;case rel=>exact⟨k+1,j,V,Λ,rfl,T.o (λi=>V),t.o⟩
    case measure=>simp[intOf];omega
   .have bp:¬(0:Int)<(ae:Int):=V
    by_cases t2:bb=g.src
    .subst t2;have s2:((g.src:Int) !=(g.src:Int))=false:=bne_self_eq_false _;by_cases t3:b5=g.dst
     .subst t3;have s3:((g.dst:Int) !=(g.dst:Int))=false:=bne_self_eq_false _;cases bg
      .go_wp2_with fail;rw[D.o];try go_wp2
       go_roundw;case rel=>exact⟨k+1,j,V,Λ,rfl,T.o (λi=>Bool.false_ne_true i.2.2.2.1),t.o⟩
       case measure=>simp[intOf];omega
      .by_cases t5:aa=m
       .subst t5;have s5:((aa:Int) !=(aa:Int))=false:=bne_self_eq_false _;have c5:cnt fs[k].known<=cnt g.known:=XW.o V rfl;go_wp2_with fail;rw[D.o];try go_wp2
        clear f0 f1 f2 f3 f4 f5 f6 f7 f8 g0 g1 g3 E y bc bd be bl bm b9 bn bo q0 q1 q3 q5 q6 c4 D;go_loopw [8,9,10,11] (λv8 v9 _ _ a=>∃h A:Nat,h<=hl.length/\v9=.int .i64 h/\v8=.int .i64 A/\A<=h/\J (A=goneN (hl.take h) d)/\Below W3.heap.size W3 a) (λ_ v9 _ _ _=>hl.length-(intOf v9).toNat);case atStart=>exact⟨0,0,V,rfl,rfl,V,rfl,φ _ _⟩
        case round =>
         obtain⟨h,A,ha,rfl,rfl,c3,Zp,e⟩:=hrel;obtain⟨p3,p5,P,N,ck⟩:=HH.o _ e;obtain⟨g0,g1,g3,E,y⟩:=C.o _ ck;by_cases b1:h<hl.length
         .clear P N g0 g1 g3 y p3;have ar:J<|goneN (hl.take (h+1)) d=goneN (hl.take h) d+if d.contains hl[h]then 0 else 1:=EU hl d h b1;have S9:J<|_:=e;clear e;go_wp2;clear p5 E ck;go_loopw [10,11] (λbq ak a=>∃(b:Nat)(st:Bool),b<=d.length/\ak=.int .i64 b/\bq=.bool st/\J (st=(d.take b).contains hl[h])/\Below W3.heap.size W3 a) (λ_ ak _=>d.length-(intOf ak).toNat);case atStart=>exact⟨0,false,V,rfl,rfl,by show _=_;simp,S9.o⟩
          case round =>
           obtain⟨b,st,c0,rfl,rfl,a7,e⟩:=hrel;obtain⟨p3,p5,P,N,ck⟩:=HH.o _ e;obtain⟨g0,g1,g3,E,y⟩:=C.o _ ck;by_cases b3:b<d.length
           .obtain⟨ab,YI,rfl,ca⟩:=HA.o _ ck b b3;have aq:J<|(d.take (b+1)).contains hl[h]=((d.take b).contains hl[h]||(hl[h]==d[b])):=IG d b hl[h] b3;obtain⟨QM,c8,bs,Wi,bu,bw⟩:=N.natAt b1;simp only[Value.slice.injEq]at Wi;obtain⟨rfl,_,_⟩:=Wi;generalize hl[h]=m2 at *;generalize d[b]=m1 at *;have S:J<|_:=e;clear P N e ck g0 g1 g3 y p3;cases st
            .go_wp2_with fail
             go_quiet (fail)
             go_wp2;go_roundw;case rel=>exact⟨b+1,_,V,Λ,rfl,by show _=_;rw[aq.o,<- a7.o];by_cases n:m2=m1;(subst n;simp);(have e':¬(m2:Int)=(m1:Int):=V;simp[ό.2 n,ό.2 e']),below_drewN S.o _⟩
             case measure=>simp[intOf];omega
            .go_wp2_with fail
             go_quiet (fail)
             go_wp2;go_roundw;case rel=>exact⟨b+1,_,V,Λ,rfl,by show _=_;rw[aq.o,<- a7.o];by_cases n:m2=m1;(subst n;simp);(have e':¬(m2:Int)=(m1:Int):=V;simp[ό.2 n,ό.2 e']),below_drewN S.o _⟩
             case measure=>simp[intOf];omega
           .have S:J<|_:=e;clear P N e ck g0 g1 g3 y p3;cases st
            .go_wp2;go_roundw;case rel=>exact⟨h+1,A+1,V,Λ,Λ,V,by show _=_;have a6:=a7.o;rw[List.take_of_length_le V]at a6;rw[ar.o,<- Zp.o,<- a6];rfl,S.o⟩
             case measure=>simp[intOf];omega
            .go_wp2;go_roundw;case rel=>exact⟨h+1,A,V,Λ,rfl,V,by show _=_;have a6:=a7.o;rw[List.take_of_length_le V]at a6;rw[ar.o,<- Zp.o,<- a6];rfl,S.o⟩
             case measure=>simp[intOf];omega
         .have S9:J<|_:=e;have av:J<|A=goneN hl d:=by have:=Zp.o;rw[List.take_of_length_le V]at this;exact this
          have HN:J<|∀(v:Value)(l:List Bool),(SliceT 4 wr v (bools l)/\l.length<=500)->∀q,Calls prog 111 #[v] (wr.drewN q) λn w'=>n=.returned (.int .i64 (cnt l))/\w'=wr.drewN q:=λv l L q=>ql wr.heap.size v l _ V (SliceT.below L.1 (below_drewN (φ _ _) q)).toIn;have Pk:J<|SliceT 4 wr (.slice s fs[k].known.length r) (bools fs[k].known)/\fs[k].known.length<=500:=⟨P,b0⟩;have Px:J<|SliceT 4 wr G (bools g.known)/\g.known.length<=500:=⟨HK.o _ ck,b7⟩;clear P N e ck g0 g1 E y;go_wp2_with fail
          go_quiet (first|(go_at_call 111;exact ψ (HN.o _ _ (by first|exact Pk.o|exact Px.o) _) (λ_ _ i=>⟨i.1,_,i.2⟩)))
          clear HN Pk Px;generalize cnt fs[k].known=n1 at *;generalize ba:cnt g.known=n2 at *;have Aj:J<|cnt g.known=n2:=ba;clear ba;have ap:J<|Below W0.heap.size W0 (wr.drewN nq):=by have:=t.o.trans (S9.o.mono t.o.size);exact below_drewN this _
          by_cases c7:(80:Int)+80*((n2:Int)-(n1:Int))+8*(A:Int)<(j:Int)
          .go_wp2;go_roundw;case rel=>exact⟨k+1,80+80*(n2-n1)+8*A,V,Λ,Λ,by rw[Aj.o,Lr.o Θ,<- av.o];omega,ap.o⟩
           case measure=>simp[intOf];omega
          .go_wp2;go_roundw;case rel=>exact⟨k+1,j,V,Λ,rfl,by rw[Aj.o,Lr.o Θ,<- av.o];omega,ap.o⟩
           case measure=>simp[intOf];omega
       .have cg:((aa:Int) !=(m:Int))=true:=bne_iff_ne.2 V;go_wp2_with fail;rw[D.o];try go_wp2
        go_roundw;case rel=>exact⟨k+1,j,V,Λ,rfl,T.o (λi=>t5 i.2.2.2.2),t.o⟩
        case measure=>simp[intOf];omega
     .have cf:((b5:Int) !=(g.dst:Int))=true:=bne_iff_ne.2 V;go_wp2_with fail;rw[D.o];try go_wp2
      go_roundw;case rel=>exact⟨k+1,j,V,Λ,rfl,T.o (λi=>t3 i.2.2.1),t.o⟩
      case measure=>simp[intOf];omega
    .have ce:((bb:Int) !=(g.src:Int))=true:=bne_iff_ne.2 V;go_wp2_with fail;rw[D.o];try go_wp2
     go_roundw;case rel=>exact⟨k+1,j,V,Λ,rfl,T.o (λi=>t2 i.2.1),t.o⟩
     case measure=>simp[intOf];omega
  .have R:J<|_:=e;clear e;go_wp2;go_ret;have n:k=fs.length:=V
   subst n;exact⟨by rw[<- Zo.o];rfl,an.o.trans (R.o.mono an.o.size)⟩
end
section
open Go.Proofs.Tryz Go.RowKit Go.Deep
theorem Tryz.infoFrame:(prog.info? 233).map (λi=>(i.zero,i.size,i.bytes))=some (some (.agg #[.int .i64 0,.int .i64 0,.int .i64 0,.slice none 0 0,.int .i64 0,.slice none 0 0,.int .i64 0,.bool false,.int .i64 0]),9,104):=by kernel_rfl
section
variable{I:Nat->Prop}{w w6:World}{c rb:Nat}{evv fv fv':Value}{av:Nat->Value}{room:Nat}{es:List Ev}{acc:Nat}{ld:Ld}{knowns:List (List Bool)}{fs:List FrD}{ls:List LF}
theorem RefL.wider(h:RefL w c rb evv fv av room es acc ld knowns)(a:∀b,ld.I b->I b)(d:∀b,I b->Tagged w b 3):RefL w c rb evv fv av room es acc ⟨I,ld.ls⟩ knowns :=
 ⟨h.tc,h.trb,h.room50,h.n6,h.n500,h.f0,h.f1,h.f2,h.f3,h.a500,h.m500,h.evs,h.ok,λi e=>(h.reps i e).keep (M:=λ_=>False) (Chg.refl _ _) (λ_ _ h=>h) (λ_ _ h=>h) a (λ_ _=>rfl),h.kn,h.f4,h.a11,d⟩
theorem zq(h:RefL w c rb evv fv av room es acc ld knowns)(F:FrAt ld.I w fv fs ls)(r:Chg (λk=>fv.ownBlock=some k) w w6)(f:FrD)(x:xR)(K:rX I w f x)(q:∀b,ld.I b->I b)(y:∀b,I b->Tagged w b 3)(xs:List xR)(C:xs.length=fs.length)(N:xs.map xR.y=ls)(M:∀j(h:j<fs.length)(P:j<xs.length),rX ld.I w fs[j] xs[j])(B:w6.ownsRow 0 233 9 fv' (fs.length+1) (bD fs xs++ig f x)):RefL (w6.setCell (O c 4) fv') c rb evv fv' av room es acc ⟨I,ld.ls⟩ knowns/\FrAt I (w6.setCell (O c 4) fv') fv' (fs++[f]) (ls++[x.y]):=by
 have d:∀{k:Nat}{D:TypeId},Tagged w k D->D≠233->¬fv.ownBlock=some k:=λL H G=>Tagged.ne L (F.tag _ G) H rfl;have i:∀b,Tagged w b 4->¬fv.ownBlock=some b:=λb a=>d a Ψ;have g:∀b,I b->¬fv.ownBlock=some b:=λb a=>d (y b a) Ψ;have o:=(h.wider q y).chg r (d h.tc Ψ) (d h.trb Ψ) (λn t=>d (h.evLt n t).2 Ψ) i g;have t6:=o.tc;have s:Chg (λx=>x=c) w6 (w6.setCell (O c 4) fv'):=(Chg.refl (λx=>x=c) w6).setCell (p:=(O c 4)) rfl _;have u:∀b,Tagged w6 b 4->¬b=c:=λb a e=>Tagged.ne a t6 Ψ e;have v:∀b,I b->¬b=c:=λb a e=>Tagged.ne (o.ib b a) t6 Ψ e;refine⟨o.setF fv',xs++[x],by simp[C],by simp[N], ?_,λj E Q=>?_⟩
 .rw[pq fs xs f x C,ρ,List.length_singleton];exact ownsRow_chg B s (λn t e=>Tagged.ne (own_tag B n t) t6 Ψ e)
 .by_cases A:j<fs.length
  .have l:(fs++[f])[j]=fs[j]:=List.getElem_append_left A;have m:(xs++[x])[j]=xs[j]'V:=List.getElem_append_left V;rw[l,m];exact((M j A V).chg r i (λb a=>g b (q b a)) q).chg s u v (λ_ h=>h)
  .have R:j=fs.length:=by simp at E;omega
   have l:(fs++[f])[j]=f:=by rw[List.getElem_append_right V];simp
   have m:(xs++[x])[j]=x:=by rw[List.getElem_append_right V];simp
   rw[l,m];exact(K.chg r i g (λ_ h=>h)).chg s u v (λ_ h=>h)
theorem RefL.frNo(h:RefL w c rb evv fv av room es acc ld knowns)(a:FrAt I w fv fs ls):fv.ownBlock≠some c:=λe=>Tagged.ne (a.tag c e) h.tc Ψ rfl
end
theorem IJ(l:List Nat):nats l=ints (natsI l):=by unfold nats ints natsI;rw[List.map_map];(first|done|rfl)
theorem BG{es:List Ev}{a:List Bool}(h:es.length<=500):(aliveTo es a es.length).length<=500:=ς (aliveTo_le es a es.length) h
theorem RefSend_ok(w:World)(c rb:Nat)(evv fv:Value)(av:Nat->Value)(room:Nat)(es:List Ev)(acc:Nat)(ld:Ld)(knowns:List (List Bool))(l:RefL w c rb evv fv av room es acc ld knowns)(fs:List FrD)(ls:List LF)(hf:FrAt ld.I w fv fs ls)(k m:Nat)(K:k<knowns.length)(ch:m<knowns.length)(ci:k≠m)(h5:fs.length<500)(ba:∀f∈fs,f.ack=0->f.src=k->cnt f.known<=cnt knowns[k])(br:∃h n c,av k=.slice h n c)(b:ByteArray):Calls prog 113 #[.pointer (some (z c)),.int .i64 k,.int .i64 m] w λj w'=>j=.returned (.tuple #[.int .i64 ((fs.length:Int)+1),.int .i64 0])/\∃fv' I',(∀b,I' b->ld.I b\/w.heap.size<=b)/\(∀b,ld.I b->I' b)/\RefL w' c rb evv fv' av room es acc ⟨I',ld.ls⟩ knowns/\FrAt I' w' fv' (fs++[⟨k,m,0,knowns[k],b⟩]) (ls++[⟨(ld.ls k).made,(ld.ls k).lost,false,bestL fs ls k m (ld.ls k).lost (cnt knowns[k]) (aliveTo es knowns[k] es.length) fs.length,aliveTo es knowns[k] es.length⟩]) /\ Chg (λx=>x=c\/fv.ownBlock=some x) w w'/\(∀g,fv'.ownBlock=some g->fv.ownBlock=some g\/w.heap.size<=g):=by
 have H:J<|RefL w c rb evv fv av room es acc ld knowns:=l;have HF:J<|FrAt ld.I w fv fs ls:=hf;obtain⟨iR,bs,c1,c3,c4⟩:=info_parts Tryz.infoFrame;obtain⟨cn,f1,ce⟩:=l.f1;have h6:=l.n6;obtain⟨⟨kv,a0,b0⟩,a1,a7,a9,⟨kp,bn,aj,_⟩,bo,⟨a2,a3,a4,a5,a6,a8⟩⟩:=l.reps k K;obtain⟨b9,cb,_⟩:=l.m500 k;have c7:=l.n500;obtain⟨kl,bd⟩:∃kl,kl=natsI (ld.ls k).kept:=⟨_,rfl⟩;rw[<- bd]at aj;clear bd;obtain⟨e,Yb⟩:∃e,e=aliveTo es knowns[k] es.length:=⟨_,rfl⟩;have Tc:e.length<=500:=by rw[Yb];exact BG l.n500
 rw[<- Yb];have Yc:J<|e=aliveTo es knowns[k] es.length:=Yb;clear Yb;generalize QG:(ld.ls k).made=cl at *;generalize yQ:(ld.ls k).lost=t at *;clear QG yQ;obtain⟨o,af⟩:∃o,o=bestL fs ls k m t (cnt knowns[k]) e fs.length:=⟨_,rfl⟩;obtain⟨bz,c0⟩:1<=o/\o<=100000:=by rw[af];exact qG _ _ _ _ _ _ _ Tc _
 rw[<- af];have bm:J<|o=bestL fs ls k m t (cnt knowns[k]) e fs.length:=af;clear af;have b6:=l.a11 k K;have Wp:knowns[k].length<=500:=by have:=l.kn _ (κ K);have:=l.n500;omega
 obtain⟨fo,fc,bc,cf⟩:=hf.shape;have f4:w.cell? (O c 4)=some (.slice fo fs.length fc):=by rw[<- bc];exact l.f4
 obtain⟨r,q,ae,bt⟩:=b0.shape;have Zq:(bools knowns[k]).length=knowns[k].length:=by simp[bools]
 rw[Zq]at ae bt;obtain⟨Zr,Zt,bu,_⟩:=aj.shape;have bb:=l.evsIn;have HU:J<|∀T:Int,(0<=T/\T<knowns.length)->Calls prog 109 #[.pointer (some (z c)),.int .i64 T] w λj w'=>j=.returned (.int .i64 0)/\w'=w:=λT hi=>by have:=UpL_any w c rb evv fv av room es acc ld knowns l T;rw[show upR knowns T=0 from ώ hi]at this;exact this
 obtain⟨Zu,Zv,Zw,b7⟩:=br;rw[b7]at b6;clear b7;obtain⟨W1,Z⟩:∃W1,W1=w.alloc (.cells #[.slice r knowns[k].length q,.bool false,.slice none 0 0,.slice none 0 0,.bool false,.int .i64 0,.int .i64 0,.bool false,.int .i64 0,.int .i64 cl,.slice Zr (ints kl).length Zt,.slice Zu Zv Zw,.int .i64 t] 165):=⟨_,rfl⟩;have ak:Below w.heap.size w W1:=by rw[Z];exact(φ _ w).alloc (χ _) _
 have k1:ah W1 w.heap.size #[.slice r knowns[k].length q,.bool false,.slice none 0 0,.slice none 0 0,.bool false,.int .i64 0,.int .i64 0,.bool false,.int .i64 0,.int .i64 cl,.slice Zr (ints kl).length Zt,.slice Zu Zv Zw,.int .i64 t] 165:=by rw[Z];exact ah.new w _ _
 have ag:W1.heap.size=w.heap.size+1:=by rw[Z];simp
 obtain⟨W2,aa⟩:∃W2,W2=W1.alloc (.cells #[.int .i64 k,.int .i64 m,.int .i64 0,.slice r knowns[k].length q,.int .i64 cl,.slice none 0 0,.int .i64 t,.bool false,.int .i64 0] 233):=⟨_,rfl⟩;have EW:Below W1.heap.size W1 W2:=by rw[aa];exact(φ _ W1).alloc (χ _) _
 have R:Below w.heap.size w W2:=ak.trans (EW.mono ak.size);have k2:ah W2 (w.heap.size+1) #[.int .i64 k,.int .i64 m,.int .i64 0,.slice r knowns[k].length q,.int .i64 cl,.slice none 0 0,.int .i64 t,.bool false,.int .i64 0] 233:=by rw[aa,<- ag];exact ah.new W1 _ _
 have az:=k1.below EW;have bh:W2.heap.size=w.heap.size+2:=by rw[aa];simp[ag]
 have b1:J<|∀wx,wx.heap=W2.heap->wx.os=W2.os->wx.tape=W2.tape->wx.output=W2.output->Calls prog 173 #[evv,.slice r knowns[k].length q] wx λj w'=>∃h n i,j=.returned (.slice h n i)/\(e.length=n/\SliceT 3 w' (.slice h n i) (ints (natsI e))/\(∀g co,h=some (O g co)->W2.heap.size<=g)/\Below W2.heap.size W2 w')/\(∀B,w'.frozen? (O (w.heap.size+1) B)=false)/\w'.cell? (O (w.heap.size+1) 5)=some (.slice none 0 0)/\w'.cell? (O c 2)=some evv/\w'.cell? (z w.heap.size)=some (.slice r knowns[k].length q):=λwx hx ho ht hp=>by
  have ap:Below W2.heap.size W2 wx:=⟨ho,ht,hp,by rw[hx];exact χ _,λk _=>by rw[hx]⟩;have an:Below w.heap.size w wx:=R.trans (ap.mono R.size);have ck:=l.n500;refine ψ (Alive_any evv es (.slice r knowns[k].length q) knowns[k] wx V V ((bb.below an).mono an.size) (by rw[<- ae];exact(b0.below an).toIn) l.ok) ?_;rintro j w'⟨v,rfl,ar,QM⟩;have S:=own_sliceT ar;rw[<- Yc.o,IJ]at S ar;have bx:∀g co n c,v=.slice (some (O g co)) n c->W2.heap.size<=g:=λg co n c j=>by
   rcases ar.2 with⟨Y,_⟩|⟨g',c',cd,Y,h2,_⟩
   .rw[j]at Y;cases Y
   .rw[j]at Y;cases Y;exact ς (by rw[hx];exact χ _) h2
  obtain⟨h,i,rfl,_⟩:=S.shape;rw[natsI_len]at S⊢;have ad:Below W2.heap.size W2 w':=ap.trans (QM.mono ap.size);have kk:=k2.below ad;have c5:=az.below ad;refine⟨h,_,i,rfl,⟨rfl,S,λg co j=>bx g co _ _ (by rw[j]),ad⟩,kk.frozen,(kk.cell 5).trans rfl, ?_,(c5.cell 0).trans rfl⟩
  .rw[ad.cell (p:=(O c 2)) (show c<W2.heap.size by have:=l.tc.lt;omega),R.cell (p:=(O c 2)) l.tc.lt];exact l.f2
 have c2:W2.cell? (O c 2)=some evv:=by rw[R.cell (p:=(O c 2)) l.tc.lt];exact l.f2
 have d0:=(az.cell 0).trans rfl;have bp:=(k1.cell 0).trans rfl;have bq:=(k1.cell 9).trans rfl;have Zx:=(k1.cell 12).trans rfl;have bk:J<|w.alloc (.cells #[.slice r knowns[k].length q,.bool false,.slice none 0 0,.slice none 0 0,.bool false,.int .i64 0,.int .i64 0,.bool false,.int .i64 0,.int .i64 cl,.slice Zr (ints kl).length Zt,.slice Zu Zv Zw,.int .i64 t] 165)=W1:=Z.symm;have bl:J<|W1.alloc (.cells #[.int .i64 k,.int .i64 m,.int .i64 0,.slice r knowns[k].length q,.int .i64 cl,.slice none 0 0,.int .i64 t,.bool false,.int .i64 0] 233)=W2:=aa.symm;have BH:J<|ah W2 (w.heap.size+1) #[.int .i64 k,.int .i64 m,.int .i64 0,.slice r knowns[k].length q,.int .i64 cl,.slice none 0 0,.int .i64 t,.bool false,.int .i64 0] 233:=k2;have ai:J<|Below w.heap.size w W2:=R;have b3:J<|SliceT 4 w (.slice r knowns[k].length q) (bools knowns[k]):=by rw[<- ae];exact b0
 have Lp:J<|_:=ba;have c8:J<|W1.heap.size=w.heap.size+1:=ag;have ca:J<|W2.heap.size=w.heap.size+2:=bh;have cg:((k:Int)==(m:Int))=false:=ό.2 V;subst ae bu;clear l hf b0 aj bb Z aa ak EW R k1 k2 az ba ag bh;go_enter func113,ntmps113;go_wp2_with fail;refine ψ (HU.o (k:Int) V) ?_;rintro j d⟨rfl,rfl⟩;go_wp2_with fail;refine ψ (HU.o (m:Int) V) ?_;rintro j d⟨rfl,rfl⟩;go_wp2_with fail;rw[bk.o,bl.o];clear a0 a1 a2 a3 a4 a5 a6 a7 a8 a9 bn b6 bo f1 f4 bp bq Zx HU bc;go_cut []from 48 to 56 (λwx=>∃h n i w5,wx=w5.setCell (O (d.heap.size+1) 5) (.slice h n i)/\e.length=n/\SliceT 3 w5 (.slice h n i) (ints (natsI e))/\(∀g co,h=some (O g co)->W2.heap.size<=g)/\Below W2.heap.size W2 w5)
 case first =>
  go_region_law (go_simp;refine ψ (b1.o _ rfl rfl rfl rfl) ?_;rintro j w5⟨h,n,i,rfl,bw,z5,z6,z7,z8⟩)
  all_goals
   go_wp2_with fail;go_meet;obtain⟨q2,q3,q5,q4⟩:=bw;exact⟨h,n,i,w5,rfl,q2,q3,q5,q4⟩
 case rest =>
 obtain⟨h,n,i,w5,rfl,bv,be,bf,al⟩:=hcut;have HG:J<|∀b y n cn,Value.slice h e.length i=.slice (some (O b y)) n cn->d.heap.size<=b:=λb y n cn j=>by simp only[Value.slice.injEq]at j;exact ς ai.o.size (bf b y j.1)
 clear bf;subst bv;clear b1 c2 d0;have k5:=BH.o.below al;have E:ah (w5.setCell (O (d.heap.size+1) 5) (.slice h e.length i)) (d.heap.size+1) #[.int .i64 k,.int .i64 m,.int .i64 0,.slice r knowns[k].length q,.int .i64 cl,.slice h e.length i,.int .i64 t,.bool false,.int .i64 0] 233:=by unfold ah at k5⊢;simp[World.setCell,μ,k5]
 have Wq:Below d.heap.size d w5:=ai.o.trans (al.mono ai.o.size);have b8:Below d.heap.size d (w5.setCell (O (d.heap.size+1) 5) (.slice h e.length i)):=Wq.setCell (p:=(O (d.heap.size+1) 5)) Ω _;have aw:SliceT 3 (w5.setCell (O (d.heap.size+1) 5) (.slice h e.length i)) (.slice h e.length i) (ints (natsI e)):=by exact be.chg (M:=λx=>x=d.heap.size+1) ((Chg.refl (λx=>x=d.heap.size+1) w5).setCell (p:=(O (d.heap.size+1) 5)) rfl _) (λb D j=>Tagged.ne D ⟨_,k5⟩ Ψ j)
 generalize w5.setCell (O (d.heap.size+1) 5) (.slice h e.length i)=Q at *;clear be al Wq k5;have W:J<|Below d.heap.size d Q:=b8;have Yd:J<|∀wx,wx=Q->Calls prog 175 #[.pointer (some (z c)),.agg #[.int .i64 k,.int .i64 m,.int .i64 0,.slice r knowns[k].length q,.int .i64 cl,.slice h e.length i,.int .i64 t,.bool false,.int .i64 0]] wx λj w'=>j=.returned (.int .i64 o)/\Below Q.heap.size Q w':=λwx hx=>by subst hx;have Pg:=H.o.below W.o;rw[bm.o];exact II wx c fv fs Pg.f4 (HF.o.below W.o) V ⟨k,m,0,knowns[k],b⟩ ⟨.slice r knowns[k].length q,.slice h e.length i,⟨cl,t,false,0,e⟩⟩ (b3.o.below W.o) Wp aw Tc (λf hf h0 S=>Lp.o f hf h0 S)
 have Lu:J<|ah Q (d.heap.size+1) #[.int .i64 k,.int .i64 m,.int .i64 0,.slice r knowns[k].length q,.int .i64 cl,.slice h e.length i,.int .i64 t,.bool false,.int .i64 0] 233:=E;have j0:=(E.cell 0).trans rfl;have j1:=(E.cell 1).trans rfl;have j2:=(E.cell 2).trans rfl;have j3:=(E.cell 3).trans rfl;have j4:=(E.cell 4).trans rfl;have j5:=(E.cell 5).trans rfl;have j6:=(E.cell 6).trans rfl;have j7:=(E.cell 7).trans rfl;have j8:=(E.cell 8).trans rfl;have b5:J<|SliceT 3 Q (.slice h e.length i) (ints (natsI e)):=aw;clear b8 E aw;go_wp2_with fail;refine ψ (Yd.o _ rfl) ?_;rintro j w7⟨rfl,ac⟩;clear j0 j1 j2 j3 j4 j5 j6 j7 j8 Yd;have U:=Lu.o.below ac;have q8:=(U.cell 8).trans rfl;have c6:=U.frozen;have F:ah (w7.setCell (O (d.heap.size+1) 8) (.int .i64 o)) (d.heap.size+1) #[.int .i64 k,.int .i64 m,.int .i64 0,.slice r knowns[k].length q,.int .i64 cl,.slice h e.length i,.int .i64 t,.bool false,.int .i64 o] 233:=by unfold ah at U⊢;simp[World.setCell,μ,U]
 have Ws:Below d.heap.size d w7:=W.o.trans (ac.mono W.o.size);have ab:Below d.heap.size d (w7.setCell (O (d.heap.size+1) 8) (.int .i64 o)):=Ws.setCell (p:=(O (d.heap.size+1) 8)) Ω _;have ax:SliceT 3 (w7.setCell (O (d.heap.size+1) 8) (.int .i64 o)) (.slice h e.length i) (ints (natsI e)) :=
  (b5.o.below ac).chg (M:=λx=>x=d.heap.size+1) ((Chg.refl (λx=>x=d.heap.size+1) w7).setCell (p:=(O (d.heap.size+1) 8)) rfl _) (λb D j=>Tagged.ne D ⟨_,U⟩ Ψ j)
 have P:J<|RefL (w7.setCell (O (d.heap.size+1) 8) (.int .i64 o)) c rb evv fv av room es acc ld knowns:=H.o.below ab;have Zy:J<|FrAt ld.I (w7.setCell (O (d.heap.size+1) 8) (.int .i64 o)) fv fs ls:=HF.o.below ab;have bj:J<|rX (λb=>ld.I b\/∃y n cn,Value.slice h e.length i=.slice (some (O b y)) n cn) (w7.setCell (O (d.heap.size+1) 8) (.int .i64 o)) ⟨k,m,0,knowns[k],b⟩ ⟨.slice r knowns[k].length q,.slice h e.length i,⟨cl,t,false,o,e⟩⟩:=⟨b3.o.below ab,Wp,⟨ax,λb y n cn j=>υ ⟨y,n,cn,j⟩⟩,Tc,bz,c0,b9⟩;have bi:J<|∀b,(ld.I b\/∃y n cn,Value.slice h e.length i=.slice (some (O b y)) n cn)->Tagged (w7.setCell (O (d.heap.size+1) 8) (.int .i64 o)) b 3:=by
  rintro b (D|⟨y,n,cn,j⟩)
  .exact P.o.ib b D
  .rcases ax with⟨X,_⟩|⟨b',o',c',X,_,h3,_⟩
   .rw[j]at X;cases X
   .rw[j]at X;cases X;exact h3
 have b4:J<|Below d.heap.size d (w7.setCell (O (d.heap.size+1) 8) (.int .i64 o)):=ab;clear ac Ws ax b5 Lu U;go_wp2_with fail;clear q8 c6;generalize w7.setCell (O (d.heap.size+1) 8) (.int .i64 o)=G at *;clear ab;obtain⟨N,x1,x0,x2,x3⟩:=Zy.o;have Wu:J<|N.map xR.y=ls:=x0;clear x0;have j0:=(F.cell 0).trans rfl;have j1:=(F.cell 1).trans rfl;have j2:=(F.cell 2).trans rfl;have j3:=(F.cell 3).trans rfl;have j4:=(F.cell 4).trans rfl;have j5:=(F.cell 5).trans rfl;have j6:=(F.cell 6).trans rfl;have j7:=(F.cell 7).trans rfl;have j8:=(F.cell 8).trans rfl;have g4:G.cell? (O c 4)=some fv:=P.o.f4;have OL:c<G.heap.size:=P.o.tc.lt;have QO:=P.o.tc.frozen;have QS:J<|G.ownsRow 0 233 9 fv fs.length (bD fs N):=x2;have QT:J<|∀B(l:B<fs.length)(h':B<N.length),rX ld.I G fs[B] N[B]:=x3;have EX:J<|fv.ownBlock≠some c:=P.o.frNo Zy.o;have m1:J<|fs.length+1<=maxLen:=by unfold J maxLen;omega
 have m2:J<|(fs.length+1)*104<=140737488355328:=ω V
 have bg:J<|∀u∈([.int .i64 k,.int .i64 m,.int .i64 0,.slice r knowns[k].length q,.int .i64 cl,.slice h e.length i,.int .i64 t,.bool false,.int .i64 o]:List Value),u.oneCell'=true:=by intro u hu;simp only[List.mem_cons,List.mem_nil_iff,or_false]at hu;rcases hu with rfl|rfl|rfl|rfl|rfl|rfl|rfl|rfl|rfl<;>rfl
 clear x2 x3 F;go_cut []from 60 to 70 (λwx=>∃w9 A C,wx=w9.setCell (O c 4) (.slice (some (z A)) (fs.length+1) C)/\Chg (λk=>fv.ownBlock=some k) G w9/\w9.ownsRow 0 233 9 (.slice (some (z A)) (fs.length+1) C) (fs.length+1) (bD fs N++[.int .i64 k,.int .i64 m,.int .i64 0,.slice r knowns[k].length q,.int .i64 cl,.slice h e.length i,.int .i64 t,.bool false,.int .i64 o])/\(fv.ownBlock=some A\/G.heap.size<=A))
 case first =>
  go_region_law (refine dD rfl (.tmp 64) (.tmp 66) 168 rfl 233 iR (.agg #[.int .i64 0,.int .i64 0,.int .i64 0,.slice none 0 0,.int .i64 0,.slice none 0 0,.int .i64 0,.bool false,.int .i64 0]) 9 104 underlying168 bs c1 c3 c4 rfl Ψ fv fs.length (bD fs N) rfl ?_ _ 1 1 [.int .i64 k,.int .i64 m,.int .i64 0,.slice r knowns[k].length q,.int .i64 cl,.slice h e.length i,.int .i64 t,.bool false,.int .i64 o] rfl rfl ?_ bg.o m1.o m2.o (Nat.succ_pos _) ?_;(exact QS.o.alloc _);(intro B u s;match B,s with|0,s=>(cases s;simp[Addr.add])|1,s=>(cases s;simp[Addr.add])|2,s=>(cases s;simp[Addr.add])|3,s=>(cases s;simp[Addr.add])|4,s=>(cases s;simp[Addr.add])|5,s=>(cases s;simp[Addr.add])|6,s=>(cases s;simp[Addr.add])|7,s=>(cases s;simp[Addr.add])|8,s=>(cases s;simp[Addr.add]));intro A C w9 jq O8 jr;have L:Chg (λk=>fv.ownBlock=some k) G w9:=Chg.grown (Chg.of_below Γ) O8 (λk K=>τ K);have k4:=(η (w:=G) (a:=(O c 4)) (L.block c OL EX.o)).trans g4;have cj:∀B,w9.frozen? (O c B)=false:=λB=>(World.frozen?_of_block (w:=G) (a:=(O c B)) (L.block c OL EX.o)).trans (QO B))
  all_goals
   go_wp2_with fail;go_meet;refine⟨w9,A,C,rfl,L,jq, ?_⟩;rcases jr with l|l
   .exact τ l
   .exact υ (by simp at l;omega)
 case rest =>
 obtain⟨w9,A,C,rfl,L,jq,jr⟩:=hcut;have aq:=zq P.o Zy.o L ⟨k,m,0,knowns[k],b⟩ _ bj.o (λb D=>τ D) bi.o N x1 Wu.o QT.o jq;have b2:J<|RefL (w9.setCell (O c 4) (.slice (some (z A)) (fs.length+1) C)) c rb evv (.slice (some (z A)) (fs.length+1) C) av room es acc ⟨λb=>ld.I b\/∃y n cn,Value.slice h e.length i=.slice (some (O b y)) n cn,ld.ls⟩ knowns/\FrAt (λb=>ld.I b\/∃y n cn,Value.slice h e.length i=.slice (some (O b y)) n cn) (w9.setCell (O c 4) (.slice (some (z A)) (fs.length+1) C)) (.slice (some (z A)) (fs.length+1) C) (fs++[⟨k,m,0,knowns[k],b⟩]) (ls++[⟨cl,t,false,o,e⟩]):=aq;have r4:=aq.1.f4;have HX:J<|Chg (λx=>x=c\/fv.ownBlock=some x) d (w9.setCell (O c 4) (.slice (some (z A)) (fs.length+1) C))/\(fv.ownBlock=some A\/d.heap.size<=A):=⟨Chg.setCell (M:=λx=>x=c\/fv.ownBlock=some x) (p:=(O c 4)) ((Chg.of_below b4.o).trans (L.mono (λk _ K=>υ K))) (τ rfl) _,jr.imp id (λl=>ς b4.o.size l)⟩;clear aq L jq jr j0 j1 j2 j3 j4 j5 j6 j7 j8 g4 QO QS QT bg m1 m2;generalize w9.setCell (O c 4) (.slice (some (z A)) (fs.length+1) C)=W9 at *;go_wp2_with fail;go_ret2;exact⟨by first|rfl|(congr 2;go_num),_,_,(by rintro b (D|⟨y,n,cn,j⟩);exact τ D;exact υ (HG.o b y n cn j)),λb D=>τ D,b2.o.1,b2.o.2,HX.o.1,λg hg=>by cases hg;exact HX.o.2⟩
theorem Py{w:World}{B g n c size:Nat}{e:TypeId}{xs:List Value}(h:w.ownsRow B e size (.slice (some (z g)) n c) n xs)(i:Nat)(u:Value):(w.setCell (O g i) u).ownsRow B e size (.slice (some (z g)) n c) n (xs.set i u):=by
 obtain⟨l,⟨d,_⟩|⟨r,q,b,a,j,k,f,m,o,p⟩⟩:=h
 .cases d
 .simp only[Value.slice.injEq,Option.some.injEq,Addr.mk.injEq,true_and,and_true]at a;obtain⟨rfl,rfl⟩:=a;refine⟨by rw[List.length_set];exact l,υ ⟨g,c,b.setIfInBounds i u,rfl,j, ?_,f,m,by simpa using o, ?_⟩⟩
  .simp[World.setCell,μ,k]
  .rw[<- p,Array.toList_setIfInBounds,List.take_set]
theorem RefDel_bad(w:World)(c:Nat)(fv:Value)(fs:List FrD)(b:w.cell? (O c 4)=some fv){I:Nat->Prop}{ls:List LF}(h:FrAt I w fv fs ls)(k:fs.length<=500)(f:Int)(m:¬(1<=f/\f<=fs.length)):Calls prog 114 #[.pointer (some (z c)),.int .i64 f] w λe w'=>e=.returned (.tuple #[.int .i64 0,.int .i64 9])/\w'=w:=by
 obtain⟨d,g,a,l⟩:=h.shape;rw[a]at b;clear h a;by_cases i:f<1
 .go_enter func114,ntmps114;go_wp2;go_ret2;exact⟨rfl,rfl⟩
 .have j:(fs.length:Int)<f:=V
  go_enter func114,ntmps114;go_wp2;go_ret2;exact⟨rfl,rfl⟩
structure Zz(w:World)(c rb fb cap fc n len k:Nat)(fs:List FrD)(hk:k<fs.length)(ko:Option Addr)(kc:Nat)(made:Int)(ho:Option Addr)(hn hc:Nat)(lost:Int)(had:Bool)(most:Nat):Prop where
 c1:w.cell? (O c 1)=some (.slice (some (z rb)) n cap)
 c4:w.cell? (O c 4)=some (.slice (some (z fb)) len fc)
 dn:w.cell? (O rb (fs[k].dst*13+1))=some (.bool false)
 r0:w.cell? (O fb (k*9))=some (.int .i64 (fs[k].src))
 r1:w.cell? (O fb (k*9+1))=some (.int .i64 (fs[k].dst))
 r2:w.cell? (O fb (k*9+2))=some (.int .i64 (fs[k].ack))
 r3:w.cell? (O fb (k*9+3))=some (.slice ko fs[k].known.length kc)
 r4:w.cell? (O fb (k*9+4))=some (.int .i64 made)
 r5:w.cell? (O fb (k*9+5))=some (.slice ho hn hc)
 r6:w.cell? (O fb (k*9+6))=some (.int .i64 lost)
 r7:w.cell? (O fb (k*9+7))=some (.bool had)
 r8:w.cell? (O fb (k*9+8))=some (.int .i64 most)
 kn:SliceT 4 w (.slice ko fs[k].known.length kc) (bools fs[k].known)
theorem delC{w:World}{c rb:Nat}{evv fv:Value}{av:Nat->Value}{room:Nat}{es:List Ev}{acc:Nat}{ld:Ld}{knowns:List (List Bool)}{fs:List FrD}{ls:List LF}(h:RefL w c rb evv fv av room es acc ld knowns)(D:FrAt ld.I w fv fs ls)(k:Nat)(i:k<fs.length)(C:fs[k].dst<knowns.length):∃d e fc o n M l H y L x mo,fv=.slice (some (z d)) fs.length fc/\fs.length<=fc/\knowns.length<=e/\Zz w c rb d e fc knowns.length fs.length k fs i o n M l H y L x mo:=by
 obtain⟨e,f1,B⟩:=h.f1;obtain⟨b,S,R,g,t⟩:=D;have q:k<b.length:=V
 have m:=t k i q;have r:=m.al.1;obtain⟨l,A,s,N⟩:=r.shape;obtain⟨o,n,f,_⟩:=m.kn.shape;have G:(bools fs[k].known).length=fs[k].known.length:=by simp[bools]
 rw[G]at f;obtain⟨d,fc,rfl⟩:=own_some g V;have a:∀j,j<9->w.cell? (O d (k*9+j))=(ig fs[k] b[k])[j]?:=λj F=>by rw[g.cellAt (k*9+j) V,iW fs b k i q j F]
 have E:fs.length<=fc:=by
  obtain⟨_,⟨u,_⟩|⟨T,P,Q,K,_,_,p,_⟩⟩:=g
  .cases u
  .simp only[Value.slice.injEq]at K;omega
 have p:=a 3 V;have v:=a 5 V;refine⟨d,e,fc,o,n,(b[k].y.made:Int),l,(ints (natsI b[k].y.al)).length,A,(b[k].y.lost:Int),b[k].y.had,b[k].y.most,rfl,E,B,⟨f1,h.f4,(h.reps _ C).c1,a 0 V,a 1 V,a 2 V, ?_,a 4 V, ?_,a 6 V,a 7 V,a 8 V,by rw[<- f];exact m.kn⟩⟩
 .rw[<- f];exact p
 .rw[<- s];exact v
theorem RefDel_full(w:World)(c rb:Nat)(evv fv:Value)(av:Nat->Value)(room:Nat)(es:List Ev)(acc:Nat)(ld:Ld)(knowns:List (List Bool))(h:RefL w c rb evv fv av room es acc ld knowns)(fs:List FrD)(ls:List LF)(g:FrAt ld.I w fv fs ls)(k:Nat)(v:k<fs.length)(t:fs[k].dst<knowns.length)(e:fs[k].ack=0)(F:fs.length=500):Calls prog 114 #[.pointer (some (z c)),.int .i64 ((k:Int)+1)] w λs w'=>s=.returned (.tuple #[.int .i64 0,.int .i64 7])/\Below w.heap.size w w':=by
 obtain⟨b,n,d,T,R,W,Q,P,K,U,H,X,u,N,L,D⟩:=delC h g k v t;obtain⟨j,l,r,Y,Z,y,r3,r4,r5,r6,r7,r8,_⟩:=D;have G:=h.n6;have f:=h.tc.lt;have x:=h.trb.lt;have a:∀o,Below w.heap.size w (w.alloc o):=λo=>(φ _ w).alloc (χ _) o;have A:∀o,(w.alloc o).cell? (O c 1)=some (.slice (some (z rb)) knowns.length n):=λo=>((a o).cell (p:=(O c 1)) f).trans j;have m:∀o,(w.alloc o).cell? (O c 4)=some (.slice (some (z b)) fs.length d):=λo=>((a o).cell (p:=(O c 4)) f).trans l;have C:∀o,(w.alloc o).cell? (O rb (fs[k].dst*13+1))=some (.bool false):=λo=>((a o).cell (p:=(O rb _)) x).trans r;have i:J<|∀o q,Below w.heap.size w ((w.alloc o).drewN q):=λo q=>below_drewN (a o) q;have B:∀o q,((w.alloc o).drewN q).cell? (O c 4)=some (.slice (some (z b)) fs.length d):=λo q=>m o;rw[e]at y;have M:(fs[k].dst:Int)<(knowns.length:Int):=V
 clear h g a u e;generalize fs[k].dst=E at *;generalize fs[k].src=src at *;generalize fs[k].known.length=S at *;go_enter func114,ntmps114;go_wp2_with fail
 go_quiet (fail)
 go_wp2_with fail;go_ret2;exact⟨rfl,i.o _ _⟩
