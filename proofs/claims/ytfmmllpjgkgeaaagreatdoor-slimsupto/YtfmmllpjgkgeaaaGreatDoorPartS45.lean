import Derived.Test.YtfmmllpjgkgeaaaGreatDoorPartS14
import Derived.Test.YtfmmllpjgkgeaaaGreatDoorPartS15
import Derived.Test.YtfmmllpjgkgeaaaGreatDoorPartS16
import Derived.Test.YtfmmllpjgkgeaaaGreatDoorPartS44
set_option linter.unusedVariables false
set_option linter.unusedSimpArgs false
set_option maxHeartbeats 16000000
set_option maxRecDepth 100000
namespace Go.Proofs.YtfmmllpjgkgeaaaGreatDoor
section
open Go.RowKit
structure XV(s:Sl):Prop where
 f500:s.fs.length<=500
 src:∀f∈s.fs,f.src<s.kn.length/\f.dst<s.kn.length/\f.ack<=s.fs.length/\f.known.length<=s.es.length
 cnt:∀f∈s.fs,f.ack=0->cnt f.known<=cnt (s.kn.getD f.src [])
 mb:∀i,(s.rs i).made<=s.es.length+(s.fs.length-1)/\(s.rs i).lost<=(s.rs i).made
def AckAt(w:World)(av:Nat->Value)(n:Nat)(ab:Nat->Nat)(rs:Nat->LR):Prop:=∀i,i<n->av i=.slice (some (z (ab i))) n n/\SliceT 3 w (av i) (ints (natsI ((List.range n).map (rs i).ak)))
theorem AckAt.tag{w:World}{av:Nat->Value}{n:Nat}{ab:Nat->Nat}{rs:Nat->LR}(h:AckAt w av n ab rs)(i:Nat)(e:i<n):Tagged w (ab i) 3:=by
 obtain⟨d,b⟩:=h i e;rw[d]at b;rcases b with⟨a,_⟩|⟨f,j,g,a,_,c,_⟩
 .cases a
 .simp only[Value.slice.injEq,Option.some.injEq,Addr.mk.injEq]at a;obtain⟨⟨a,_⟩,_⟩:=a;rw[a];exact c
theorem AckAt.chg{M:Nat->Prop}{w w':World}{av:Nat->Value}{n:Nat}{ab:Nat->Nat}{rs rs':Nat->LR}(h:AckAt w av n ab rs)(j:Chg M w w')(k:∀i,i<n->¬M (ab i))(l:∀i,(rs' i).ak=(rs i).ak):AckAt w' av n ab rs':=λi c=>by obtain⟨a,d⟩:=h i c;refine⟨a, ?_⟩;rw[l i];have f:SliceI (λb=>b=ab i) w (av i) ((List.range n).map (rs i).ak):=⟨d,λb p o m e=>by rw[a]at e;cases e;rfl⟩;exact(f.chg j (λb g=>by rw[g];exact k i c) (I':=λb=>b=ab i) (λ_ h=>h)).1
structure Ah(w:World)(c:Nat)(R:Nat->Prop)(s:Sl)(rb:Nat)(evv fv:Value)(av:Nat->Value)(ab:Nat->Nat)(I:Nat->Prop):Prop where
 r:RefL w c rb evv fv av s.room s.es s.es.length ⟨I,s.rs⟩ s.kn
 f:FrAt I w fv s.fs s.ls
 a:AckAt w av s.kn.length ab s.rs
 d:(∀i j,i<s.kn.length->j<s.kn.length->i≠j->ab i≠ab j)/\∀i,i<s.kn.length->¬I (ab i)
 i:XV s
 own:∀k,R k↔k=c\/k=rb\/evv.ownBlock=some k\/fv.ownBlock=some k\/(∃j,j<s.kn.length/\ab j=k)\/I k
def RefG(w:World)(c:Nat)(R:Nat->Prop)(s:Sl):Prop:=∃rb evv fv av ab I,Ah w c R s rb evv fv av ab I
def ownR(c rb:Nat)(evv fv:Value)(n:Nat)(ab:Nat->Nat)(I:Nat->Prop)(k:Nat):Prop:=k=c\/k=rb\/evv.ownBlock=some k\/fv.ownBlock=some k\/(∃j,j<n/\ab j=k)\/I k
theorem ref_frame:RefFrame RefG:={
 stable:=by rintro M w w' c R s⟨rb,evv,fv,av,ab,I,h⟩ f l e;have d:=λk a=>l k ((h.own k).2 a);have i:∀b,I b->¬M b:=λb e=>d b (υ (υ (υ (υ (υ e)))));exact⟨rb,evv,fv,av,ab,I,h.r.chg f (d _ (τ rfl)) (d _ (υ (τ rfl))) (λj g=>d _ (υ (υ (τ g)))) e i,h.f.chg f (λj g=>d _ (υ (υ (υ (τ g))))) e i (λ_ h=>h),h.a.chg f (λo m=>d _ (υ (υ (υ (υ (τ ⟨o,m,rfl⟩)))))) (λ_=>rfl),h.d,h.i,h.own⟩
 tags:=by
  rintro w c R s k⟨rb,evv,fv,av,ab,I,h⟩ a;rcases(h.own k).1 a with rfl|rfl|a|a|⟨p,n,rfl⟩|a
  .exact⟨_,τ rfl,h.r.tc⟩
  .exact⟨_,υ (τ rfl),h.r.trb⟩
  .exact⟨_,υ (υ (τ rfl)),(h.r.evLt k a).2⟩
  .exact⟨_,υ (υ (υ (τ rfl))),h.f.tag k a⟩
  .exact⟨_,υ (υ (υ (υ rfl))),h.a.tag p n⟩
  .exact⟨_,υ (υ (υ (υ rfl))),h.r.ib k a⟩ }
theorem QB:Ag RefG:={
 good:=by
  intro r F w t v u;refine ψ (Fresh_goodL r F w t v u) ?_;rintro n w'⟨rb,b,rfl,B,x,q,G,y,C⟩;have k:∀i,(a:i<r)->b.getD i .nilFunc=b[i]'V:=λi a=>by rw[ξ,σ V];(first|done|rfl)
  have o:∀i,i<r->∃m,b.getD i .nilFunc=.slice (some (z m)) r r/\w.heap.size<=m/\SliceT 3 w' (b.getD i .nilFunc) (ints (natsI (List.replicate r 0))):=λi a=>by rw[k i a];exact x _ (κ _)
  obtain⟨ab,e⟩:∃ab:Nat->Nat,∀i,i<r->b.getD i .nilFunc=.slice (some (z (ab i))) r r/\w.heap.size<=ab i/\SliceT 3 w' (b.getD i .nilFunc) (ints (natsI (List.replicate r 0))) :=
   ⟨λi=>if h:i<r then(o i h).choose else 0,λi a=>by simp only[a,dite_true];exact(o i a).choose_spec⟩
  have D:(List.range r).map (λ_:Nat=>0)=List.replicate r 0:=by rw[List.map_const',List.length_range]
  refine⟨w.heap.size,ownR w.heap.size rb (.slice none 0 0) (.slice none 0 0) (List.replicate r ([]:List Bool)).length ab (λ_=>False),rfl,⟨rb,.slice none 0 0,.slice none 0 0,λi=>b.getD i .nilFunc,ab,λ_=>False,B,FrAt.nil _ w',λi a=>?_,⟨λi j a l A n=>?_,λ_ _ h=>h⟩,⟨by simp[st0],λs g=>absurd g (by simp[st0]),λs g=>absurd g (by simp[st0]),λi=>⟨Nat.zero_le _,χ _⟩⟩,λE=>Iff.rfl⟩,λE c=>?_,y⟩
  .have f:i<r:=by simpa[st0]using a
   obtain⟨g1,_,g3⟩:=e i f;simp only[st0,List.length_replicate];exact⟨g1,by rw[D];exact g3⟩
  .have f:i<r:=by simpa[st0]using a
   have p:j<r:=by simpa[st0]using l
   have g1:=(e i f).1;have g2:=(e j p).1;rw[<- n,<- g1,k i f,k j p]at g2;rcases Nat.lt_trichotomy i j with d|d|d
   .exact(List.pairwise_iff_getElem.1 q i j V V d) g2.symm
   .exact A d
   .exact(List.pairwise_iff_getElem.1 q j i V V d) g2
  .rcases c with rfl|rfl|c|c|⟨j,l,rfl⟩|c
   .exact χ _
   .exact C
   .cases c
   .cases c
   .exact(e j (by simpa using l)).2.1
   .exact c.elim }
theorem cnt_moreOf(known:List Bool)(n:Nat):cnt known<=cnt (moreOf known n):=by unfold moreOf cnt;rw[List.filter_append,List.filter_append,ρ,ρ];omega
theorem cnt_delK(a b:List Bool):cnt a<=cnt (delK a b):=by
 unfold delK;split
 .omega
 .exact χ _
theorem knget(a:List (List Bool))(k:Nat)(b:k<a.length):a.getD k []=a[k]:=by simp[b]
theorem getDs(b:List (List Bool))(k:Nat)(c:k<b.length)(a:List Bool)(j:Nat):(b.set k a).getD j []=if k=j then a else b.getD j []:=by
 rw[ξ,List.getElem?_set];by_cases e:k=j
 .subst e;simp[c]
 .rw[ύ e,ύ e,ξ]
theorem LR.write_made(a:Nat)(L:LR):(L.write a).made=L.made+1/\(L.write a).lost<=L.lost+1/\(L.write a).ak=L.ak:=by unfold LR.write;split<;>simp
section
variable{w w':World}{c:Nat}{R M:Nat->Prop}{s:Sl}{rb:Nat}{evv evv' fv fv':Value}{av:Nat->Value}{ab:Nat->Nat}{I I':Nat->Prop}
theorem Ah.ownTo(h:Ah w c R s rb evv fv av ab I){n:Nat}(j:n=s.kn.length)(f:∀g,evv'.ownBlock=some g->evv.ownBlock=some g\/w.heap.size<=g)(i:∀g,fv'.ownBlock=some g->fv.ownBlock=some g\/w.heap.size<=g)(e:∀d,I' d->I d\/w.heap.size<=d):∀k,ownR c rb evv' fv' n ab I' k->R k\/w.heap.size<=k:=by
 subst j;intro k a;rcases a with a|a|a|a|a|a
 .exact τ ((h.own k).2 (τ a))
 .exact τ ((h.own k).2 (υ (τ a)))
 .exact(f k a).imp (λb=>(h.own k).2 (υ (υ (τ b)))) id
 .exact(i k a).imp (λb=>(h.own k).2 (υ (υ (υ (τ b))))) id
 .exact τ ((h.own k).2 (υ (υ (υ (υ (τ a))))))
 .exact(e k a).imp (λb=>(h.own k).2 (υ (υ (υ (υ (υ b)))))) id
theorem Ah.d'(h:Ah w c R s rb evv fv av ab I)(e:∀b,I' b->I b\/w.heap.size<=b):∀i,i<s.kn.length->¬I' (ab i):=λi d f=>by
 rcases e _ f with a|a
 .exact h.d.2 i d a
 .have:=(h.a.tag i d).lt;omega
theorem Ah.no(h:Ah w c R s rb evv fv av ab I){b:Nat}{t:TypeId}(a:Tagged w b t)(d:t=4\/t=3):¬(b=c\/b=rb\/evv.ownBlock=some b\/fv.ownBlock=some b):=by
 rintro(e|e|e|e)
 .exact Tagged.ne a h.r.tc (by rcases d with rfl|rfl<;>decide) e
 .exact Tagged.ne a h.r.trb (by rcases d with rfl|rfl<;>decide) e
 .exact Tagged.ne a (h.r.evLt b e).2 (by rcases d with rfl|rfl<;>decide) rfl
 .exact Tagged.ne a (h.f.tag b e) (by rcases d with rfl|rfl<;>decide) rfl
theorem Ah.most(h:Ah w c R s rb evv fv av ab I):∀k,(s.rs k).made+1<=1000/\(s.rs k).lost+1<=1000:=λk=>by have:=h.i.mb k;have:=h.i.f500;have:=h.r.n500;omega
end
theorem ref_ok:RefOK RefG:={
 up:=by rintro w c R s i⟨rb,evv,fv,av,ab,I,h⟩;exact UpL_any w c rb evv fv av s.room s.es _ _ s.kn h.r i
 does:=by
  rintro w c R s i t C s'⟨rb,evv,fv,av,ab,I,h⟩ B ⟨ae,d1,d2,d3,d4⟩;obtain⟨⟨a4,H,a6⟩,aj,ak,a9⟩:=s';simp only at ae d1 d2 d3 d4;subst d1 d2 d3 d4;have W:=h.i.f500;refine ψ (RefDo_any w c rb evv fv av s.room s.es ⟨I,s.rs⟩ h.most s.kn h.r i t B) ?_;rintro e w'⟨r2,evv',b8,bb,I',rfl,hd,A,a5,l,u,aw⟩;obtain⟨rfl,rfl,rfl⟩:=doOut_det ae hd;have n:∀{b:Nat}{t:TypeId},Tagged w b t->t=4\/t=3->¬(b=c\/b=rb\/evv.ownBlock=some b):=λa B e=>h.no a B (by rcases e with e|e|e;exact τ e;exact υ (τ e);exact υ (υ (τ e)));have hF:FrAt I' w' fv s.fs s.ls:=h.f.chg u (λy q e=>by
   rcases e with e|e|e
   .exact Tagged.ne (h.f.tag y q) h.r.tc Ψ e
   .exact Tagged.ne (h.f.tag y q) h.r.trb Ψ e
   .exact Tagged.ne (h.f.tag y q) (h.r.evLt y e).2 Ψ rfl) (λb a=>n a (τ rfl)) (λb a=>n (h.r.ib b a) (υ rfl)) a5
  have G:H.length=s.kn.length/\s.es.length<=a4.length/\(C=0->a4.length=s.es.length+1)/\∀j,cnt (s.kn.getD j [])<=cnt (H.getD j []):=by
   rcases hd with⟨_,bd,rfl,rfl⟩|⟨m,_,b6,bd,rfl,rfl⟩|⟨_,_,_,_,bd,rfl,rfl⟩|⟨c',e',b9,_,_,_,_,_,_,_,_,rfl,rfl⟩
   .exact⟨rfl,χ _,λe=>V,λ_=>χ _⟩
   .exact⟨rfl,χ _,λe=>by have:=(Thk.read_err _ _ b6).1;omega,λ_=>χ _⟩
   .exact⟨rfl,χ _,λe=>V,λ_=>χ _⟩
   .refine⟨Ω,Ω,λ_=>Ω,λj=>?_⟩;rw[getDs _ _ V];by_cases o:i.toNat=j
    .rw[ώ o,<- o];exact cnt_moreOf _ _
    .rw[ύ o];exact χ _
  have a8:∀j,((if C=0 then updN s.rs i.toNat ((s.rs i.toNat).write s.room)else s.rs) j).ak=(s.rs j).ak/\((if C=0 then updN s.rs i.toNat ((s.rs i.toNat).write s.room)else s.rs) j).made<=a4.length+(s.fs.length-1)/\((if C=0 then updN s.rs i.toNat ((s.rs i.toNat).write s.room)else s.rs) j).lost<=((if C=0 then updN s.rs i.toNat ((s.rs i.toNat).write s.room)else s.rs) j).made:=λj=>by
   have p:=h.i.mb j;by_cases e:C=0
   .rw[ώ e];have h2:=G.2.2.1 e;by_cases L:j=i.toNat
    .rw[L,updN_same];have h3:=LR.write_made s.room (s.rs i.toNat);rw[L]at p;exact⟨h3.2.2,V,V⟩
    .rw[updN_oth _ _ L];exact⟨rfl,V,V⟩
   .rw[ύ e];have:=G.2.1;exact⟨rfl,V,V⟩
  refine⟨rfl,ownR c rb evv' fv H.length ab I',⟨rb,evv',fv,av,ab,I',l,hF, ?_, ?_,⟨W,λf g=>?_,λf g K=>ς (h.i.cnt f g K) (G.2.2.2 _),λj=>(a8 j).2⟩,λk=>Iff.rfl⟩, ?_,u.mono (λD _ r=>(h.own D).2 (by rcases r with e|e|e;exact τ e;exact υ (τ e);exact υ (υ (τ e))))⟩
  .show AckAt w' av H.length ab _;rw[G.1];exact h.a.chg u (λj v=>n (h.a.tag j v) (υ rfl)) (λj=>(a8 j).1)
  .show(∀i j,i<H.length->j<H.length->i≠j->ab i≠ab j)/\∀i,i<H.length->¬I' (ab i);rw[G.1];exact⟨h.d.1,h.d' A⟩
  .obtain⟨Q,x,q3,q4⟩:=h.i.src f g;exact⟨by rw[G.1];exact Q,by rw[G.1];exact x,q3,ς q4 G.2.1⟩
  .refine h.ownTo G.1 (λy q=>?_) (λy q=>τ q) A;rcases aw with he|⟨g',he,ax⟩
   .exact τ (he.symm.trans q)
   .rw[he]at q;cases q;exact υ ax
 asks:=by rintro w c R s i t⟨rb,evv,fv,av,ab,I,h⟩ B;exact RefAskL w c rb evv fv av s.room s.es _ _ s.kn h.r i t B
 cells:=by rintro w c R s⟨rb,evv,fv,av,ab,I,h⟩;obtain⟨ap,f1,ar⟩:=h.r.f1;refine⟨h.r.n6,rb,ap,f1,ar,λi F=>?_⟩;obtain⟨⟨kv,a0,b0⟩,_,_,_,⟨kp,al,an,_⟩,_⟩:=h.r.reps i F;have:=h.r.kn _ (κ F);have:=h.r.n500;obtain⟨ao,kc,e,_⟩:=an.shape;rw[natsI_len]at e;exact⟨⟨kv,a0,b0,V⟩,ao,kc,by rw[<- e];exact al,(h.r.m500 i).2.2⟩
 sends:=by
  rintro w c R s i j s'⟨rb,evv,fv,av,ab,I,h⟩ ⟨⟨t1,t2,t3⟩,t4,t5,t6⟩;obtain⟨⟨a4,H,a6⟩,aj,ak,a9⟩:=s';simp only at t1 t2 t3 t4 t5 t6;subst t1 t2 t4 t5;have aa:∀(Z C:Int),sendR s.1 i j=(Z,C)->a6=s.fs->a9=s.ls->(Ending.returned (.tuple #[.int .i64 Z,.int .i64 C]):Ending)=.returned (.tuple #[.int .i64 (sendR s.1 i j).1,.int .i64 (sendR s.1 i j).2])/\∃R',RefG w c R' ⟨⟨s.es,s.kn,a6⟩,s.room,s.rs,a9⟩/\(∀k,R' k->R k\/w.heap.size<=k)/\Chg R w w:=λZ C bd e3 e4=>⟨by rw[bd],R,by rw[e3,e4];exact⟨rb,evv,fv,av,ab,I,h⟩,λk d=>τ d,Chg.refl _ _⟩;by_cases a:(0<=i/\i<s.kn.length)/\(0<=j/\j<s.kn.length)
  .by_cases X:i=j
   .have bd:sendR s.1 i j=(0,1):=by unfold sendR;rw[ώ a,ώ X]
    rw[bd,ύ Ψ]at t3 t6;refine ψ (RefSend_bad w c rb evv fv av s.room s.es _ _ s.kn h.r s.fs h.f h.i.f500 i j a.1 a.2 (τ X)) ?_;rw[ώ X];rintro e w'⟨rfl,rfl⟩;exact aa 0 1 bd t3 t6
   .by_cases E:500<=s.fs.length
    .have bd:sendR s.1 i j=(0,7):=by unfold sendR;rw[ώ a,ύ X,ώ E]
     rw[bd,ύ Ψ]at t3 t6;refine ψ (RefSend_bad w c rb evv fv av s.room s.es _ _ s.kn h.r s.fs h.f h.i.f500 i j a.1 a.2 (υ E)) ?_;rw[ύ X];rintro e w'⟨rfl,rfl⟩;exact aa 0 7 bd t3 t6
    .obtain⟨k,rfl⟩:=Int.eq_ofNat_of_zero_le a.1.1;obtain⟨N,rfl⟩:=Int.eq_ofNat_of_zero_le a.2.1;have d:k<s.kn.length:=V
     have af:N<s.kn.length:=V
     have bd:sendR s.1 (k:Int) (N:Int)=((s.fs.length:Int)+1,0):=by unfold sendR;rw[ώ a,ύ X,ύ E]
     rw[bd,ώ rfl]at t3 t6;obtain⟨b,rfl⟩:=t3;subst t6;refine ψ (RefSend_ok w c rb evv fv av s.room s.es _ _ s.kn h.r s.fs s.ls h.f k N d af V V (λf g K hs=>by have:=h.i.cnt f g K;rw[hs,knget _ _ d]at this;exact this) ⟨_,_,_,(h.a k d).1⟩ b) ?_;rintro e w'⟨rfl,fv',I',A,a5,l,hF,u,hn⟩;have n:∀{b:Nat}{t:TypeId},Tagged w b t->t=4\/t=3->¬(b=c\/fv.ownBlock=some b):=λa B e=>h.no a B (by rcases e with e|e;exact τ e;exact υ (υ (υ e)));have W:=h.i.f500;have b4:newL s k N=⟨(s.rs k).made,(s.rs k).lost,false,bestL s.fs s.ls k N (s.rs k).lost (cnt s.kn[k]) (aliveTo s.es s.kn[k] s.es.length) s.fs.length,aliveTo s.es s.kn[k] s.es.length⟩:=by unfold newL;rw[bestTo_eq,knget _ _ d]
     refine⟨by rw[bd],ownR c rb evv fv' s.kn.length ab I',⟨rb,evv,fv',av,ab,I',l, ?_,h.a.chg u (λj v=>n (h.a.tag j v) (υ rfl)) (λ_=>rfl),⟨h.d.1,h.d' A⟩,⟨Θ,λf g=>?_,λf g K=>?_,λj=>?_⟩,λy=>Iff.rfl⟩,h.ownTo rfl (λy q=>τ q) hn A,u.mono (λD _ r=>(h.own D).2 (r.elim τ (λr=>υ (υ (υ (τ r))))))⟩
     .show FrAt I' w' fv' (s.fs++[(⟨((k:Int)).toNat,((N:Int)).toNat,0,s.kn.getD ((k:Int)).toNat [],b⟩:FrD)]) (s.ls++[newL s ((k:Int)).toNat ((N:Int)).toNat]);simp only[Int.toNat_natCast];rw[b4,knget _ _ d];exact hF
     .rcases θ.1 g with p|p
      .obtain⟨Q,x,q3,q4⟩:=h.i.src f p;exact⟨Q,x,Θ,q4⟩
      .have o:f=_:=List.mem_singleton.1 p;subst o;refine⟨d,af,Ω, ?_⟩;simp only[Int.toNat_natCast];rw[knget _ _ d];exact h.r.kn _ (κ d)
     .rcases θ.1 g with p|p
      .exact h.i.cnt f p K
      .have o:f=_:=List.mem_singleton.1 p;subst o;exact χ _
     .have:=h.i.mb j;exact⟨Θ,this.2⟩
  .have bd:sendR s.1 i j=(0,2):=by unfold sendR;rw[ύ a]
   rw[bd,ύ Ψ]at t3 t6;refine ψ (RefSend_no w c rb evv fv av s.room s.es _ _ s.kn h.r i j a) ?_;rintro e w'⟨rfl,rfl⟩;exact aa 0 2 bd t3 t6
 dels:=by
  rintro w c R s f s'⟨rb,evv,fv,av,ab,I,h⟩ ⟨⟨t1,t2⟩,t3,t4⟩;obtain⟨⟨a4,H,a6⟩,aj,ak,a9⟩:=s';simp only at t1 t3;subst t1 t3;have W:=h.i.f500;have ba:=h.r.n500;by_cases g:1<=f/\f<=s.fs.length
  .obtain⟨k,rfl⟩:∃k:Nat,f=(k:Int)+1:=⟨(f-1).toNat,V⟩;have d:k<s.fs.length:=V
   have n:frNo s.1 ((k:Int)+1)=some s.fs[k]:=by unfold frNo;rw[ώ V,show((k:Int)+1).toNat-1=k by omega,σ d]
   rw[n]at t2 t4;dsimp only at t2 t4;obtain⟨Q,x,q3,q4⟩:=h.i.src _ (κ d);by_cases U:0<s.fs[k].ack
   .rw[ώ (τ U)]at t2;rw[ώ U]at t4;obtain⟨rfl,rfl⟩:=t2;obtain⟨rfl,rfl⟩:=t4;have bd:delR s.1 ((k:Int)+1)=(0,0):=by unfold delR;rw[n];exact ώ U
    obtain⟨S,a3⟩:=h.a _ x;refine ψ (RefDel_ack w c rb evv fv av s.room s.es _ _ s.kn h.r s.fs s.ls h.f k d x Q W (s.fs[k].ack-1) V V (ab s.fs[k].dst) S (h.d.2 _ x) ((List.range s.kn.length).map (s.rs s.fs[k].dst).ak) Ω (by rw[<- S];exact a3)) ?_;rintro e w'⟨rfl,l,hF,hA,u⟩;have aq:∀j,j<s.kn.length->j≠s.fs[k].dst->¬(ab j=ab s.fs[k].dst\/fv.ownBlock=some (ab j)):=λj v b2 e=>by
     rcases e with e|e
     .exact h.d.1 j _ v x b2 e
     .exact h.no (h.a.tag j v) (υ rfl) (υ (υ (υ e)))
    have T:∀j,(updN s.rs s.fs[k].dst ((s.rs s.fs[k].dst).ackd s.fs[k].src (madeOf s.ls (s.fs[k].ack-1))) j).made=(s.rs j).made/\(updN s.rs s.fs[k].dst ((s.rs s.fs[k].dst).ackd s.fs[k].src (madeOf s.ls (s.fs[k].ack-1))) j).lost=(s.rs j).lost/\(updN s.rs s.fs[k].dst ((s.rs s.fs[k].dst).ackd s.fs[k].src (madeOf s.ls (s.fs[k].ack-1))) j).kept=(s.rs j).kept:=λj=>by
     by_cases e:j=s.fs[k].dst
     .rw[e,updN_same];exact⟨rfl,rfl,rfl⟩
     .rw[updN_oth _ _ e];exact⟨rfl,rfl,rfl⟩
    refine⟨by rw[bd],R,⟨rb,evv,fv,av,ab,I,⟨l.tc,l.trb,l.room50,l.n6,l.n500,l.f0,l.f1,l.f2,l.f3,l.a500,λj=>?_,l.evs,l.ok,λj v=>?_,l.kn,l.f4,l.a11,l.ib⟩,hF,λj v=>?_,h.d,⟨W,h.i.src,h.i.cnt,λj=>?_⟩,h.own⟩,λk d=>τ d,u.mono (λD _ r=>(h.own D).2 (r.elim (λr=>υ (υ (υ (υ (τ ⟨_,x,r.symm⟩))))) (λr=>υ (υ (υ (τ r))))))⟩
    .obtain⟨l1,P,Y⟩:=T j;have:=l.m500 j;dsimp only at this⊢;rw[l1,P,Y];exact this
    .obtain⟨l1,P,Y⟩:=T j;obtain⟨c0,c1,c7,c9,ac,ad,b7⟩:=l.reps j v;dsimp only at c9 ac ad;exact⟨c0,c1,c7,by dsimp only;rw[l1];exact c9,by dsimp only;rw[Y];exact ac,by dsimp only;rw[P];exact ad,b7⟩
    .dsimp only;by_cases e:j=s.fs[k].dst
     .subst e;rw[updN_same];refine⟨S, ?_⟩;rw[S];have o:(List.range s.kn.length).map (((s.rs s.fs[k].dst).ackd s.fs[k].src (madeOf s.ls (s.fs[k].ack-1))).ak)=((List.range s.kn.length).map (s.rs s.fs[k].dst).ak).set s.fs[k].src (max (((List.range s.kn.length).map (s.rs s.fs[k].dst).ak).getD s.fs[k].src 0) (madeOf s.ls (s.fs[k].ack-1))):=by
       refine List.ext_getElem Ω λZ p h2=>?_;have hn:Z<s.kn.length:=by simpa using p
       rw[List.getElem_set];simp only[List.getElem_map,List.getElem_range];by_cases o:s.fs[k].src=Z
       .subst o;rw[ώ rfl,ξ];show updN _ _ _ _=_;rw[updN_same];simp[hn]
       .rw[ύ o];exact updN_oth _ _ (λe=>o e.symm)
      rw[o];exact hA
     .rw[updN_oth _ _ e];obtain⟨b1,b3⟩:=h.a j v;refine⟨b1, ?_⟩;have h4:SliceI (λb=>b=ab j) w (av j) ((List.range s.kn.length).map (s.rs j).ak):=⟨b3,λb bc m cp e=>by rw[b1]at e;cases e;rfl⟩;exact(h4.chg u (λb a=>by rw[a];exact aq j v e) (I':=λb=>b=ab j) (λ_ h=>h)).1
    .obtain⟨l1,P,Y⟩:=T j;have:=h.i.mb j;dsimp only;rw[l1,P];exact this
   .rw[ύ U]at t4;by_cases E:500<=s.fs.length
    .rw[ώ (υ E)]at t2;rw[ώ E]at t4;obtain⟨rfl,rfl⟩:=t2;obtain⟨rfl,rfl⟩:=t4;have bd:delR s.1 ((k:Int)+1)=(0,7):=by unfold delR;rw[n];exact(ύ U).trans (ώ E)
     refine ψ (RefDel_full w c rb evv fv av s.room s.es _ _ s.kn h.r s.fs s.ls h.f k d x V V) ?_;rintro e w'⟨rfl,a⟩;exact⟨by rw[bd],R,ref_frame.below ⟨rb,evv,fv,av,ab,I,h⟩ a,λk d=>τ d,Chg.of_below a⟩
    .rw[ύ V]at t2;rw[ύ E]at t4;obtain⟨rfl,b,rfl⟩:=t2;obtain⟨rfl,rfl⟩:=t4;have bd:delR s.1 ((k:Int)+1)=((s.fs.length:Int)+1,0):=by unfold delR;rw[n];exact(ύ U).trans (ύ E)
     refine ψ (RefDel_ok w c rb evv fv av s.room s.es _ _ h.most s.kn h.r s.fs s.ls h.f k d x Q V V q4 b) ?_;rintro e w'⟨rfl,fv',I',A,a5,l,hF,u,hn⟩;have az:s.kn.getD s.fs[k].dst []=s.kn[s.fs[k].dst]:=knget _ _ x;have b5:∀{b:Nat}{t:TypeId},Tagged w b t->t=4\/t=3->¬(b=c\/b=rb\/fv.ownBlock=some b):=λa B e=>h.no a B (by rcases e with e|e|e;exact τ e;exact υ (τ e);exact υ (υ (υ e)));rw[az]at *;generalize a8:(if cnt s.kn[s.fs[k].dst]<cnt (bothL s.kn[s.fs[k].dst] s.fs[k].known)then updN s.rs s.fs[k].dst ((s.rs s.fs[k].dst).write s.room)else s.rs)=a2 at *;have ai:∀j,(a2 j).ak=(s.rs j).ak/\(a2 j).made<=s.es.length+((s.fs.length+1)-1)/\(a2 j).lost<=(a2 j).made:=λj=>by
      have p:=h.i.mb j;rw[<- a8];split
      .by_cases L:j=s.fs[k].dst
       .rw[L,updN_same];have h3:=LR.write_made s.room (s.rs s.fs[k].dst);rw[L]at p;exact⟨h3.2.2,V,V⟩
       .rw[updN_oth _ _ L];exact⟨rfl,V,V⟩
      .exact⟨rfl,V,V⟩
     have a7:(s.kn.set s.fs[k].dst (delK s.kn[s.fs[k].dst] s.fs[k].known)).length=s.kn.length:=Ω
     refine⟨by rw[bd],ownR c rb evv fv' (s.kn.set s.fs[k].dst (delK s.kn[s.fs[k].dst] s.fs[k].known)).length ab I',⟨rb,evv,fv',av,ab,I',l,hF, ?_, ?_,⟨Θ,λf g=>?_,λf g K=>?_,λj=>?_⟩,λy=>Iff.rfl⟩,h.ownTo a7 (λy q=>τ q) hn A,u.mono (λD _ r=>(h.own D).2 (by rcases r with e|e|e;exact τ e;exact υ (τ e);exact υ (υ (υ (τ e)))))⟩
     .show AckAt w' av (s.kn.set s.fs[k].dst (delK s.kn[s.fs[k].dst] s.fs[k].known)).length ab a2;rw[a7];exact h.a.chg u (λj v=>b5 (h.a.tag j v) (υ rfl)) (λj=>(ai j).1)
     .show(∀i j,i<(s.kn.set s.fs[k].dst (delK s.kn[s.fs[k].dst] s.fs[k].known)).length->j<(s.kn.set s.fs[k].dst (delK s.kn[s.fs[k].dst] s.fs[k].known)).length->i≠j->ab i≠ab j)/\∀i,i<(s.kn.set s.fs[k].dst (delK s.kn[s.fs[k].dst] s.fs[k].known)).length->¬I' (ab i);rw[a7];exact⟨h.d.1,h.d' A⟩
     .show f.src<(s.kn.set s.fs[k].dst (delK s.kn[s.fs[k].dst] s.fs[k].known)).length/\f.dst<(s.kn.set s.fs[k].dst (delK s.kn[s.fs[k].dst] s.fs[k].known)).length/\f.ack<=(s.fs++[(⟨s.fs[k].dst,s.fs[k].src,k+1,[],b⟩:FrD)]).length/\f.known.length<=s.es.length;rw[a7,ρ,List.length_singleton];rcases θ.1 g with p|p
      .obtain⟨p1,p2,p3,p4⟩:=h.i.src f p;exact⟨p1,p2,V,p4⟩
      .have o:f=_:=List.mem_singleton.1 p;subst o;exact⟨x,Q,by show k+1<=_;omega,Ω⟩
     .show cnt f.known<=cnt ((s.kn.set s.fs[k].dst (delK s.kn[s.fs[k].dst] s.fs[k].known)).getD f.src []);rcases θ.1 g with p|p
      .refine ς (h.i.cnt f p K) ?_;rw[getDs _ _ x];by_cases o:s.fs[k].dst=f.src
       .rw[ώ o,<- o,knget _ _ x];exact cnt_delK _ _
       .rw[ύ o];exact χ _
      .have o:f=_:=List.mem_singleton.1 p;subst o;exact absurd K (Nat.succ_ne_zero _)
     .show(a2 j).made<=s.es.length+((s.fs++[(⟨s.fs[k].dst,s.fs[k].src,k+1,[],b⟩:FrD)]).length-1)/\_;rw[ρ,List.length_singleton];exact(ai j).2
  .have n:frNo s.1 f=none:=by unfold frNo;rw[ύ g]
   rw[n]at t2 t4;obtain⟨rfl,rfl⟩:=t2;obtain⟨rfl,rfl⟩:=t4;refine ψ (RefDel_bad w c fv s.fs h.r.f4 h.f W f g) ?_;rintro e w'⟨rfl,rfl⟩;exact⟨by unfold delR;rw[n],R,⟨rb,evv,fv,av,ab,I,h⟩,λk d=>τ d,Chg.refl _ _⟩
 bound:=by
  rintro w c R s f⟨rb,evv,fv,av,ab,I,h⟩;obtain⟨xs,x1,x0,_,x3⟩:=h.f;have ag:s.ls.length=s.fs.length:=by rw[<- x0,List.length_map,x1]
  refine ψ (Bound_any w c fv s.fs h.r.f4 h.f h.i.f500 f) ?_;rintro e w'⟨rfl,rfl⟩;refine⟨boundR s.ls f,rfl, ?_,λM=>?_,λD r M=>?_,rfl⟩
  .unfold boundR;split
   .rename_i g;have d:f.toNat-1<s.fs.length:=V
    have:=(x3 (f.toNat-1) d V).m2;rw[<- x0];simp[(V:f.toNat-1<xs.length)];omega
   .omega
  .unfold frNo at M;unfold boundR;by_cases g:1<=f/\f<=s.fs.length
   .rw[ώ g,σ V]at M;cases M
   .rw[ύ (by rw[ag];exact g)]
  .unfold frNo at M;by_cases g:1<=f/\f<=s.fs.length
   .have d:f.toNat-1<s.fs.length:=V
    have h3:=(x3 (f.toNat-1) d V).m1;unfold boundR;rw[ώ (by rw[ag];exact g),r];rw[<- x0,List.getElem?_map,σ V]at r;cases r
    exact⟨rfl,by show _≠0;simp only[Option.map_some,Option.getD_some];omega⟩
   .rw[ύ g]at M;exact absurd rfl M
 ticks:=by
  rintro w c R s i⟨rb,evv,fv,av,ab,I,h⟩;unfold tickTo upR;by_cases F:0<=i/\i<s.kn.length
  .obtain⟨k,rfl⟩:=Int.eq_ofNat_of_zero_le F.1;have d:k<s.kn.length:=V
   rw[ώ F,ώ F];obtain⟨S,a3⟩:=h.a k d;refine ψ (RefTick_ok w c rb evv fv av s.room s.es _ _ s.kn h.r k d (ab k) S a3) ?_;rintro e w'⟨rfl,⟨I',A,a5,l⟩,u⟩;have n:∀{b:Nat}{t:TypeId},Tagged w b t->t≠165->¬b=rb:=λa B e=>Tagged.ne a h.r.trb B e;have T:∀j,(updN s.rs k ((s.rs k).tick s.kn.length k) j).ak=(s.rs j).ak/\(updN s.rs k ((s.rs k).tick s.kn.length k) j).made=(s.rs j).made/\(updN s.rs k ((s.rs k).tick s.kn.length k) j).lost=(s.rs j).lost:=λj=>by
    by_cases e:j=k
    .rw[e,updN_same];exact⟨rfl,rfl,rfl⟩
    .rw[updN_oth _ _ e];exact⟨rfl,rfl,rfl⟩
   refine⟨rfl,ownR c rb evv fv s.kn.length ab I',⟨rb,evv,fv,av,ab,I',l,h.f.chg u (λy q=>n (h.f.tag y q) Ψ) (λb a=>n a Ψ) (λb a=>n (h.r.ib b a) Ψ) a5,h.a.chg u (λj v=>n (h.a.tag j v) Ψ) (λj=>(T j).1),⟨h.d.1,h.d' A⟩,⟨h.i.f500,h.i.src,h.i.cnt,λj=>?_⟩,λk=>Iff.rfl⟩,h.ownTo rfl (λy q=>τ q) (λy q=>τ q) A,u.mono (λD _ r=>(h.own D).2 (υ (τ r)))⟩;have:=h.i.mb j;obtain⟨_,P,Y⟩:=T j;show(updN s.rs k ((s.rs k).tick s.kn.length k) j).made<=_/\(updN s.rs k ((s.rs k).tick s.kn.length k) j).lost<=(updN s.rs k ((s.rs k).tick s.kn.length k) j).made;rw[P,Y];exact this
  .rw[ύ F,ύ F];refine ψ (RefTick_no w c rb evv fv av s.room s.es _ _ s.kn h.r i F) ?_;rintro e w'⟨rfl,rfl⟩;exact⟨rfl,R,⟨rb,evv,fv,av,ab,I,h⟩,λk d=>τ d,Chg.refl _ _⟩
 spoils:=by
  rintro w c R s f b⟨rb,evv,fv,av,ab,I,h⟩ hz;refine ψ (RefSpoil_any w c rb evv fv av s.room s.es _ _ s.kn h.r s.fs s.ls h.f h.i.f500 (λk d=>(h.i.src _ (κ d)).2.1) f b _ ⟨V,V⟩) ?_;rintro e w'⟨rfl,a⟩;refine⟨?_,a⟩;have bd:spoilQ s.fs.length f b ((frameR s.1 f).1.size:Int)=spoilR s.1 f b:=by
   unfold spoilQ spoilR frameR;by_cases g:1<=f/\f<=s.fs.length
   .have n:frNo s.1 f=some (s.fs[f.toNat-1]'V):=by unfold frNo;rw[ώ g,σ]
    rw[ώ g,n]
   .have n:frNo s.1 f=none:=by unfold frNo;rw[ύ g]
    rw[ύ g,n]
  rw[bd] }
