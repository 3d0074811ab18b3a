import Derived.Test.YtfmmllpjgkgeaaaGreatDoorPartM13
import Derived.Test.YtfmmllpjgkgeaaaGreatDoorPartM14
import Derived.Test.YtfmmllpjgkgeaaaGreatDoorPartM15
import Derived.Test.YtfmmllpjgkgeaaaGreatDoorPartM41
set_option linter.unusedVariables false
set_option linter.unusedSimpArgs false
set_option maxHeartbeats 16000000
set_option maxRecDepth 100000
namespace Go.Proofs.YtfmmllpjgkgeaaaGreatDoor
open Go.RowKit
structure ac4(s:St):Prop where
 f500:s.fs.length<=500
 src:∀f∈s.fs,f.src<s.kn.length/\f.dst<s.kn.length/\f.ack<=s.fs.length/\f.known.length<=s.es.length
 cnt:∀f∈s.fs,f.ack=0->cnt f.known<=cnt (s.kn.getD f.src [])
def wQ(w:World)(av:Nat->Value)(n:Nat)(ab:Nat->Nat):Prop:=∀i,i<n->av i=.slice (some ⟨ab i,0,none⟩) n n/\∃kl:List Int,kl.length=n/\aF 3 w (av i) (ints kl)
theorem wQ.ints{w w':World}{av:Nat->Value}{n:Nat}{ab:Nat->Nat}(h:wQ w av n ab)(hk:aH w w'):wQ w' av n ab:=λi hi=>by obtain⟨h1,kl,h2,h3⟩:=h i hi;obtain⟨kl',h4,h5⟩:=h3.numbers hk;exact⟨h1,kl',by omega,h5⟩
theorem wQ.tag{w:World}{av:Nat->Value}{n:Nat}{ab:Nat->Nat}(h:wQ w av n ab)(i:Nat)(hi:i<n):Tagged w (ab i) 3:=by
 obtain⟨h1,kl,h2,h3⟩:=h i hi;rw[h1]at h3;rcases h3 with⟨e1,_⟩|⟨b,off,cap,e1,_,e3,_⟩
 ·cases e1
 ·simp only[Value.slice.injEq,Option.some.injEq,Addr.mk.injEq]at e1;obtain⟨⟨e1,_⟩,_⟩:=e1;rw[e1];exact e3
structure aj0(w:World)(c:Nat)(R:Nat->Prop)(s:St)(rb:Nat)(bU fv:Value)(av:Nat->Value)(room:Nat)(ab:Nat->Nat):Prop where
 r:bC w c rb bU fv av room s.es s.es.length (s.es.length+(s.fs.length-1)) s.kn
 f:gB w fv s.fs
 a:wQ w av s.kn.length ab
 i:ac4 s
 own:∀k,R k↔k=c\/k=rb\/bU.ownBlock=some k\/fv.ownBlock=some k\/∃j,j<s.kn.length/\ab j=k
def SE(w:World)(c:Nat)(R:Nat->Prop)(s:St):Prop:=∃rb bU fv av room ab,aj0 w c R s rb bU fv av room ab
theorem CP:aI SE:={
 stable:=by rintro M w w' c R s⟨rb,bU,fv,av,room,ab,h⟩ hc hR hb hi;have hm:=λk hk=>hR k ((h.own k).2 hk);exact⟨rb,bU,fv,av,room,ab,h.r.aJ hc (hm _ (Or.inl rfl)) (hm _ (Or.inr (Or.inl rfl))) (λg hg=>hm _ (Or.inr (Or.inr (Or.inl hg)))) hb hi,h.f.aJ hc (λg hg=>hm _ (Or.inr (Or.inr (Or.inr (Or.inl hg))))) hb hi,h.a.ints hi,h.i,h.own⟩
 tags:=by
  rintro w c R s k⟨rb,bU,fv,av,room,ab,h⟩ hk;rcases(h.own k).1 hk with rfl|rfl|hk|hk|⟨j,hj,rfl⟩
  ·exact⟨_,Or.inl rfl,h.r.tc⟩
  ·exact⟨_,Or.inr (Or.inl rfl),h.r.ng⟩
  ·exact⟨_,Or.inr (Or.inr (Or.inl rfl)),(h.r.Ak k hk).2⟩
  ·exact⟨_,Or.inr (Or.inr (Or.inr (Or.inl rfl))),h.f.tag k hk⟩
  ·exact⟨_,Or.inr (Or.inr (Or.inr (Or.inr rfl))),h.a.tag j hj⟩ }
theorem U0:Eu SE:={
 good:=by
  intro r room w h1 h6 h50;refine Calls.mono (IY r room w h1 h6 h50) ?_;rintro e w'⟨rb,mG,rfl,hr,hav,hal,hb,hrb⟩;have hat:∀i,i<r->∃b,mG.getD i .nilFunc=.slice (some ⟨b,0,none⟩) r r/\w.heap.size<=b/\∃kl:List Int,kl.length=r/\aF 3 w' (mG.getD i .nilFunc) (ints kl):=λi hi=>by
   have hi':i<mG.length:=by omega
   have hm:mG.getD i .nilFunc∈mG:=by rw[List.getD_eq_getElem?_getD,List.getElem?_eq_getElem hi'];exact List.getElem_mem hi'
   obtain⟨b,kl,g1,g2,g3,g4⟩:=hav _ hm;exact⟨b,g1,g2,kl,g3,g4⟩
  obtain⟨ab,hab⟩:∃ab:Nat->Nat,∀i,i<r->mG.getD i .nilFunc=.slice (some ⟨ab i,0,none⟩) r r/\w.heap.size<=ab i/\∃kl:List Int,kl.length=r/\aF 3 w' (mG.getD i .nilFunc) (ints kl) :=
   ⟨λi=>if h:i<r then(hat i h).choose else 0,λi hi=>by simp only[hi,dite_true];exact(hat i hi).choose_spec⟩
  refine⟨w.heap.size,λk=>k=w.heap.size\/k=rb\/(Value.slice none 0 0).ownBlock=some k\/(Value.slice none 0 0).ownBlock=some k\/∃j,j<(List.replicate r ([]:List Bool)).length/\ab j=k,rfl,⟨rb,.slice none 0 0,.slice none 0 0,λi=>mG.getD i .nilFunc,room,ab,hr,gB.nil w',λi hi=>?_,⟨by simp,λf hf=>absurd hf (by simp),λf hf=>absurd hf (by simp)⟩,λk=>Iff.rfl⟩,λk hk=>?_,hb⟩
  ·have hi':i<r:=by simpa using hi
   obtain⟨g1,_,g3⟩:=hab i hi';simp only[List.length_replicate];exact⟨g1,g3⟩
  ·rcases hk with rfl|rfl|hk|hk|⟨j,hj,rfl⟩
   ·exact Nat.le_refl _
   ·exact hrb
   ·cases hk
   ·cases hk
   ·exact(hab j (by simpa using hj)).2.1 }
theorem Ky(known:List Bool)(n:Nat):cnt known<=cnt (dN known n):=by unfold dN cnt;rw[List.filter_append,List.filter_append,List.length_append,List.length_append];omega
theorem SG(a b:List Bool):cnt a<=cnt (l7 a b):=by
 unfold l7;split
 ·omega
 ·exact Nat.le_refl _
theorem LJ(kn:List (List Bool))(k:Nat)(hk:k<kn.length):kn.getD k []=kn[k]:=by simp[hk]
theorem VH(kn:List (List Bool))(k:Nat)(hk:k<kn.length)(a:List Bool)(j:Nat):(kn.set k a).getD j []=if k=j then a else kn.getD j []:=by
 rw[List.getD_eq_getElem?_getD,List.getElem?_set];by_cases e:k=j
 ·subst e;simp[hk]
 ·rw[if_neg e,if_neg e,List.getD_eq_getElem?_getD]
theorem XP:iW SE:={
 up:=by rintro w c R s i⟨rb,bU,fv,av,room,ab,h⟩;exact nG w c rb bU fv av room s.es _ _ s.kn h.r i
 does:=by
  rintro w c R s i t⟨rb,bU,fv,av,room,ab,h⟩ ht;have KI:=h.r.nD;have hf5:=h.i.f500;refine Calls.mono (L6 w c rb bU fv av room s.es (s.es.length+(s.fs.length-1)) (by omega) s.kn h.r i t ht) ?_;rintro e w'⟨r,pz,es',lM,rfl,hd,hr,hc,hev⟩;have hno:∀{b:Nat}{t:TypeId},Tagged w b t->t=4\/t=3\/t=233->¬(b=c\/b=rb\/bU.ownBlock=some b):=by
   rintro b t hb ht (e|e|e)
   ·exact Tagged.ne hb h.r.tc (by rcases ht with rfl|rfl|rfl<;>decide) e
   ·exact Tagged.ne hb h.r.ng (by rcases ht with rfl|rfl|rfl<;>decide) e
   ·exact Tagged.ne hb (h.r.Ak b e).2 (by rcases ht with rfl|rfl|rfl<;>decide) rfl
  have hi:aH w w':=aH.jI hc (λb hb=>hno hb (Or.inr (Or.inl rfl)));have hF:=h.f.aJ hc (λg hg=>hno (h.f.tag g hg) (Or.inr (Or.inr rfl))) (λb hb=>hno hb (Or.inl rfl)) hi;have hkl:lM.length=s.kn.length/\s.es.length<=es'.length/\∀j,cnt (s.kn.getD j [])<=cnt (lM.getD j []):=by
   rcases hd with⟨_,_,rfl,rfl⟩|⟨_,_,_,_,rfl,rfl⟩|⟨_,_,_,_,_,rfl,rfl⟩|⟨c',e',hi',_,_,_,_,_,_,_,_,rfl,rfl⟩
   ·exact⟨rfl,Nat.le_refl _,λ_=>Nat.le_refl _⟩
   ·exact⟨rfl,Nat.le_refl _,λ_=>Nat.le_refl _⟩
   ·exact⟨rfl,Nat.le_refl _,λ_=>Nat.le_refl _⟩
   ·refine⟨by simp,by simp,λj=>?_⟩;rw[VH _ _ (by omega)];by_cases e9:i.toNat=j
    ·rw[if_pos e9,<- e9];exact Ky _ _
    ·rw[if_neg e9];exact Nat.le_refl _
  have hm:s.es.length+(s.fs.length-1)+(es'.length-s.es.length)=es'.length+(s.fs.length-1):=by omega
  rw[hm]at hr;refine⟨r,es',lM,rfl,hd,λk=>k=c\/k=rb\/pz.ownBlock=some k\/fv.ownBlock=some k\/∃j,j<lM.length/\ab j=k,⟨rb,pz,fv,av,room,ab,hr,hF, ?_,⟨hf5,λf hf=>?_,λf hf h0=>Nat.le_trans (h.i.cnt f hf h0) (hkl.2.2 _)⟩,λk=>Iff.rfl⟩,λk hk=>?_,hc.mono (λx _ hx=>(h.own x).2 ?_),hi⟩
  ·show wQ w' av lM.length ab;rw[hkl.1];exact h.a.ints hi
  ·obtain⟨q1,q2,q3,q4⟩:=h.i.src f hf;exact⟨by rw[hkl.1];exact q1,by rw[hkl.1];exact q2,q3,Nat.le_trans q4 hkl.2.1⟩
  ·rcases hk with hk|hk|hk|hk|⟨j,hj,hk⟩
   ·exact Or.inl ((h.own k).2 (Or.inl hk))
   ·exact Or.inl ((h.own k).2 (Or.inr (Or.inl hk)))
   ·rcases hev with he|⟨g,he,hg⟩
    ·exact Or.inl ((h.own k).2 (Or.inr (Or.inr (Or.inl (he.symm.trans hk)))))
    ·rw[he]at hk;cases hk;exact Or.inr hg
   ·exact Or.inl ((h.own k).2 (Or.inr (Or.inr (Or.inr (Or.inl hk)))))
   ·exact Or.inl ((h.own k).2 (Or.inr (Or.inr (Or.inr (Or.inr ⟨j,by rw[<- hkl.1];exact hj,hk⟩)))))
  ·rcases hx with hx|hx|hx
   ·exact Or.inl hx
   ·exact Or.inr (Or.inl hx)
   ·exact Or.inr (Or.inr (Or.inl hx))
 asks:=by rintro w c R s i t⟨rb,bU,fv,av,room,ab,h⟩ ht;exact IV w c rb bU fv av room s.es _ _ s.kn h.r i t ht
 cells:=by rintro w c R s⟨rb,bU,fv,av,room,ab,h⟩;obtain⟨cap,f1,hcap⟩:=h.r.f1;refine⟨h.r.n6,rb,cap,f1,hcap,λi hi=>?_⟩;obtain⟨⟨kv,a0,b0⟩,_⟩:=h.r.oW i hi;have:=h.r.kn _ (List.getElem_mem hi);have:=h.r.nD;exact⟨kv,a0,b0,by omega⟩
 sends:=by
  rintro w c R s i j s'⟨rb,bU,fv,av,room,ab,h⟩ ⟨t1,t2,t3⟩;obtain⟨es',lM,fs'⟩:=s';simp only at t1 t2 t3;subst t1 t2;have same:∀(n r:Int),dH s i j=(n,r)->r≠0->fs'=s.fs->(Ending.returned (.tuple #[.int .i64 n,.int .i64 r]):Ending)=.returned (.tuple #[.int .i64 (dH s i j).1,.int .i64 (dH s i j).2])/\∃R',SE w c R' ⟨s.es,s.kn,fs'⟩/\(∀k,R' k->R k\/w.heap.size<=k)/\ay R w w/\aH w w:=λn r e1 _ e3=>⟨by rw[e1],R,by rw[e3];exact⟨rb,bU,fv,av,room,ab,h⟩,λk hk=>Or.inl hk,ay.refl _ _,aH.of_below (Below.refl _ _)⟩;by_cases hb:(0<=i/\i<s.kn.length)/\(0<=j/\j<s.kn.length)
  ·by_cases hij:i=j
   ·have e1:dH s i j=(0,1):=by unfold dH;rw[if_pos hb,if_pos hij]
    rw[e1,if_neg (by decide)]at t3;refine Calls.mono (wE w c rb bU fv av room s.es _ _ s.kn h.r s.fs h.f h.i.f500 i j hb.1 hb.2 (Or.inl hij)) ?_;rw[if_pos hij];rintro e w'⟨rfl,rfl⟩;exact same 0 1 e1 (by decide) t3
   ·by_cases h5:500<=s.fs.length
    ·have e1:dH s i j=(0,7):=by unfold dH;rw[if_pos hb,if_neg hij,if_pos h5]
     rw[e1,if_neg (by decide)]at t3;refine Calls.mono (wE w c rb bU fv av room s.es _ _ s.kn h.r s.fs h.f h.i.f500 i j hb.1 hb.2 (Or.inr h5)) ?_;rw[if_neg hij];rintro e w'⟨rfl,rfl⟩;exact same 0 7 e1 (by decide) t3
    ·obtain⟨k,rfl⟩:=Int.eq_ofNat_of_zero_le hb.1.1;obtain⟨k',rfl⟩:=Int.eq_ofNat_of_zero_le hb.2.1;have hk:k<s.kn.length:=by omega
     have hk':k'<s.kn.length:=by omega
     have e1:dH s (k:Int) (k':Int)=((s.fs.length:Int)+1,0):=by unfold dH;rw[if_pos hb,if_neg hij,if_neg h5]
     rw[e1,if_pos rfl]at t3;obtain⟨b,rfl⟩:=t3;refine Calls.mono (Jp w c rb bU fv av room s.es _ _ s.kn h.r s.fs h.f k k' hk hk' (by omega) (by omega) (λf hf h0 hs=>by have:=h.i.cnt f hf h0;rw[hs,LJ _ _ hk]at this;exact this) ⟨_,_,_,(h.a k hk).1⟩ b) ?_;rintro e w'⟨rfl,fJ,hr,hF,hc,hn⟩;have hno:∀{b:Nat},Tagged w b 3->¬(b=c\/fv.ownBlock=some b):=by
      rintro b hb (e|e)
      ·exact Tagged.ne hb h.r.tc (by decide) e
      ·exact Tagged.ne hb (h.f.tag b e) (by decide) rfl
     have hi:aH w w':=aH.jI hc (λb hb=>hno hb);have hf5:=h.i.f500;have KI:=h.r.nD;refine⟨by rw[e1],λg=>g=c\/g=rb\/bU.ownBlock=some g\/fJ.ownBlock=some g\/∃j,j<s.kn.length/\ab j=g,⟨rb,bU,fJ,av,room,ab,hr.vI (by simp only[List.length_append,List.length_singleton];omega) (by simp only[List.length_append,List.length_singleton];omega),by show gB w' fJ (s.fs++[(⟨((k:Int)).toNat,((k':Int)).toNat,0,s.kn.getD ((k:Int)).toNat [],b⟩:oZ)]);simp only[Int.toNat_natCast];rw[LJ _ _ hk];exact hF,h.a.ints hi,⟨by simp;omega,λf hf=>?_,λf hf h0=>?_⟩,λg=>Iff.rfl⟩,λg hg=>?_,hc.mono (λx _ hx=>(h.own x).2 (hx.elim Or.inl (λhx=>Or.inr (Or.inr (Or.inr (Or.inl hx)))))),hi⟩
     ·rcases List.mem_append.1 hf with h1|h1
      ·obtain⟨q1,q2,q3,q4⟩:=h.i.src f h1;exact⟨q1,q2,by simp;omega,q4⟩
      ·have e9:f=_:=List.mem_singleton.1 h1;subst e9;refine⟨hk,hk',by simp, ?_⟩;simp only[Int.toNat_natCast];rw[LJ _ _ hk];exact h.r.kn _ (List.getElem_mem hk)
     ·rcases List.mem_append.1 hf with h1|h1
      ·exact h.i.cnt f h1 h0
      ·have e9:f=_:=List.mem_singleton.1 h1;subst e9;exact Nat.le_refl _
     ·rcases hg with hg|hg|hg|hg|hg
      ·exact Or.inl ((h.own g).2 (Or.inl hg))
      ·exact Or.inl ((h.own g).2 (Or.inr (Or.inl hg)))
      ·exact Or.inl ((h.own g).2 (Or.inr (Or.inr (Or.inl hg))))
      ·exact(hn g hg).imp (λh9=>(h.own g).2 (Or.inr (Or.inr (Or.inr (Or.inl h9))))) id
      ·exact Or.inl ((h.own g).2 (Or.inr (Or.inr (Or.inr (Or.inr hg)))))
  ·have e1:dH s i j=(0,2):=by unfold dH;rw[if_neg hb]
   rw[e1,if_neg (by decide)]at t3;refine Calls.mono (Ju w c rb bU fv av room s.es _ _ s.kn h.r i j hb) ?_;rintro e w'⟨rfl,rfl⟩;exact same 0 2 e1 (by decide) t3
 EM:=by
  rintro w c R s f s'⟨rb,bU,fv,av,room,ab,h⟩ ⟨t1,t2⟩;obtain⟨es',lM,fs'⟩:=s';simp only at t1;subst t1;have hf5:=h.i.f500;have KI:=h.r.nD;by_cases hf:1<=f/\f<=s.fs.length
  ·obtain⟨k,rfl⟩:∃k:Nat,f=(k:Int)+1:=⟨(f-1).toNat,by omega⟩;have hk:k<s.fs.length:=by omega
   have hno:kD s ((k:Int)+1)=some s.fs[k]:=by unfold kD;rw[if_pos (by omega),show((k:Int)+1).toNat-1=k by omega,List.getElem?_eq_getElem hk]
   rw[hno]at t2;dsimp only at t2;obtain⟨q1,q2,q3,q4⟩:=h.i.src _ (List.getElem_mem hk);by_cases ha:0<s.fs[k].ack
   ·rw[if_pos (Or.inl ha)]at t2;obtain⟨rfl,rfl⟩:=t2;have e1:iw s ((k:Int)+1)=(0,0):=by unfold iw;rw[hno];exact if_pos ha
    obtain⟨a1,kl,a2,a3⟩:=h.a _ q2;refine Calls.mono (Jt w c rb bU fv av room s.es _ _ s.kn h.r s.fs h.f k hk q2 q1 hf5 (s.fs[k].ack-1) (by omega) (by omega) (ab s.fs[k].dst) a1 kl a2 (by rw[<- a1];exact a3)) ?_;rintro e w'⟨rfl,hr,hF,hc,hi⟩;exact⟨by rw[e1],R,⟨rb,bU,fv,av,room,ab,hr,hF,h.a.ints hi,h.i,h.own⟩,λk hk=>Or.inl hk,hc.mono (λx _ hx=>(h.own x).2 (hx.elim (λhx=>Or.inr (Or.inr (Or.inr (Or.inr ⟨_,q2,hx.symm⟩)))) (λhx=>Or.inr (Or.inr (Or.inr (Or.inl hx)))))),hi⟩
   ·by_cases h5:500<=s.fs.length
    ·rw[if_pos (Or.inr h5)]at t2;obtain⟨rfl,rfl⟩:=t2;have e1:iw s ((k:Int)+1)=(0,7):=by unfold iw;rw[hno];exact(if_neg ha).trans (if_pos h5)
     refine Calls.mono (FH w c rb bU fv av room s.es _ _ s.kn h.r s.fs h.f k hk q2 (by omega) (by omega)) ?_;rintro e w'⟨rfl,hb⟩;exact⟨by rw[e1],R,CP.below ⟨rb,bU,fv,av,room,ab,h⟩ hb,λk hk=>Or.inl hk,ay.of_below hb,aH.of_below hb⟩
    ·rw[if_neg (by omega)]at t2;obtain⟨rfl,b,rfl⟩:=t2;have e1:iw s ((k:Int)+1)=((s.fs.length:Int)+1,0):=by unfold iw;rw[hno];exact(if_neg ha).trans (if_neg h5)
     refine Calls.mono (Na w c rb bU fv av room s.es _ _ (by omega) s.kn h.r s.fs h.f k hk q2 q1 (by omega) (by omega) q4 b) ?_;rintro e w'⟨rfl,fJ,hr,hF,hc,hn⟩;have hkd:s.kn.getD s.fs[k].dst []=s.kn[s.fs[k].dst]:=LJ _ _ q2;have aj1:∀{b:Nat},Tagged w b 3->¬(b=c\/b=rb\/fv.ownBlock=some b):=by
      rintro b hb (e|e|e)
      ·exact Tagged.ne hb h.r.tc (by decide) e
      ·exact Tagged.ne hb h.r.ng (by decide) e
      ·exact Tagged.ne hb (h.f.tag b e) (by decide) rfl
     have hi:aH w w':=aH.jI hc (λb hb=>aj1 hb);have hkn:s.kn.set s.fs[k].dst (l7 (s.kn.getD s.fs[k].dst []) s.fs[k].known)=s.kn.set s.fs[k].dst (if cnt s.kn[s.fs[k].dst]<cnt (bY s.kn[s.fs[k].dst] s.fs[k].known)then bY s.kn[s.fs[k].dst] s.fs[k].known else s.kn[s.fs[k].dst]):=by rw[hkd];(first|done|rfl)
     have hlen:(s.kn.set s.fs[k].dst (l7 (s.kn.getD s.fs[k].dst []) s.fs[k].known)).length=s.kn.length:=by simp
     refine⟨by rw[e1],λg=>g=c\/g=rb\/bU.ownBlock=some g\/fJ.ownBlock=some g\/∃j,j<(s.kn.set s.fs[k].dst (l7 (s.kn.getD s.fs[k].dst []) s.fs[k].known)).length/\ab j=g,⟨rb,bU,fJ,av,room,ab, ?_,hF, ?_,⟨by simp;omega,λf hf=>?_,λf hf h0=>?_⟩,λg=>Iff.rfl⟩,λg hg=>?_,hc.mono (λx _ hx=>(h.own x).2 ?_),hi⟩
     ·show bC w' c rb bU fJ av room s.es s.es.length (s.es.length+((s.fs++[(⟨s.fs[k].dst,s.fs[k].src,k+1,[],b⟩:oZ)]).length-1)) (s.kn.set s.fs[k].dst (l7 (s.kn.getD s.fs[k].dst []) s.fs[k].known));rw[hkn];exact hr.vI (by simp only[List.length_append,List.length_singleton];omega) (by simp only[List.length_append,List.length_singleton];omega)
     ·show wQ w' av (s.kn.set s.fs[k].dst (l7 (s.kn.getD s.fs[k].dst []) s.fs[k].known)).length ab;rw[hlen];exact h.a.ints hi
     ·show f.src<(s.kn.set s.fs[k].dst (l7 (s.kn.getD s.fs[k].dst []) s.fs[k].known)).length/\f.dst<(s.kn.set s.fs[k].dst (l7 (s.kn.getD s.fs[k].dst []) s.fs[k].known)).length/\f.ack<=(s.fs++[(⟨s.fs[k].dst,s.fs[k].src,k+1,[],b⟩:oZ)]).length/\f.known.length<=s.es.length;rw[hlen,List.length_append,List.length_singleton];rcases List.mem_append.1 hf with h1|h1
      ·obtain⟨p1,p2,p3,p4⟩:=h.i.src f h1;exact⟨p1,p2,by omega,p4⟩
      ·have e9:f=_:=List.mem_singleton.1 h1;subst e9;exact⟨q2,q1,by show k+1<=_;omega,by simp⟩
     ·show cnt f.known<=cnt ((s.kn.set s.fs[k].dst (l7 (s.kn.getD s.fs[k].dst []) s.fs[k].known)).getD f.src []);rcases List.mem_append.1 hf with h1|h1
      ·refine Nat.le_trans (h.i.cnt f h1 h0) ?_;rw[VH _ _ q2];by_cases e9:s.fs[k].dst=f.src
       ·rw[if_pos e9,<- e9];exact SG _ _
       ·rw[if_neg e9];exact Nat.le_refl _
      ·have e9:f=_:=List.mem_singleton.1 h1;subst e9;exact absurd h0 (Nat.succ_ne_zero _)
     ·rw[hlen]at hg;rcases hg with hg|hg|hg|hg|hg
      ·exact Or.inl ((h.own g).2 (Or.inl hg))
      ·exact Or.inl ((h.own g).2 (Or.inr (Or.inl hg)))
      ·exact Or.inl ((h.own g).2 (Or.inr (Or.inr (Or.inl hg))))
      ·exact(hn g hg).imp (λh9=>(h.own g).2 (Or.inr (Or.inr (Or.inr (Or.inl h9))))) id
      ·exact Or.inl ((h.own g).2 (Or.inr (Or.inr (Or.inr (Or.inr hg)))))
     ·rcases hx with hx|hx|hx
      ·exact Or.inl hx
      ·exact Or.inr (Or.inl hx)
      ·exact Or.inr (Or.inr (Or.inr (Or.inl hx)))
  ·have hno:kD s f=none:=by unfold kD;rw[if_neg hf]
   rw[hno]at t2;obtain⟨rfl,rfl⟩:=t2;refine Calls.mono (Js w c fv s.fs h.r.f4 h.f hf5 f hf) ?_;rintro e w'⟨rfl,rfl⟩;exact⟨by unfold iw;rw[hno],R,⟨rb,bU,fv,av,room,ab,h⟩,λk hk=>Or.inl hk,ay.refl _ _,aH.of_below (Below.refl _ _)⟩
 bound:=by
  rintro w c R s f⟨rb,bU,fv,av,room,ab,h⟩;refine Calls.mono (MP w c fv s.fs h.r.f4 h.f h.i.f500 f) ?_;rintro e w'⟨n,rfl,hn,hz,rfl⟩;refine⟨n,rfl,hn, ?_,rfl⟩;unfold Zd at hz;rw[hz];unfold kD;by_cases hf:1<=f/\f<=s.fs.length
  ·rw[if_pos hf,List.getElem?_eq_getElem (by omega)];simp[hf]
  ·rw[if_neg hf];simp[hf] }
