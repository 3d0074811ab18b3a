import Derived.Test.YtfmmllpjgkgeaaaGreatDoorPartV12
import Derived.Test.YtfmmllpjgkgeaaaGreatDoorPartV37
set_option linter.unusedVariables false
set_option linter.unusedSimpArgs false
set_option maxHeartbeats 16000000
set_option maxRecDepth 100000
namespace Go.Proofs.YtfmmllpjgkgeaaaGreatDoor
open Go.RowKit

structure FrInv (s:St):Prop where
 f500:s.fs.length<=500
 src:∀ f∈s.fs,f.src<s.kn.length/\f.dst<s.kn.length/\f.ack<=s.fs.length/\f.known.length<=s.es.length
 cnt:∀ f∈s.fs,f.ack=0->cnt f.known<=cnt (s.kn.getD f.src [])
def AckAt (w:World) (av:Nat->Value) (n:Nat) (ab:Nat->Nat):Prop:=∀ i,i<n->av i=.slice (some ⟨ab i,0,none⟩) n n/\∃ kl:List Int,kl.length=n/\SliceT 3 w (av i) (ints kl)
theorem AckAt.ints {w w':World} {av:Nat->Value} {n:Nat} {ab:Nat->Nat} (h:AckAt w av n ab) (hk:IntsKept w w'):AckAt w' av n ab:=fun i hi=>by
 obtain ⟨h1,kl,h2,h3⟩:=h i hi
 obtain ⟨kl',h4,h5⟩:=h3.numbers hk
 exact ⟨h1,kl',by omega,h5⟩
theorem AckAt.tag {w:World} {av:Nat->Value} {n:Nat} {ab:Nat->Nat} (h:AckAt w av n ab) (i:Nat) (hi:i<n):Tagged w (ab i) 3:=by
 obtain ⟨h1,kl,h2,h3⟩:=h i hi
 rw[h1] at h3
 rcases h3 with ⟨e1,_⟩ | ⟨b,off,cap,e1,_,e3,_⟩
 ·cases e1
 ·simp only[Value.slice.injEq,Option.some.injEq,Addr.mk.injEq] at e1
  obtain ⟨⟨e1,_⟩,_⟩:=e1
  rw[e1]
  exact e3

structure RefC (w:World) (c:Nat) (R:Nat->Prop) (s:St) (rb:Nat) (evv fv:Value) (av:Nat->Value) (room:Nat) (ab:Nat->Nat):Prop where
 r:RefAt w c rb evv fv av room s.es s.es.length (s.es.length+(s.fs.length-1)) s.kn
 f:FrAt w fv s.fs
 a:AckAt w av s.kn.length ab
 i:FrInv s
 own:∀ k,R k↔k=c\/k=rb\/evv.ownBlock=some k\/fv.ownBlock=some k\/∃ j,j<s.kn.length/\ab j=k
def RefG (w:World) (c:Nat) (R:Nat->Prop) (s:St):Prop:=∃ rb evv fv av room ab,RefC w c R s rb evv fv av room ab

theorem ref_frame:RefFrame RefG:={
 stable:=by
  rintro M w w' c R s ⟨rb,evv,fv,av,room,ab,h⟩ hc hR hb hi
  have hm:=fun k hk=>hR k ((h.own k).2 hk)
  exact ⟨rb,evv,fv,av,room,ab,h.r.chg hc (hm _ (Or.inl rfl)) (hm _ (Or.inr (Or.inl rfl))) (fun g hg=>hm _ (Or.inr (Or.inr (Or.inl hg)))) hb hi,h.f.chg hc (fun g hg=>hm _ (Or.inr (Or.inr (Or.inr (Or.inl hg))))) hb hi,h.a.ints hi,h.i,h.own⟩
 tags:=by
  rintro w c R s k ⟨rb,evv,fv,av,room,ab,h⟩ hk
  rcases (h.own k).1 hk with rfl | rfl | hk | hk | ⟨j,hj,rfl⟩
  ·exact ⟨_,Or.inl rfl,h.r.tc⟩
  ·exact ⟨_,Or.inr (Or.inl rfl),h.r.trb⟩
  ·exact ⟨_,Or.inr (Or.inr (Or.inl rfl)),(h.r.evLt k hk).2⟩
  ·exact ⟨_,Or.inr (Or.inr (Or.inr (Or.inl rfl))),h.f.tag k hk⟩
  ·exact ⟨_,Or.inr (Or.inr (Or.inr (Or.inr rfl))),h.a.tag j hj⟩ }
theorem ref_new:RefNew RefG:={
 good:=by
  intro r room w h1 h6 h50
  refine Calls.mono (Fresh_good r room w h1 h6 h50) ?_
  rintro e w' ⟨rb,avs,rfl,hr,hav,hal,hb,hrb⟩
  have hat:∀ i,i<r->∃ b,avs.getD i .nilFunc=.slice (some ⟨b,0,none⟩) r r/\w.heap.size<=b/\∃ kl:List Int,kl.length=r/\SliceT 3 w' (avs.getD i .nilFunc) (ints kl):=fun i hi=>by
   have hi':i<avs.length:=by omega
   have hm:avs.getD i .nilFunc∈avs:=by
    rw[List.getD_eq_getElem?_getD,List.getElem?_eq_getElem hi'];exact List.getElem_mem hi'
   obtain ⟨b,kl,g1,g2,g3,g4⟩:=hav _ hm
   exact ⟨b,g1,g2,kl,g3,g4⟩
  obtain ⟨ab,hab⟩:∃ ab:Nat->Nat,∀ i,i<r->avs.getD i .nilFunc=.slice (some ⟨ab i,0,none⟩) r r/\w.heap.size<=ab i/\∃ kl:List Int,kl.length=r/\SliceT 3 w' (avs.getD i .nilFunc) (ints kl) :=
   ⟨fun i=>if h:i<r then (hat i h).choose else 0,fun i hi=>by
    simp only[hi,dite_true]
    exact (hat i hi).choose_spec⟩
  refine ⟨w.heap.size,fun k=>k=w.heap.size\/k=rb\/(Value.slice none 0 0).ownBlock=some k\/(Value.slice none 0 0).ownBlock=some k\/∃ j,j<(List.replicate r ([]:List Bool)).length/\ab j=k,rfl,⟨rb,.slice none 0 0,.slice none 0 0,fun i=>avs.getD i .nilFunc,room,ab,hr,FrAt.nil w',fun i hi=>?_,⟨by simp,fun f hf=>absurd hf (by simp),fun f hf=>absurd hf (by simp)⟩,fun k=>Iff.rfl⟩,fun k hk=>?_,hb⟩
  ·have hi':i<r:=by simpa using hi
   obtain ⟨g1,_,g3⟩:=hab i hi'
   simp only[List.length_replicate]
   exact ⟨g1,g3⟩
  ·rcases hk with rfl | rfl | hk | hk | ⟨j,hj,rfl⟩
   ·exact Nat.le_refl _
   ·exact hrb
   ·cases hk
   ·cases hk
   ·exact (hab j (by simpa using hj)).2.1 }

theorem cnt_moreOf (known:List Bool) (n:Nat):cnt known<=cnt (moreOf known n):=by
 unfold moreOf cnt
 rw[List.filter_append,List.filter_append,List.length_append,List.length_append]
 omega
theorem getDs (kn:List (List Bool)) (k:Nat) (hk:k<kn.length) (a:List Bool) (j:Nat):(kn.set k a).getD j []=if k=j then a else kn.getD j []:=by
 rw[List.getD_eq_getElem?_getD,List.getElem?_set]
 by_cases e:k=j
 ·subst e;simp[hk]
 ·rw[if_neg e,if_neg e,List.getD_eq_getElem?_getD]

theorem ref_ok:RefOK RefG:={
 up:=by
  rintro w c R s i ⟨rb,evv,fv,av,room,ab,h⟩
  exact Up_any w c rb evv fv av room s.es _ _ s.kn h.r i
 does:=by
  rintro w c R s i t ⟨rb,evv,fv,av,room,ab,h⟩ ht
  have hn5:=h.r.n500
  have hf5:=h.i.f500
  refine Calls.mono (RefDo_any w c rb evv fv av room s.es (s.es.length+(s.fs.length-1)) (by omega) s.kn h.r i t ht) ?_
  rintro e w' ⟨r,evv',es',kn',rfl,hd,hr,hc,hev⟩
  have hno:∀ {b:Nat} {t:TypeId},Tagged w b t->t=4\/t=3\/t=233->¬(b=c\/b=rb\/evv.ownBlock=some b):=by
   rintro b t hb ht (e | e | e)
   ·exact Tagged.ne hb h.r.tc (by rcases ht with rfl | rfl | rfl <;> decide) e
   ·exact Tagged.ne hb h.r.trb (by rcases ht with rfl | rfl | rfl <;> decide) e
   ·exact Tagged.ne hb (h.r.evLt b e).2 (by rcases ht with rfl | rfl | rfl <;> decide) rfl
  have hi:IntsKept w w':=IntsKept.of_chg hc (fun b hb=>hno hb (Or.inr (Or.inl rfl)))
  have hF:=h.f.chg hc (fun g hg=>hno (h.f.tag g hg) (Or.inr (Or.inr rfl))) (fun b hb=>hno hb (Or.inl rfl)) hi
  have hkl:kn'.length=s.kn.length/\s.es.length<=es'.length/\∀ j,cnt (s.kn.getD j [])<=cnt (kn'.getD j []):=by
   rcases hd with ⟨_,_,rfl,rfl⟩ | ⟨_,_,_,_,rfl,rfl⟩ | ⟨_,_,_,_,_,rfl,rfl⟩ | ⟨c',e',hi',_,_,_,_,_,_,_,_,rfl,rfl⟩
   ·exact ⟨rfl,Nat.le_refl _,fun _=>Nat.le_refl _⟩
   ·exact ⟨rfl,Nat.le_refl _,fun _=>Nat.le_refl _⟩
   ·exact ⟨rfl,Nat.le_refl _,fun _=>Nat.le_refl _⟩
   ·refine ⟨by simp,by simp,fun j=>?_⟩
    rw[getDs _ _ (by omega)]
    by_cases e9:i.toNat=j
    ·rw[if_pos e9,<- e9];exact cnt_moreOf _ _
    ·rw[if_neg e9];exact Nat.le_refl _
  have hm:s.es.length+(s.fs.length-1)+(es'.length-s.es.length)=es'.length+(s.fs.length-1):=by omega
  rw[hm] at hr
  refine ⟨r,es',kn',rfl,hd,fun k=>k=c\/k=rb\/evv'.ownBlock=some k\/fv.ownBlock=some k\/∃ j,j<kn'.length/\ab j=k,⟨rb,evv',fv,av,room,ab,hr,hF, ?_,⟨hf5,fun f hf=>?_,fun f hf h0=>Nat.le_trans (h.i.cnt f hf h0) (hkl.2.2 _)⟩,fun k=>Iff.rfl⟩,fun k hk=>?_,hc.mono (fun x _ hx=>(h.own x).2 ?_),hi⟩
  ·show AckAt w' av kn'.length ab
   rw[hkl.1];exact h.a.ints hi
  ·obtain ⟨q1,q2,q3,q4⟩:=h.i.src f hf
   exact ⟨by rw[hkl.1];exact q1,by rw[hkl.1];exact q2,q3,Nat.le_trans q4 hkl.2.1⟩
  ·rcases hk with hk | hk | hk | hk | ⟨j,hj,hk⟩
   ·exact Or.inl ((h.own k).2 (Or.inl hk))
   ·exact Or.inl ((h.own k).2 (Or.inr (Or.inl hk)))
   ·rcases hev with he | ⟨g,he,hg⟩
    ·exact Or.inl ((h.own k).2 (Or.inr (Or.inr (Or.inl (he.symm.trans hk)))))
    ·rw[he] at hk;cases hk;exact Or.inr hg
   ·exact Or.inl ((h.own k).2 (Or.inr (Or.inr (Or.inr (Or.inl hk)))))
   ·exact Or.inl ((h.own k).2 (Or.inr (Or.inr (Or.inr (Or.inr ⟨j,by rw[<- hkl.1];exact hj,hk⟩)))))
  ·rcases hx with hx | hx | hx
   ·exact Or.inl hx
   ·exact Or.inr (Or.inl hx)
   ·exact Or.inr (Or.inr (Or.inl hx))
 asks:=by
  rintro w c R s i t ⟨rb,evv,fv,av,room,ab,h⟩ ht
  exact RefAsk_any w c rb evv fv av room s.es _ _ s.kn h.r i t ht
 cells:=by
  rintro w c R s ⟨rb,evv,fv,av,room,ab,h⟩
  obtain ⟨cap,f1,hcap⟩:=h.r.f1
  refine ⟨h.r.n6,rb,cap,f1,hcap,fun i hi=>?_⟩
  obtain ⟨⟨kv,a0,b0⟩,_⟩:=h.r.reps i hi
  have:=h.r.kn _ (List.getElem_mem hi)
  have:=h.r.n500
  exact ⟨kv,a0,b0,by omega⟩ }
end Go.Proofs.YtfmmllpjgkgeaaaGreatDoor

