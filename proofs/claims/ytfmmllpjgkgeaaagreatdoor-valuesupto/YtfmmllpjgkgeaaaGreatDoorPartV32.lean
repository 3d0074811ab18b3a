import Derived.Test.YtfmmllpjgkgeaaaGreatDoorPartV31
set_option linter.unusedVariables false
set_option linter.unusedSimpArgs false
set_option maxHeartbeats 16000000
set_option maxRecDepth 100000
namespace Go.Proofs.YtfmmllpjgkgeaaaGreatDoor
variable {V:Type}
end Go.Proofs.YtfmmllpjgkgeaaaGreatDoor
namespace Go.Proofs.YtfmmllpjgkgeaaaGreatDoor
open Go.RowKit

def chOf (e:Ev):Thk.Ch:=⟨toL e.p,e.a,toL e.v,e.n⟩

theorem covAt_app {es:List Ev} {e:Ev} {known:List Bool} {k d:Nat} (hd:d<es.length) (hk:k<es.length):covAt (es ++ [e]) known k d=covAt es known k d:=by
 unfold covAt;rw[List.getElem?_append_left hd,List.getElem?_append_left hk]
theorem covTo_app {es:List Ev} {e:Ev} {known:List Bool} {k:Nat} (hk:k<es.length):∀ d,d<=es.length->covTo (es ++ [e]) known k d=covTo es known k d
 | 0,_=>rfl
 | d+1,h=>by unfold covTo;rw[covTo_app hk d (by omega),covAt_app (by omega) hk]
theorem alive_app {es:List Ev} {e:Ev} {known:List Bool} (hl:known.length<=es.length) {k:Nat} (hk:k<es.length):alive (es ++ [e]) known k=alive es known k:=by
 unfold alive
 rw[List.getElem?_append_left hk,List.length_append]
 have h1:covTo (es ++ [e]) known k (es.length+1)=covTo es known k es.length:=by
  rw[covTo,covTo_app hk _ (Nat.le_refl _)]
  have:covAt (es ++ [e]) known k es.length=false:=by unfold covAt;rw[getD_len hl];split <;> simp
  rw[this];simp
 rw[show [e].length=1 from rfl,h1]

theorem covB_kept (dp:Thk.Bs) (da:UInt8) (dv:Thk.Bs) (ep:Thk.Bs) (ea:UInt8) (ev:Thk.Bs):covB dp da (toL (keptVal da ⟨dv.toArray⟩)) ep ea (toL (keptVal ea ⟨ev.toArray⟩))=covB dp da dv ep ea ev:=by
 have hk:∀ (a:UInt8) (v:Thk.Bs),a.toNat=43\/a.toNat=45->toL (keptVal a ⟨v.toArray⟩)=v:=fun a v h=>by
  unfold keptVal;rw[if_pos (by omega)];(first | done | rfl)
 unfold covB
 split
 ·rfl
 ·split
  ·rfl
  ·split
   ·rename_i h43
    have e1:toL (keptVal ea ⟨ev.toArray⟩)=ev:=hk ea ev (Or.inl (by omega))
    rw[e1]
    by_cases h2:da.toNat=43\/da.toNat=45
    ·rw[hk da dv h2]
    ·have h3:((da.toNat:Int) == 43 || (da.toNat:Int) == 45)=false:=by simp;omega
     rw[h3];(first | done | rfl)
   ·rfl

theorem covTo_iff (es:List Ev) (known:List Bool) (k:Nat):∀ n,covTo es known k n=true↔∃ d,k<d/\d<n/\covAt es known k d=true
 | 0=>by simp[covTo]
 | n+1=>by
  rw[covTo,Bool.or_eq_true,covTo_iff es known k n,Bool.and_eq_true,decide_eq_true_eq]
  constructor
  ·rintro (⟨d,h1,h2,h3⟩ | ⟨h1,h2⟩)
   ·exact ⟨d,h1,by omega,h3⟩
   ·exact ⟨n,h1,by omega,h2⟩
  ·rintro ⟨d,h1,h2,h3⟩
   by_cases e:d=n
   ·subst e;exact Or.inr ⟨h1,h3⟩
   ·exact Or.inl ⟨d,h1,by omega,h3⟩
def covs (es:List Ev) (k d:Nat):Bool :=
 match es[d]?,es[k]? with
 | some x,some y=>x.saw.getD k false && covB (toL x.p) x.a (toL x.v) (toL y.p) y.a (toL y.v)
 | _,_=>false
theorem covAt_covs (es:List Ev) (known:List Bool) (k d:Nat):covAt es known k d=(known.getD d false && covs es k d):=by
 unfold covAt covs
 cases es[d]? with
 | none=>simp
 | some x =>
  cases es[k]? with
  | none=>simp
  | some y=>simp only[Bool.and_assoc]
theorem alive_iff (es:List Ev) (known:List Bool) (k:Nat):alive es known k=true↔(∃ y,es[k]? = some y/\effB y.a=true)/\known.getD k false=true/\∀ d,k<d->d<es.length->known.getD d false=true->covs es k d=false:=by
 unfold alive
 cases he:es[k]? with
 | none=>simp
 | some y =>
  simp only[Bool.and_eq_true,Bool.not_eq_true',Option.some.injEq,exists_eq_left']
  rw[and_assoc,<- Bool.not_eq_true (covTo es known k es.length),covTo_iff]
  refine and_congr_right fun _=>and_congr_right fun _=>⟨fun h d h1 h2 h3=>?_,fun h=>?_⟩
  ·cases hc:covs es k d with
   | false=>rfl
   | true=>exact absurd ⟨d,h1,h2,by rw[covAt_covs,h3,hc];rfl⟩ h
  ·rintro ⟨d,h1,h2,h3⟩
   rw[covAt_covs,Bool.and_eq_true] at h3
   rw[h d h1 h2 h3.1] at h3
   cases h3.2
structure EvD (es:List Ev) (D:List Nat) (n:Nat):Prop where
 len:D.length=es.length
 nd:D.Nodup
 ok:∀ d∈D,who d<n/\1<=nth d/\nth d<=500
structure Kn (es:List Ev) (D:List Nat) (known:List Bool) (K:Nat->Nat) (C:Nat->Option Thk.Ch):Prop where
 len:known.length<=es.length
 vec:∀ i d,D[i]? = some d->(known.getD i false=true↔nth d<=K (who d))
 all:∀ x m,1<=m->m<=K x->m<512/\mkD x m∈D
 cl:∀ d e i,es[d]? = some e->known.getD d false=true->e.saw.getD i false=true->known.getD i false=true
 c1:∀ i d,D[i]? = some d->C d=if alive es known i=true then (es[i]?).map chOf else none
 c2:∀ d,d ∉ D->C d=none
section
variable {es:List Ev} {D:List Nat} {n:Nat} {known:List Bool} {K:Nat->Nat} {C:Nat->Option Thk.Ch}
theorem Kn.nil:Kn [] [] [] (fun _=>0) (fun _=>none):=⟨Nat.le_refl _,fun i d h=>by simp at h,fun x m h1 h2=>by omega,fun d e i h=>by simp at h,fun i d h=>by simp at h,fun d _=>rfl⟩
theorem Kn.notin (h:Kn es D known K C) {d:Nat} (hd:d ∉ D) (h1:1<=nth d):¬nth d<=K (who d):=fun hle=>by
 have:=(h.all (who d) (nth d) h1 hle).2
 rw[mk_wn] at this
 exact hd this
theorem Kn.sup (h:Kn es D known K C) {d:Nat} (hc:C d≠none):∃ i e,D[i]? = some d/\alive es known i=true/\es[i]? = some e/\C d=some (chOf e):=by
 by_cases hd:d∈D
 ·obtain ⟨i,hi,rfl⟩:=List.getElem_of_mem hd
  have hi':D[i]? = some D[i]:=List.getElem?_eq_getElem hi
  have:=h.c1 i _ hi'
  by_cases ha:alive es known i=true
  ·rw[if_pos ha] at this
   obtain ⟨⟨y,hy,_⟩,_⟩:=(alive_iff es known i).1 ha
   rw[hy] at this
   exact ⟨i,y,hi',ha,hy,this⟩
  ·rw[if_neg ha] at this
   exact absurd this hc
 ·exact absurd (h.c2 d hd) hc

theorem Kn.other (h:Kn es D known K C) (hE:EvD es D n) (e:Ev) (d:Nat) (hd:d ∉ D) (h1:1<=nth d):Kn (es ++ [e]) (D ++ [d]) known K C:=by
 have hl:=h.len
 have hk0:known.getD es.length false=false:=getD_len hl
 refine ⟨by simp;omega,fun i x hx=>?_,fun x m h2 h3=>⟨(h.all x m h2 h3).1,List.mem_append.2 (Or.inl (h.all x m h2 h3).2)⟩,fun x y i hx hk hs=>?_,fun i x hx=>?_,fun x hx=>h.c2 x (fun hm=>hx (List.mem_append.2 (Or.inl hm)))⟩
 ·by_cases hi:i<D.length
  ·rw[List.getElem?_append_left hi] at hx;exact h.vec i x hx
  ·by_cases e2:i=D.length
   ·subst e2
    simp at hx
    subst hx
    rw[hE.len,hk0]
    exact ⟨fun h5=>(by cases h5),fun h3=>absurd h3 (h.notin hd h1)⟩
   ·rw[List.getElem?_eq_none (by simp;omega)] at hx;cases hx
 ·by_cases hi:x<es.length
  ·rw[List.getElem?_append_left hi] at hx;exact h.cl x y i hx hk hs
  ·rw[getD_len (by omega)] at hk;cases hk
 ·by_cases hi:i<D.length
  ·rw[List.getElem?_append_left hi] at hx
   have hie:i<es.length:=by rw[<- hE.len];exact hi
   rw[alive_app hl hie,List.getElem?_append_left hie]
   exact h.c1 i x hx
  ·by_cases e2:i=D.length
   ·subst e2
    simp at hx
    subst hx
    have ha:¬alive (es ++ [e]) known D.length=true:=fun ha=>by
     have:=((alive_iff _ _ _).1 ha).2.1
     rw[hE.len,hk0] at this;cases this
    rw[if_neg ha]
    exact h.c2 _ hd
   ·rw[List.getElem?_eq_none (by simp;omega)] at hx;cases hx

theorem Kn.mine (h:Kn es D known K C) (hE:EvD es D n) (e:Ev) (c:Thk.Ch) (hc:chOf e=c) (hs:e.saw=known) (a:Nat) (hK:K a+1<=500) (hd:mkD a (K a+1) ∉ D) :
  Kn (es ++ [e]) (D ++ [mkD a (K a+1)]) (moreOf known es.length) (inc K a) (stepC C c (mkD a (K a+1))):=by
 have hl:=h.len
 have hg:=moreOf_getD known es.length hl
 have hnl:known.getD es.length false=false:=getD_len hl
 obtain ⟨d,hdd⟩:∃ d,d=mkD a (K a+1):=⟨_,rfl⟩
 have hw:who d=a:=by rw[hdd];exact who_mk (by omega)
 have hn:nth d=K a+1:=by rw[hdd];exact nth_mk (by omega)
 rw[<- hdd] at hd ⊢
 have hel:(es ++ [e])[es.length]? = some e:=by simp
 have hlt:∀ i x,(D ++ [d])[i]? = some x->(i<D.length/\D[i]? = some x)\/(i=D.length/\x=d):=fun i x hx=>by
  by_cases hi:i<D.length
  ·rw[List.getElem?_append_left hi] at hx;exact Or.inl ⟨hi,hx⟩
  ·by_cases e2:i=D.length
   ·subst e2;simp at hx;exact Or.inr ⟨rfl,hx.symm⟩
   ·rw[List.getElem?_eq_none (by simp;omega)] at hx;cases hx
 refine ⟨by rw[moreOf_length _ _ hl];simp,fun i x hx=>?_,fun x m h2 h3=>?_,fun x y i hx hk hsw=>?_,fun i x hx=>?_,fun x hx=>?_⟩
 ·rcases hlt i x hx with ⟨hi,hx⟩ | ⟨rfl,rfl⟩
  ·have:¬i=es.length:=by rw[<- hE.len];omega
   rw[hg,Bool.or_eq_true,h.vec i x hx]
   simp only[this,decide_false,Bool.false_eq_true,or_false]
   by_cases e3:who x=a
   ·rw[e3,inc_same]
    refine ⟨fun h=>by omega,fun h4=>?_⟩
    by_cases e4:nth x=K a+1
    ·exact absurd (List.mem_of_getElem? hx) (by rw[dot_ext (x:=x) (y:=d) (by rw[e3,hw]) (by rw[e4,hn])];exact hd)
    ·omega
   ·rw[inc_oth e3]
  ·rw[hg,hw,inc_same,hn,hE.len]
   simp
 ·by_cases e3:x=a
  ·subst e3
   rw[inc_same] at h3
   by_cases e4:m=K x+1
   ·rw[e4,<- hdd];exact ⟨by omega,by simp⟩
   ·obtain ⟨q1,q2⟩:=h.all x m h2 (by omega)
    exact ⟨q1,List.mem_append.2 (Or.inl q2)⟩
  ·rw[inc_oth e3] at h3
   obtain ⟨q1,q2⟩:=h.all x m h2 h3
   exact ⟨q1,List.mem_append.2 (Or.inl q2)⟩
 ·rw[hg,Bool.or_eq_true] at hk ⊢
  by_cases hi:x<es.length
  ·rw[List.getElem?_append_left hi] at hx
   rcases hk with hk | hk
   ·exact Or.inl (h.cl x y i hx hk hsw)
   ·rw[decide_eq_true_eq] at hk;omega
  ·by_cases e2:x=es.length
   ·subst e2
    rw[hel] at hx
    cases hx
    rw[hs] at hsw
    exact Or.inl hsw
   ·rw[List.getElem?_eq_none (by simp;omega)] at hx;cases hx
 ·rcases hlt i x hx with ⟨hi,hx⟩ | ⟨rfl,rfl⟩
  ·have hxd:¬x=d:=fun e2=>hd (e2 ▸ List.mem_of_getElem? hx)
   have hil:i<es.length:=by rw[<- hE.len];exact hi
   have hei:es[i]? = some es[i]:=List.getElem?_eq_getElem hil
   unfold stepC
   rw[if_neg hxd,h.c1 i x hx,List.getElem?_append_left hil,hei]
   have hne:¬i=es.length:=by omega
   have hcv:covs (es ++ [e]) i es.length=(known.getD i false && covB (toL e.p) e.a (toL e.v) (toL es[i].p) es[i].a (toL es[i].v)):=by
    unfold covs
    rw[hel,List.getElem?_append_left hil,hei]
    simp only[]
    rw[hs]
   have hco:∀ j,j<es.length->covs (es ++ [e]) i j=covs es i j:=fun j hj=>by
    unfold covs;rw[List.getElem?_append_left hj,List.getElem?_append_left hil]
   have hcc:covC c.path c.act (toL (keptVal c.act ⟨c.val.toArray⟩)) (chOf es[i])=covB (toL e.p) e.a (toL e.v) (toL es[i].p) es[i].a (toL es[i].v):=by
    subst hc
    exact covB_kept _ _ _ _ _ _
   have ha:alive (es ++ [e]) (moreOf known es.length) i=true↔alive es known i=true/\covB (toL e.p) e.a (toL e.v) (toL es[i].p) es[i].a (toL es[i].v)=false:=by
    rw[alive_iff,alive_iff,List.getElem?_append_left hil,hg]
    simp only[hne,decide_false,Bool.or_false,List.length_append,List.length_singleton]
    constructor
    ·rintro ⟨h1,h2,h3⟩
     refine ⟨⟨h1,h2,fun j hj hj2 hkj=>?_⟩, ?_⟩
     ·rw[<- hco j hj2];exact h3 j hj (by omega) (by rw[hg,hkj];rfl)
     ·have:=h3 es.length hil (by omega) (by rw[hg];simp)
      rw[hcv,h2] at this
      simpa using this
    ·rintro ⟨⟨h1,h2,h3⟩,h4⟩
     refine ⟨h1,h2,fun j hj hj2 hkj=>?_⟩
     by_cases e5:j=es.length
     ·subst e5;rw[hcv,h4];simp
     ·rw[hco j (by omega)]
      rw[hg] at hkj
      simp only[e5,decide_false,Bool.or_false] at hkj
      exact h3 j hj (by omega) hkj
   by_cases hal:alive es known i=true
   ·rw[if_pos hal]
    simp only[Option.map_some,hcc]
    cases hcb:covB (toL e.p) e.a (toL e.v) (toL es[i].p) es[i].a (toL es[i].v) with
    | true=>rw[if_pos rfl,if_neg (fun h5=>by rw[(ha.1 h5).2] at hcb;cases hcb)]
    | false=>rw[if_neg (by simp),if_pos (ha.2 ⟨hal,hcb⟩)]
   ·rw[if_neg hal,if_neg (fun h5=>hal (ha.1 h5).1)]
  ·unfold stepC
   have ha:alive (es ++ [e]) (moreOf known es.length) D.length=true↔effB e.a=true:=by
    rw[alive_iff,hE.len,hel,hg]
    simp only[List.length_append,List.length_singleton]
    constructor
    ·rintro ⟨⟨y,hy,h1⟩,_⟩
     cases hy;exact h1
    ·intro h1
     exact ⟨⟨e,rfl,h1⟩,by simp,fun j hj hj2 _=>by omega⟩
   have hel2:(es ++ [e])[D.length]? = some e:=by rw[hE.len];exact hel
   rw[if_pos rfl,hel2]
   subst hc
   by_cases h5:effB e.a=true
   ·rw[if_pos (ha.2 h5)]
    exact if_pos h5
   ·rw[if_neg (fun h6=>h5 (ha.1 h6))]
    exact if_neg h5
 ·unfold stepC
  rw[List.mem_append,List.mem_singleton] at hx
  rw[if_neg (fun h5=>hx (Or.inr h5)),h.c2 x (fun h5=>hx (Or.inl h5))]

end

theorem ltB_iff:∀ (a b:Thk.Bs),Thk.ltB a b=true↔a<b
 | [],[]=>by simp[Thk.ltB]
 | [],_ :: _=>by simp[Thk.ltB]
 | _ :: _,[]=>by simp[Thk.ltB]
 | a :: l,b :: m=>by
  rw[Thk.ltB,List.cons_lt_cons_iff,<- ltB_iff l m]
  simp only[Bool.or_eq_true,Bool.and_eq_true,decide_eq_true_eq,beq_iff_eq,UInt8.lt_iff_toNat_lt]
theorem ltB_irr:∀ a:Thk.Bs,Thk.ltB a a=false
 | []=>rfl
 | a :: l=>by rw[Thk.ltB,ltB_irr l];simp
theorem ltB_trans:∀ (a b c:Thk.Bs),Thk.ltB a b=true->Thk.ltB b c=true->Thk.ltB a c=true
 | [],[],_,h,_=>by simp[Thk.ltB] at h
 | [],_ :: _,[],_,h=>by simp[Thk.ltB] at h
 | [],_ :: _,_ :: _,_,_=>rfl
 | _ :: _,[],_,h,_=>by simp[Thk.ltB] at h
 | _ :: _,_ :: _,[],_,h=>by simp[Thk.ltB] at h
 | a :: l,b :: m,c :: n,h1,h2=>by
  simp only[Thk.ltB,Bool.or_eq_true,Bool.and_eq_true,decide_eq_true_eq,beq_iff_eq] at h1 h2 ⊢
  rcases h1 with h1 | ⟨rfl,h1⟩
  ·rcases h2 with h2 | ⟨rfl,h2⟩
   ·exact Or.inl (by omega)
   ·exact Or.inl h1
  ·rcases h2 with h2 | ⟨rfl,h2⟩
   ·exact Or.inl h2
   ·exact Or.inr ⟨rfl,ltB_trans l m n h1 h2⟩
theorem ltB_tri:∀ (a b:Thk.Bs),Thk.ltB a b=true\/a=b\/Thk.ltB b a=true
 | [],[]=>Or.inr (Or.inl rfl)
 | [],_ :: _=>Or.inl rfl
 | _ :: _,[]=>Or.inr (Or.inr rfl)
 | a :: l,b :: m=>by
  simp only[Thk.ltB,Bool.or_eq_true,Bool.and_eq_true,decide_eq_true_eq,beq_iff_eq]
  by_cases h:a.toNat<b.toNat
  ·exact Or.inl (Or.inl h)
  ·by_cases h2:b.toNat<a.toNat
   ·exact Or.inr (Or.inr (Or.inl h2))
   ·have e:a=b:=UInt8.toNat_inj.1 (by omega)
    subst e
    rcases ltB_tri l m with h3 | h3 | h3
    ·exact Or.inl (Or.inr ⟨rfl,h3⟩)
    ·exact Or.inr (Or.inl (by rw[h3]))
    ·exact Or.inr (Or.inr (Or.inr ⟨rfl,h3⟩))
theorem le_ltB (a b:Thk.Bs):decide (a<=b) = !Thk.ltB b a:=by
 have h:=ltB_iff b a
 by_cases h1:b<a
 ·have:¬a<=b:=fun h2=>h2 h1
  rw[h.2 h1];simp[this]
 ·have h2:a<=b:=h1
  have h3:Thk.ltB b a=false:=by rw[<- Bool.not_eq_true];exact fun h4=>h1 (h.1 h4)
  rw[h3];simp[h2]

def SortL (l:List Thk.Bs):Prop:=l.Pairwise fun a b=>Thk.ltB a b=true
theorem SortL.nodup {l:List Thk.Bs} (h:SortL l):l.Nodup:=List.Pairwise.imp (fun {a b} h e=>by rw[e,ltB_irr] at h;cases h) h
theorem sort_unique {l m:List Thk.Bs} (h1:SortL l) (h2:SortL m) (h:∀ x,x∈l↔x∈m):l=m :=
 List.Perm.eq_of_pairwise (fun a b _ _ h3 h4=>by have:=ltB_trans _ _ _ h3 h4;rw[ltB_irr] at this;cases this) h1 h2 ((List.perm_ext_iff_of_nodup h1.nodup h2.nodup).2 h)

theorem compact_sort {zs:List Thk.Bs} (hs:zs.Pairwise fun a b=>Thk.ltB b a=false):SortL (Lib.compact zs)/\∀ x,x∈Lib.compact zs↔x∈zs:=by
 have hget:∀ j,j<zs.length->zs.toArray[j]! = zs.getD j []:=fun j hj=>by simp[hj]
 have hle:∀ i j,i<j->j<zs.length->Thk.ltB (zs.getD j []) (zs.getD i [])=false:=fun i j hij hj=>by
  have:=(List.pairwise_iff_getElem.1 hs) i j (by omega) hj hij
  rw[List.getD_eq_getElem?_getD,List.getD_eq_getElem?_getD,List.getElem?_eq_getElem hj,List.getElem?_eq_getElem (show i<zs.length by omega)]
  exact this
 constructor
 ·unfold SortL Lib.compact Lib.compactUpTo
  rw[List.pairwise_map]
  have hf:((List.range zs.length).filter (Lib.keeps zs.toArray)).Pairwise (· < ·):=List.Pairwise.filter _ List.pairwise_lt_range
  refine List.Pairwise.imp_of_mem ?_ hf
  intro i j hi hj hij
  rw[List.mem_filter,List.mem_range] at hi hj
  have hk:=hj.2
  unfold Lib.keeps at hk
  simp only[decide_eq_true_eq] at hk
  have hne:zs.toArray[j]!≠zs.toArray[j-1]!:=by rcases hk with h | h;omega;exact h
  rw[hget j hj.1,hget (j-1) (by omega)] at hne
  rw[hget i hi.1,hget j hj.1]
  have h1:Thk.ltB (zs.getD (j-1) []) (zs.getD j [])=true:=by
   rcases ltB_tri (zs.getD (j-1) []) (zs.getD j []) with h | h | h
   ·exact h
   ·exact absurd h.symm hne
   ·rw[hle (j-1) j (by omega) hj.1] at h;cases h
  by_cases e:i=j-1
  ·rw[e];exact h1
  ·rcases ltB_tri (zs.getD i []) (zs.getD (j-1) []) with h | h | h
   ·exact ltB_trans _ _ _ h h1
   ·rw[h];exact h1
   ·rw[hle i (j-1) (by omega) (by omega)] at h;cases h
 ·intro x
  unfold Lib.compact Lib.compactUpTo
  constructor
  ·intro hx
   obtain ⟨i,hi,rfl⟩:=List.mem_map.1 hx
   rw[List.mem_filter,List.mem_range] at hi
   rw[hget i hi.1,List.getD_eq_getElem?_getD,List.getElem?_eq_getElem hi.1]
   exact List.getElem_mem _
  ·intro hx
   obtain ⟨j,hj,rfl⟩:=List.getElem_of_mem hx
   have key:∀ j (hj:j<zs.length),zs[j]∈((List.range zs.length).filter (Lib.keeps zs.toArray)).map (zs.toArray[·]!):=by
    intro j
    induction j with
    | zero=>intro hj;exact List.mem_map.2 ⟨0,List.mem_filter.2 ⟨List.mem_range.2 hj,by simp[Lib.keeps]⟩,by rw[hget 0 hj,List.getD_eq_getElem?_getD,List.getElem?_eq_getElem hj];rfl⟩
    | succ j ih =>
     intro hj
     by_cases hk:Lib.keeps zs.toArray (j+1)=true
     ·exact List.mem_map.2 ⟨j+1,List.mem_filter.2 ⟨List.mem_range.2 hj,hk⟩,by rw[hget _ hj,List.getD_eq_getElem?_getD,List.getElem?_eq_getElem hj];rfl⟩
     ·have h3:zs.toArray[j+1]! = zs.toArray[j]!:=by
       unfold Lib.keeps at hk
       simp only[decide_eq_true_eq,not_or,ne_eq,Decidable.not_not] at hk
       exact hk.2
      rw[hget _ hj,hget j (by omega),List.getD_eq_getElem?_getD,List.getD_eq_getElem?_getD,List.getElem?_eq_getElem hj,List.getElem?_eq_getElem (show j<zs.length by omega)] at h3
      have:=ih (by omega)
      rw[show zs[j+1]=zs[j] from h3]
      exact this
   exact key j hj

theorem ins_mem (l:List Thk.Bs) (s x:Thk.Bs):x∈Thk.ins l s↔x=s\/x∈l:=by
 induction l with
 | nil=>simp[Thk.ins]
 | cons y r ih =>
  unfold Thk.ins
  split
  ·rename_i h;subst h;simp
  ·split
   ·simp
   ·simp only[List.mem_cons,ih]
    constructor
    ·rintro (h | h | h)
     ·exact Or.inr (Or.inl h)
     ·exact Or.inl h
     ·exact Or.inr (Or.inr h)
    ·rintro (h | h | h)
     ·exact Or.inr (Or.inl h)
     ·exact Or.inl h
     ·exact Or.inr (Or.inr h)
theorem ins_sort {l:List Thk.Bs} (h:SortL l) (s:Thk.Bs):SortL (Thk.ins l s):=by
 induction l with
 | nil=>exact List.pairwise_singleton _ _
 | cons y r ih =>
  have h1:=List.pairwise_cons.1 h
  unfold Thk.ins
  split
  ·exact h
  ·split
   ·rename_i h2 h3
    exact List.pairwise_cons.2 ⟨fun a ha=>by
     rcases List.mem_cons.1 ha with e | ha
     ·rw[e];exact h3
     ·exact ltB_trans _ _ _ h3 (h1.1 a ha),h⟩
   ·rename_i h2 h3
    refine List.pairwise_cons.2 ⟨fun a ha=>?_,ih h1.2⟩
    rcases (ins_mem r s a).1 ha with e | ha
    ·rw[e]
     rcases ltB_tri y s with h4 | h4 | h4
     ·exact h4
     ·exact absurd h4.symm h2
     ·exact absurd h4 h3
    ·exact h1.1 a ha

theorem less_ltB:∀ (a b:Thk.Bs),Op.bytesLess a b=Thk.ltB a b
 | [],[]=>rfl
 | [],_ :: _=>rfl
 | _ :: _,[]=>rfl
 | a :: l,b :: m=>by
  rw[Op.bytesLess,Thk.ltB,less_ltB l m]
  simp[UInt8.lt_iff_toNat_lt]

theorem withStep_done (s:Thk.Bs):∀ (l o:List Thk.Bs),(∀ x∈l,x≠s)->l.foldl (withStep s) (o,true)=(o ++ l,true)
 | [],o,_=>by simp
 | x :: r,o,h=>by
  have hx:x≠s:=h x (by simp)
  rw[List.foldl_cons]
  have e:withStep s (o,true) x=(o ++ [x],true):=by unfold withStep;simp[hx]
  rw[e,withStep_done s r _ (fun y hy=>h y (by simp[hy]))]
  simp
theorem withL_ins (s:Thk.Bs):∀ (l o:List Thk.Bs),SortL l->(if (l.foldl (withStep s) (o,false)).2 then (l.foldl (withStep s) (o,false)).1 else (l.foldl (withStep s) (o,false)).1 ++ [s])=o ++ Thk.ins l s
 | [],o,_=>by simp[Thk.ins]
 | x :: r,o,h=>by
  have h1:=List.pairwise_cons.1 h
  rw[List.foldl_cons]
  unfold Thk.ins
  by_cases e:s=x
  ·subst e
   have e2:withStep s (o,false) s=(o ++ [s],true):=by unfold withStep;simp
   rw[e2,withStep_done s r _ (fun y hy he=>by have:=h1.1 y hy;rw[he,ltB_irr] at this;cases this)]
   simp
  ·rw[if_neg e]
   cases hlt:Thk.ltB s x with
   | true =>
    have e2:withStep s (o,false) x=(o ++ [s] ++ [x],true):=by unfold withStep;rw[less_ltB,hlt];simp[Ne.symm e]
    rw[e2,withStep_done s r _ (fun y hy he=>by have:=ltB_trans _ _ _ hlt (h1.1 y hy);rw[he,ltB_irr] at this;cases this)]
    simp
   | false =>
    have e3:(s == x)=false:=by simpa using e
    have e2:withStep s (o,false) x=(o ++ [x],false):=by unfold withStep;rw[less_ltB,hlt,e3];simp[Ne.symm e]
    rw[e2,withL_ins s r _ h1.2]
    simp
theorem withL_eq {l:List Thk.Bs} (h:SortL l) (s:Thk.Bs):withL l s=Thk.ins l s:=by
 have:=withL_ins s l [] h
 unfold withL
 rw[this];simp
theorem fold_with:∀ (L l:List Thk.Bs),SortL l->SortL (L.foldl withL l)/\∀ x,x∈L.foldl withL l↔x∈l\/x∈L
 | [],l,h=>⟨h,fun x=>by simp⟩
 | s :: L,l,h=>by
  rw[List.foldl_cons,withL_eq h s]
  obtain ⟨h1,h2⟩:=fold_with L (Thk.ins l s) (ins_sort h s)
  refine ⟨h1,fun x=>?_⟩
  rw[h2,ins_mem]
  simp only[List.mem_cons]
  constructor
  ·rintro ((h | h) | h)
   ·exact Or.inr (Or.inl h)
   ·exact Or.inl h
   ·exact Or.inr (Or.inr h)
  ·rintro (h | h | h)
   ·exact Or.inl (Or.inr h)
   ·exact Or.inl (Or.inl h)
   ·exact Or.inr h
theorem joinTo_cons (x:Thk.Bs) (r:List Thk.Bs):∀ k,k<=r.length->Thk.joinTo (x :: r) (k+1)=x ++ Lib.joinTail [44] (r.take k)
 | 0,_=>by simp[Thk.joinTo,Lib.joinTail]
 | k+1,h=>by
  have hk:k<r.length:=by omega
  rw[Thk.joinTo,if_neg (by omega),joinTo_cons x r k (by omega),Lib.joinTail_take_succ [44] r k r[k] (List.getElem?_eq_getElem hk)]
  have:(x :: r).getD (k+1) []=r[k]:=by simp[hk]
  rw[this];simp
theorem joinTo_join (l:List Thk.Bs):Thk.joinTo l l.length=Lib.join l [44]:=by
 cases l with
 | nil=>rfl
 | cons x r=>rw[List.length_cons,joinTo_cons x r _ (Nat.le_refl _),List.take_length,Lib.join_cons]
theorem list_eq (L L':List Thk.Bs) (h:∀ x,x∈L↔x∈L'):Thk.joinTo (L.foldl withL []) (L.foldl withL []).length=listB L':=by
 rw[joinTo_join]
 unfold listB
 obtain ⟨h1,h2⟩:=fold_with L [] List.Pairwise.nil
 have hs:(L'.mergeSort fun x y=>decide (x<=y)).Pairwise fun a b=>Thk.ltB b a=false:=by
  have:=List.pairwise_mergeSort (le:=fun x y:Thk.Bs=>decide (x<=y)) (fun a b c=>?_) (fun a b=>?_) L'
  ·refine List.Pairwise.imp ?_ this
   intro a b hab
   rw[le_ltB] at hab
   simpa using hab
  ·rw[le_ltB,le_ltB,le_ltB]
   intro h3 h4
   simp only[Bool.not_eq_true'] at h3 h4 ⊢
   rcases ltB_tri a b with h5 | h5 | h5
   ·rcases ltB_tri b c with h6 | h6 | h6
    ·have:=ltB_trans _ _ _ h5 h6
     rw[<- Bool.not_eq_true];intro h7
     have:=ltB_trans _ _ _ this h7
     rw[ltB_irr] at this;cases this
    ·subst h6;exact h3
    ·rw[h4] at h6;cases h6
   ·subst h5;exact h4
   ·rw[h3] at h5;cases h5
  ·rw[le_ltB,le_ltB]
   rcases ltB_tri a b with h5 | h5 | h5
   ·have:Thk.ltB b a=false:=by
     rw[<- Bool.not_eq_true];intro h7
     have:=ltB_trans _ _ _ h5 h7
     rw[ltB_irr] at this;cases this
    simp[this]
   ·subst h5;simp[ltB_irr]
   ·have:Thk.ltB a b=false:=by
     rw[<- Bool.not_eq_true];intro h7
     have:=ltB_trans _ _ _ h5 h7
     rw[ltB_irr] at this;cases this
    simp[this]
 obtain ⟨h3,h4⟩:=compact_sort hs
 rw[sort_unique h1 h3 (fun x=>by rw[h2,h4,(List.mergeSort_perm L' _).mem_iff,<- h];simp)]

def key (x:Itm):Thk.Bs × Int × Thk.Bs × Int:=(toL x.p,x.a,toL x.v,x.m)
def keyEv (e:Ev):Thk.Bs × Int × Thk.Bs × Int:=(toL e.p,(e.a.toNat:Int),toL (keptVal e.a e.v),e.n)
def evsOf (es:List Ev) (al:List Nat):List Ev:=al.filterMap (es[·]?)

theorem perm_sum {l m:List Int} (h:l.Perm m):l.sum=m.sum:=by
 induction h with
 | nil=>rfl
 | cons x _ ih=>simp[ih]
 | swap x y l=>simp only[List.sum_cons];omega
 | trans _ _ h1 h2=>exact h1.trans h2
theorem nodup_le:∀ {l m:List Nat},l.Nodup->(∀ x∈l,x∈m)->l.length<=m.length
 | [],_,_,_=>Nat.zero_le _
 | x :: l,m,hn,h=>by
  obtain ⟨m1,m2,rfl⟩:=List.append_of_mem (h x (by simp))
  rw[List.nodup_cons] at hn
  have:=nodup_le (m:=m1 ++ m2) hn.2 (fun y hy=>by
   have h1:=h y (by simp[hy])
   have h2:y≠x:=fun e=>hn.1 (e ▸ hy)
   simp only[List.mem_append,List.mem_cons] at h1 ⊢
   rcases h1 with h1 | h1 | h1
   ·exact Or.inl h1
   ·exact absurd h1 h2
   ·exact Or.inr h1)
  simp only[List.length_append,List.length_cons] at this ⊢
  omega
section
variable {es:List Ev} {D:List Nat} {n:Nat} {known:List Bool} {K:Nat->Nat} {C:Nat->Option Thk.Ch}
theorem getD_D {D:List Nat} {i:Nat} (hi:i<D.length):D[i]? = some (D.getD i 0):=by simp[hi]
theorem D_inj (hE:EvD es D n) {i j:Nat} (hi:i<D.length) (hj:j<D.length) (h:D.getD i 0=D.getD j 0):i=j:=by
 have h1:D[i]=D[j]:=by
  rw[List.getD_eq_getElem?_getD,List.getD_eq_getElem?_getD,List.getElem?_eq_getElem hi,List.getElem?_eq_getElem hj] at h
  exact h
 have hp:=List.pairwise_iff_getElem.1 hE.nd
 rcases Nat.lt_trichotomy i j with h2 | h2 | h2
 ·exact absurd h1 (hp i j hi hj h2)
 ·exact h2
 ·exact absurd h1.symm (hp j i hj hi h2)
theorem nodup_mapD (hE:EvD es D n) {l:List Nat} (hl:l.Nodup) (hb:∀ i∈l,i<D.length):(l.map fun i=>D.getD i 0).Nodup:=by
 unfold List.Nodup
 rw[List.pairwise_map]
 refine List.Pairwise.imp_of_mem ?_ hl
 intro a b ha hb' hab e
 exact hab (D_inj hE (hb a ha) (hb b hb') e)

theorem Kn.perm (h:Kn es D known K C) (hE:EvD es D n) {xs:List Itm} (hx:SAll (itOf C) xs):(xs.map key).Perm ((evsOf es (aliveTo es known es.length)).map keyEv):=by
 obtain ⟨⟨hnd,hmem⟩,hat⟩:=hx
 have hal:∀ i,i∈aliveTo es known es.length↔i<D.length/\alive es known i=true:=fun i=>by unfold aliveTo;rw[List.mem_filter,List.mem_range,hE.len]
 have hp:(xs.map Itm.n).Perm ((aliveTo es known es.length).map fun i=>D.getD i 0):=by
  refine (List.perm_ext_iff_of_nodup hnd ?_).2 fun d=>?_
  ·exact nodup_mapD hE (List.Pairwise.filter _ List.nodup_range) (fun i hi=>((hal i).1 hi).1)
  ·rw[hmem,itOf_none,List.mem_map]
   constructor
   ·intro hc
    obtain ⟨i,e,h1,h2,_⟩:=h.sup hc
    have hi:i<D.length:=by
     rcases Nat.lt_or_ge i D.length with h5 | h5
     ·exact h5
     ·rw[List.getElem?_eq_none h5] at h1;cases h1
    exact ⟨i,(hal i).2 ⟨hi,h2⟩,by rw[getD_D hi] at h1;exact Option.some.inj h1⟩
   ·rintro ⟨i,hi,rfl⟩
    obtain ⟨h1,h2⟩:=(hal i).1 hi
    rw[h.c1 i _ (getD_D h1),if_pos h2]
    obtain ⟨⟨y,hy,_⟩,_⟩:=(alive_iff es known i).1 h2
    rw[hy];simp
 have hk:∀ x∈xs,key x=(match C x.n with | some c=>(c.path,(c.act.toNat:Int),toL (keptVal c.act ⟨c.val.toArray⟩),c.n) | none=>([],0,[],0)):=fun x hx=>by
  have h3:=hat x hx
  obtain ⟨c,hc,hv⟩:=itOf_v h3
  rw[hc]
  unfold chV at hv
  simp only[Value.agg.injEq,Array.mk.injEq,List.cons.injEq,Value.string.injEq,Value.int.injEq,true_and,and_true] at hv
  obtain ⟨q1,q2,q3,q4⟩:=hv
  unfold key
  rw[q1,q2,q3,q4]
  rfl
 have hl:xs.map key=(xs.map Itm.n).map fun d=>(match C d with | some c=>(c.path,(c.act.toNat:Int),toL (keptVal c.act ⟨c.val.toArray⟩),c.n) | none=>([],0,[],0)):=by
  rw[List.map_map]
  exact List.map_congr_left hk
 have hr:(evsOf es (aliveTo es known es.length)).map keyEv=((aliveTo es known es.length).map fun i=>D.getD i 0).map fun d=>(match C d with | some c=>(c.path,(c.act.toNat:Int),toL (keptVal c.act ⟨c.val.toArray⟩),c.n) | none=>([],0,[],0)):=by
  unfold evsOf
  generalize aliveTo es known es.length=al at hal
  have hal':∀ i∈al,i<D.length/\alive es known i=true:=fun i hi=>(hal i).1 hi
  clear hal hp
  induction al with
  | nil=>rfl
  | cons i r ih =>
   obtain ⟨h1,h2⟩:=hal' i (by simp)
   obtain ⟨⟨y,hy,_⟩,_⟩:=(alive_iff es known i).1 h2
   have hc:=h.c1 i _ (getD_D h1)
   rw[if_pos h2,hy] at hc
   rw[List.filterMap_cons,hy]
   simp only[List.map_cons]
   rw[ih (fun j hj=>hal' j (by simp[hj])),hc]
   simp only[Option.map_some,chOf,keyEv,mk_toL]
 rw[hl,hr]
 exact hp.map _
theorem Kn.dle (h:Kn es D known K C) (hE:EvD es D n) (x:Nat):K x<=es.length:=by
 have:((List.range (K x)).map fun m=>mkD x (m+1)).length<=D.length:=by
  refine nodup_le ?_ (fun d hd=>?_)
  ·unfold List.Nodup
   rw[List.pairwise_map]
   refine List.Pairwise.imp_of_mem ?_ List.nodup_range
   intro a b ha hb hab e
   rw[List.mem_range] at ha hb
   have h1:=(h.all x (a+1) (by omega) (by omega)).1
   have h2:=(h.all x (b+1) (by omega) (by omega)).1
   have:=congrArg nth e
   rw[nth_mk h1,nth_mk h2] at this
   omega
  ·rw[List.mem_map] at hd
   obtain ⟨m,hm,rfl⟩:=hd
   rw[List.mem_range] at hm
   exact (h.all x (m+1) (by omega) (by omega)).2
 rw[List.length_map,List.length_range,hE.len] at this
 exact this
theorem sumTo_len (K:Nat->Nat):∀ n,((List.range n).flatMap fun x=>(List.range (K x)).map fun m=>mkD x (m+1)).length=sumTo K n
 | 0=>rfl
 | n+1=>by rw[List.range_succ,List.flatMap_append,List.length_append,sumTo_len K n];simp[sumTo]
theorem dots_nodup (K:Nat->Nat) (hK:∀ x,K x<=500):∀ n,((List.range n).flatMap fun x=>(List.range (K x)).map fun m=>mkD x (m+1)).Nodup
 | 0=>by simp
 | n+1=>by
  rw[List.range_succ,List.flatMap_append,List.nodup_append]
  refine ⟨dots_nodup K hK n, ?_,fun a ha b hb e=>?_⟩
  ·simp only[List.flatMap_cons,List.flatMap_nil,List.append_nil]
   unfold List.Nodup
   rw[List.pairwise_map]
   refine List.Pairwise.imp_of_mem ?_ List.nodup_range
   intro a b ha hb hab e
   rw[List.mem_range] at ha hb
   have:=hK n
   have:=congrArg nth e
   rw[nth_mk (by omega),nth_mk (by omega)] at this
   omega
  ·simp only[List.mem_flatMap,List.mem_range,List.mem_map,List.flatMap_cons,List.flatMap_nil,List.append_nil] at ha hb
   obtain ⟨x,hx,m,hm,rfl⟩:=ha
   obtain ⟨m2,hm2,rfl⟩:=hb
   have:=hK n
   have:=hK x
   have:=congrArg who e
   rw[who_mk (by omega),who_mk (by omega)] at this
   omega
theorem Kn.size (h:Kn es D known K C) (hE:EvD es D n) (hn:n<=6) (hK:∀ x,K x<=500):cnt known=sizeK K:=by
 unfold sizeK
 rw[<- cnt_range known es.length h.len,<- sumTo_len]
 have hp:(((List.range es.length).filter (fun k=>known.getD k false)).map fun i=>D.getD i 0).Perm ((List.range 6).flatMap fun x=>(List.range (K x)).map fun m=>mkD x (m+1)):=by
  refine (List.perm_ext_iff_of_nodup (nodup_mapD hE (List.Pairwise.filter _ List.nodup_range) (fun i hi=>by rw[List.mem_filter,List.mem_range] at hi;rw[hE.len];exact hi.1)) (dots_nodup K hK 6)).2 fun d=>?_
  simp only[List.mem_map,List.mem_filter,List.mem_range,List.mem_flatMap]
  constructor
  ·rintro ⟨i,⟨hi,hk⟩,rfl⟩
   have hi':i<D.length:=by rw[hE.len];exact hi
   have h1:=(h.vec i _ (getD_D hi')).1 hk
   have h2:=hE.ok _ (List.mem_of_getElem? (getD_D hi'))
   exact ⟨who (D.getD i 0),by omega,nth (D.getD i 0)-1,by omega,by rw[show nth (D.getD i 0)-1+1=nth (D.getD i 0) by omega,mk_wn]⟩
  ·rintro ⟨x,hx,m,hm,rfl⟩
   obtain ⟨h1,h2⟩:=h.all x (m+1) (by omega) (by omega)
   obtain ⟨i,hi,he⟩:=List.getElem_of_mem h2
   have he':D[i]? = some (mkD x (m+1)):=by rw[List.getElem?_eq_getElem hi,he]
   have hd:D.getD i 0=mkD x (m+1):=by rw[List.getD_eq_getElem?_getD,he'];(first | done | rfl)
   refine ⟨i,⟨by rw[<- hE.len];exact hi,(h.vec i _ he').2 ?_⟩,hd⟩
   rw[who_mk h1,nth_mk h1]
   omega
 have:=hp.length_eq
 rw[List.length_map] at this
 exact this
end

theorem tellR_evs (es:List Ev) (al:List Nat) (path:Thk.Bs):tellR es al path=tellB (Thk.kindOf path) ((evsOf es al).foldl (tstep (Thk.kindOf path) path) ⟨[],0,false⟩):=by
 unfold tellR evsOf
 congr 1
 generalize (⟨[],0,false⟩:TSt)=st
 induction al generalizing st with
 | nil=>rfl
 | cons i r ih =>
  rw[List.foldl_cons,ih,List.filterMap_cons]
  cases es[i]? <;> rfl

theorem fold_m (k:UInt8) (path:Thk.Bs) (hk:(k.toNat:Int)=109):∀ (evs:List Ev) (st:TSt),(∀ e∈evs,toL e.p≠path)->(evs.foldl (tstep k path) st).l=((evs.filter fun e=>(path ++ [47]).isPrefixOf (toL e.p)).map fun e=>stepSeg path (toL e.p)).foldl withL st.l
 | [],_,_=>rfl
 | e :: r,st,h=>by
  have hne:=h e (by simp)
  have hb:=begins_prefix (toL e.p) path
  have h1:(toL e.p == path)=false:=by simpa using hne
  rw[List.foldl_cons,fold_m k path hk r _ (fun y hy=>h y (by simp[hy])),List.filter_cons]
  unfold tstep
  rw[hb,h1]
  cases hp:(path ++ [47]).isPrefixOf (toL e.p)
  ·simp
  ·simp[hk,stepSeg]

theorem fold_n (k:UInt8) (path:Thk.Bs) (hk:(k.toNat:Int)≠109):∀ (evs:List Ev) (st:TSt),evs.foldl (tstep k path) st=⟨((evs.filter fun e=>toL e.p == path).map fun e=>toL e.v).foldl withL st.l,st.sum+((evs.filter fun e=>toL e.p == path).map Ev.n).sum,st.some || evs.any fun e=>toL e.p == path⟩
 | [],st=>by simp
 | e :: r,st=>by
  have h1:((k.toNat:Int) == 109)=false:=by simpa using hk
  rw[List.foldl_cons,fold_n k path hk r,List.filter_cons]
  unfold tstep
  rw[h1]
  cases hp:(toL e.p == path)
  ·simp[hp]
  ·simp[hp,Int.add_assoc]

structure EvFit (e:Ev):Prop where
 fit:Thk.fits (Thk.kindOf (toL e.p)) e.a=true
 p:e.p.size<=20
 v:e.v.size<=20
 n1:e.n<=1000000000
 n2:-1000000000<=e.n
theorem atP_eq (p:Thk.Bs) (xs:List Itm):atP ⟨p.toArray⟩ xs=xs.filter fun x=>toL x.p == p:=by
 unfold atP
 congr 1
 funext x
 rw[toList_eq,toList_eq]
 rfl
theorem atP_key (p:Thk.Bs) (xs:List Itm):(atP ⟨p.toArray⟩ xs).map key=(xs.map key).filter fun y=>y.1 == p:=by
 rw[atP_eq,List.filter_map]
 rfl
theorem tell_eq {es:List Ev} {known:List Bool} {xs:List Itm} (path:Thk.Bs) (hf:∀ e∈es,EvFit e) (hp:(xs.map key).Perm ((evsOf es (aliveTo es known es.length)).map keyEv)):tellP path xs=tellR es (aliveTo es known es.length) path:=by
 have hal:∀ e∈evsOf es (aliveTo es known es.length),effB e.a=true/\EvFit e:=by
  intro e he
  unfold evsOf at he
  obtain ⟨i,hi,hei⟩:=List.mem_filterMap.1 he
  unfold aliveTo at hi
  have ha:=(List.mem_filter.1 hi).2
  unfold alive at ha
  rw[hei] at ha
  simp only[Bool.and_eq_true] at ha
  exact ⟨ha.1.1,hf e (List.mem_of_getElem? hei)⟩
 rw[tellR_evs]
 generalize evsOf es (aliveTo es known es.length)=evs at *
 have hkept:∀ e∈evs,toL e.p=path->(Thk.kindOf path).toNat≠109/\((Thk.kindOf path).toNat≠102->(Thk.kindOf path).toNat≠99->keptVal e.a e.v=e.v):=by
  intro e he hpe
  obtain ⟨h1,h2⟩:=hal e he
  have h3:=h2.fit
  rw[hpe] at h3
  unfold Thk.fits at h3
  unfold effB at h1
  simp only[Bool.or_eq_true,beq_iff_eq] at h1
  unfold keptVal
  refine ⟨fun h=>?_,fun h4 h5=>?_⟩
  ·rw[if_neg (by omega),if_neg (by omega),if_neg (by omega),if_neg (by omega)] at h3
   simp only[beq_iff_eq] at h3
   omega
  ·by_cases h6:(Thk.kindOf path).toNat=115
   ·rw[if_pos h6] at h3
    simp only[Bool.or_eq_true,beq_iff_eq] at h3
    rw[if_pos (by omega)]
   ·rw[if_neg h6,if_neg h4] at h3
    by_cases h7:(Thk.kindOf path).toNat=114
    ·rw[if_pos h7] at h3
     simp only[Bool.or_eq_true,beq_iff_eq] at h3
     rw[if_pos (by omega)]
    ·rw[if_neg h7,if_neg h5] at h3
     simp only[beq_iff_eq] at h3
     omega
 have hmem:∀ y,y∈xs.map key↔y∈evs.map keyEv:=fun y=>hp.mem_iff
 unfold tellP tellB
 by_cases k1:(Thk.kindOf path).toNat=109
 ·rw[if_pos k1,if_neg (by omega),if_neg (by omega),fold_m _ path (by omega) evs _ (fun e he hpe=>(hkept e he hpe).1 k1)]
  refine (list_eq _ _ fun s=>?_).symm
  simp only[List.mem_map,stepsOf,List.mem_filter]
  constructor
  ·rintro ⟨e,⟨he,h1⟩,rfl⟩
   obtain ⟨x,hx,hk⟩:=List.mem_map.1 ((hmem _).2 (List.mem_map.2 ⟨e,he,rfl⟩))
   have hpp:toL x.p=toL e.p:=congrArg (·.1) hk
   exact ⟨⟨(stepSeg path (toL x.p)).toArray⟩,⟨x,⟨hx,by rw[hpp];exact h1⟩,rfl⟩,by rw[hpp];rfl⟩
  ·rintro ⟨_,⟨x,⟨hx,h1⟩,rfl⟩,rfl⟩
   obtain ⟨e,he,hk⟩:=List.mem_map.1 ((hmem _).1 (List.mem_map.2 ⟨x,hx,rfl⟩))
   have hpp:toL e.p=toL x.p:=congrArg (·.1) hk
   exact ⟨e,⟨he,by rw[hpp];exact h1⟩,by rw[hpp];rfl⟩
 ·have k1':((Thk.kindOf path).toNat:Int)≠109:=by omega
  rw[if_neg k1,fold_n _ path k1' evs]
  by_cases k2:(Thk.kindOf path).toNat=102
  ·have k2i:((Thk.kindOf path).toNat:Int)=102:=by omega
   rw[if_pos k2,if_pos k2i]
   have:(atP ⟨path.toArray⟩ xs≠[])↔(false || evs.any fun e=>toL e.p == path)=true:=by
    rw[Bool.false_or,List.any_eq_true]
    constructor
    ·intro h
     obtain ⟨x,hx⟩:=List.exists_mem_of_ne_nil _ h
     rw[atP_eq] at hx
     obtain ⟨hx1,hx2⟩:=List.mem_filter.1 hx
     obtain ⟨e,he,hk⟩:=List.mem_map.1 ((hmem _).1 (List.mem_map.2 ⟨x,hx1,rfl⟩))
     have hpp:toL e.p=toL x.p:=congrArg (·.1) hk
     exact ⟨e,he,by rw[hpp];exact hx2⟩
    ·rintro ⟨e,he,h1⟩
     obtain ⟨x,hx,hk⟩:=List.mem_map.1 ((hmem _).2 (List.mem_map.2 ⟨e,he,rfl⟩))
     have hpp:toL x.p=toL e.p:=congrArg (·.1) hk
     refine List.ne_nil_of_mem (a:=x) ?_
     rw[atP_eq]
     exact List.mem_filter.2 ⟨hx,by rw[hpp];exact h1⟩
   by_cases h3:atP ⟨path.toArray⟩ xs≠[]
   ·rw[if_pos h3]
    exact (if_pos (this.1 h3)).symm
   ·rw[if_neg h3]
    exact (if_neg (fun h4=>h3 (this.2 h4))).symm
  ·have k2i:¬((Thk.kindOf path).toNat:Int)=102:=by omega
   rw[if_neg k2,if_neg k2i]
   by_cases k3:(Thk.kindOf path).toNat=99
   ·have k3i:((Thk.kindOf path).toNat:Int)=99:=by omega
    rw[if_pos k3,if_pos k3i,digits_itoa]
    congr 1
    have e1:sumOf (atP ⟨path.toArray⟩ xs)=(((xs.map key).filter fun y=>y.1 == path).map fun y=>y.2.2.2).sum:=by
     rw[<- atP_key];unfold sumOf;rw[List.map_map];(first | done | rfl)
    have e2:((evs.filter fun e=>toL e.p == path).map Ev.n).sum=(((evs.map keyEv).filter fun y=>y.1 == path).map fun y=>y.2.2.2).sum:=by
     rw[List.filter_map,List.map_map];(first | done | rfl)
    rw[e1]
    show _=0+_
    rw[e2,Int.zero_add]
    exact perm_sum ((hp.filter _).map _)
   ·have k3i:¬((Thk.kindOf path).toNat:Int)=99:=by omega
    rw[if_neg k3,if_neg k3i]
    refine (list_eq _ _ fun s=>?_).symm
    simp only[List.mem_map,atP_eq,List.mem_filter]
    constructor
    ·rintro ⟨e,⟨he,h1⟩,rfl⟩
     obtain ⟨x,hx,hk⟩:=List.mem_map.1 ((hmem _).2 (List.mem_map.2 ⟨e,he,rfl⟩))
     have hpp:toL x.p=toL e.p:=congrArg (·.1) hk
     have hvv:toL x.v=toL (keptVal e.a e.v):=congrArg (·.2.2.1) hk
     rw[(hkept e he (by simpa using h1)).2 k2 k3] at hvv
     exact ⟨x.v,⟨x,⟨hx,by rw[hpp];exact h1⟩,rfl⟩,hvv⟩
    ·rintro ⟨_,⟨x,⟨hx,h1⟩,rfl⟩,rfl⟩
     have h1':(toL x.p == path)=true:=h1
     obtain ⟨e,he,hk⟩:=List.mem_map.1 ((hmem _).1 (List.mem_map.2 ⟨x,hx,rfl⟩))
     have hpp:toL e.p=toL x.p:=congrArg (·.1) hk
     have hvv:toL (keptVal e.a e.v)=toL x.v:=congrArg (·.2.2.1) hk
     rw[<- hpp] at h1'
     rw[(hkept e he (by simpa using h1')).2 k2 k3] at hvv
     exact ⟨e,⟨he,h1'⟩,hvv⟩

theorem txt_read {l:Thk.Bs} {c:Thk.Ch} (h:Thk.read l=.inr c) (he:effB c.act=true):txtC c=l/\l.length=c.path.length+1+c.val.length:=by
 unfold Thk.read at h
 split at h
 ·cases h
 ·rename_i h0
  have hle:l.findIdx Thk.isAct<=l.length:=List.findIdx_le_length
  generalize l.findIdx Thk.isAct=k at *
  have hkl:k<l.length:=by omega
  unfold Thk.readAt at h
  split at h
  ·cases h
  ·split at h
   ·cases h
   ·have e:=operand_inr h
    have hl:l.take k ++ [l.getD k 0] ++ l.drop (k+1)=l:=by
     have h1:l.drop k=l.getD k 0 :: l.drop (k+1):=by rw[List.drop_eq_getElem_cons hkl];simp[hkl]
     rw[List.append_assoc,List.singleton_append,<- h1,List.take_append_drop]
    have p1:c.path=l.take k:=by rw[e]
    have p2:c.act=l.getD k 0:=by rw[e]
    have p3:c.val=l.drop (k+1):=by rw[e]
    refine ⟨?_, ?_⟩
    ·rw[<- p2] at h
     have hl':c.path ++ [c.act] ++ c.val=l:=by rw[p1,p2,p3];exact hl
     unfold txtC textB
     have q1:toL ⟨c.path.toArray⟩=c.path:=rfl
     rw[q1]
     unfold effB at he
     simp only[Bool.or_eq_true,beq_iff_eq] at he
     unfold Thk.operand at h
     by_cases h43:c.act.toNat=43\/c.act.toNat=45\/c.act.toNat=61
     ·unfold keptVal
      rw[if_pos h43,if_neg (by omega),List.append_nil]
      exact hl'
     ·rw[if_neg h43] at h
      unfold keptVal
      rw[if_neg h43]
      have q2:toL ByteArray.empty=[]:=rfl
      rw[q2,List.append_nil]
      by_cases h62:c.act.toNat=62
      ·rw[if_pos h62]
       rw[if_pos h62] at h
       split at h
       ·rename_i m hm
        have hn:c.n=m:=(congrArg Thk.Ch.n (Sum.inr.inj h)).symm
        rw[hn,(Thk.prog_of_num _ _ hm).2.1,<- p3]
        exact hl'
       ·cases h
      ·rw[if_neg h62,List.append_nil]
       rw[if_neg h62] at h
       split at h
       ·rename_i hv
        rw[<- p3] at hv
        rw[hv,List.append_nil] at hl'
        exact hl'
       ·cases h
    ·rw[p1,p3]
     have:=congrArg List.length hl
     simp only[List.length_append,List.length_singleton] at this
     exact this.symm

section
variable {es:List Ev} {D:List Nat} {n:Nat} {known:List Bool} {K:Nat->Nat} {C:Nat->Option Thk.Ch}
theorem Kn.ch (h:Kn es D known K C) (hs:∀ e∈es,∃ s,Thk.read s=.inr (chOf e)) {k:Nat} {c:Thk.Ch} (hc:C k=some c):effB c.act=true/\∃ s,Thk.read s=.inr c:=by
 obtain ⟨i,e,_,ha,he,hce⟩:=h.sup (d:=k) (by rw[hc];simp)
 rw[hc] at hce
 cases hce
 obtain ⟨⟨y,hy,heff⟩,_⟩:=(alive_iff es known i).1 ha
 rw[he] at hy
 cases hy
 exact ⟨heff,hs e (List.mem_of_getElem? he)⟩
theorem Kn.chs (h:Kn es D known K C) (hs:∀ e∈es,∃ s,Thk.read s=.inr (chOf e)):∀ k c,C k=some c->(c.act=43\/c.act=94\/c.act=61\/c.act=62)/\(-9223372036854775808<=c.n/\c.n<=9223372036854775807)/\c.path.length<=1048576/\(keptVal c.act ⟨c.val.toArray⟩).size<=1048576/\(txtC c).length<=1000:=by
 intro k c hc
 obtain ⟨heff,s,hr⟩:=h.ch hs hc
 obtain ⟨p1,p2,p3,p4,_⟩:=Thk.read_ok _ _ hr
 obtain ⟨t1,t2⟩:=txt_read hr heff
 have hk:=keptVal_size c.act ⟨c.val.toArray⟩
 have hv:(⟨c.val.toArray⟩:ByteArray).size=c.val.length:=by simp[ByteArray.size]
 refine ⟨?_,⟨by omega,by omega⟩,by omega,by omega,by rw[t1];omega⟩
 unfold effB at heff
 simp only[Bool.or_eq_true,beq_iff_eq] at heff
 rcases heff with ((h1 | h1) | h1) | h1
 ·exact Or.inl (UInt8.toNat_inj.1 h1)
 ·exact Or.inr (Or.inl (UInt8.toNat_inj.1 h1))
 ·exact Or.inr (Or.inr (Or.inl (UInt8.toNat_inj.1 h1)))
 ·exact Or.inr (Or.inr (Or.inr (UInt8.toNat_inj.1 h1)))
theorem Kn.mem (h:Kn es D known K C) {d:Nat} (h1:1<=nth d) (h2:nth d<=K (who d)):d∈D:=by
 have:=(h.all (who d) (nth d) h1 h2).2
 rw[mk_wn] at this
 exact this
theorem Kn.xs (h:Kn es D known K C) (hE:EvD es D n) (he:es.length<=500) {xs:List Itm} (hx:SAll (itOf C) xs):xs.length<=500:=by
 have:=nodup_le hx.1.1 (m:=D) (fun d hd=>by
  have h1:=itOf_none.1 ((hx.1.2 d).1 hd)
  obtain ⟨i,e,h2,_⟩:=h.sup h1
  exact List.mem_of_getElem? h2)
 rw[hE.len,List.length_map] at this
 omega

theorem Kn.itms (h:Kn es D known K C) (hE:EvD es D n) (he:es.length<=500) (hf:∀ e∈es,EvFit e):ItmsOK (SAll (itOf C)):=by
 have hev:∀ e∈evsOf es (aliveTo es known es.length),e∈es:=fun e he=>by
  obtain ⟨i,_,hei⟩:=List.mem_filterMap.1 he
  exact List.mem_of_getElem? hei
 constructor
 ·intro xs hx
  have:=h.xs hE he hx
  omega
 ·intro xs hx x hxm
  obtain ⟨e,he,hk⟩:=List.mem_map.1 ((h.perm hE hx).mem_iff.1 (List.mem_map.2 ⟨x,hxm,rfl⟩))
  have hfe:=hf e (hev e he)
  unfold keyEv key at hk
  simp only[Prod.mk.injEq] at hk
  obtain ⟨h1,_,h3,h4⟩:=hk
  have p1:x.p.size=e.p.size:=by rw[<- toL_length,<- toL_length,h1]
  have p2:x.v.size=(keptVal e.a e.v).size:=by rw[<- toL_length,<- toL_length,h3]
  have p3:=keptVal_size e.a e.v
  have:=hfe.p;have:=hfe.v;have:=hfe.n1;have:=hfe.n2
  exact ⟨by omega,by omega,by omega,by omega⟩
end
end Go.Proofs.YtfmmllpjgkgeaaaGreatDoor

