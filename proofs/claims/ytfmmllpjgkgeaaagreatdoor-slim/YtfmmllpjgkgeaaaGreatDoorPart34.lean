import Derived.Test.YtfmmllpjgkgeaaaGreatDoorPart33
set_option linter.unusedVariables false
set_option linter.unusedSimpArgs false
set_option maxHeartbeats 16000000
set_option maxRecDepth 100000
namespace Go.Proofs.YtfmmllpjgkgeaaaGreatDoor
open Go.RowKit Go.Maps Go.WideMaps

theorem Thk.read_fit (l:Thk.Bs) (c:Thk.Ch) (h:Thk.read l=.inr c):Thk.fits (Thk.kindOf c.path) c.act=true:=by
 unfold Thk.read at h
 split at h
 ·cases h
 ·unfold Thk.readAt at h
  split at h
  ·cases h
  ·split at h
   ·cases h
   ·rename_i h3
    have e:=operand_inr h
    rw[e]
    simpa using h3
theorem fit_of {e:Ev} {t:Thk.Bs} (h:Thk.read t=.inr (chOf e)):EvFit e:=by
 obtain ⟨p1,p2,p3,p4,_⟩:=Thk.read_ok _ _ h
 have hf:=Thk.read_fit _ _ h
 unfold chOf at p1 p2 p3 p4 hf
 simp only at p1 p2 p3 p4 hf
 exact ⟨hf,by rw[<- toL_length];omega,by rw[<- toL_length];omega,by omega,by omega⟩

def curs (s:St) (ds:List RepD) (j:Nat):Hs:=⟨s.kn.getD j [],(ds[j]?.map RD.K).getD (fun _=>0),(ds[j]?.map RD.C).getD (fun _=>none)⟩
theorem curs_at (s:St) (ds:List RepD) (j:Nat) (h:j<ds.length):curs s ds j=⟨s.kn.getD j [],ds[j].K,ds[j].C⟩:=by unfold curs;simp[h]
def FrTie (n:Nat) (fs:List FrD) (P:Nat->Hs->Prop) (o:Nat->Hs) (b:Nat × ByteArray) (f:FrD):Prop :=
 b.1=f.dst/\b.2=f.bytes/\f.dst<n/\f.src<n/\f.src≠f.dst/\f.bytes.size<=700000 /\
 (0<f.ack->∃ t g,P f.dst t/\t.le (o f.src)/\toL f.bytes=sealL (encAm f.src (cnt t.kn))/\fs[f.ack-1]? = some g/\cnt t.kn=cnt g.known) /\
 (¬0<f.ack->∃ h S C rs its,P f.src h/\h.kn=f.known/\toL f.bytes=sealL (encFm f.src (cnt h.kn) rs its)/\EncOf S C rs its/\Brings ⟨fun d=>1<=nth d/\S d,C⟩ h.sto (o f.dst).sto)
theorem FrTie.imp {n:Nat} {fs fs':List FrD} {P P':Nat->Hs->Prop} {o o':Nat->Hs} {b:Nat × ByteArray} {f:FrD} (h:FrTie n fs P o b f) (hfs:∀ (k:Nat) g,fs[k]? = some g->fs'[k]? = some g) (hP:∀ j x,P j x->P' j x) (ho:∀ j,(o j).sto.le (o' j).sto/\(o j).le (o' j)):FrTie n fs' P' o' b f:=by
 obtain ⟨f1,f2,f3,f4,f5,f6,f7,f8⟩:=h
 refine ⟨f1,f2,f3,f4,f5,f6,fun h9=>?_,fun h9=>?_⟩
 ·obtain ⟨t,g,a1,a2,a3,a4,a5⟩:=f7 h9
  exact ⟨t,g,hP _ _ a1,a2.trans (ho _).2,a3,hfs _ _ a4,a5⟩
 ·obtain ⟨x,S,C,rs,its,a1,a2,a3,a4,a5⟩:=f8 h9
  exact ⟨x,S,C,rs,its,hP _ _ a1,a2,a3,a4,a5.later (ho _).1⟩

structure CluF (ρ : Nat->Prop) (w:World) (x:Nat) (S:Nat->Prop) (s:St) (q cap:Nat) (fv:Value) (ds:List RepD) (bs:List (Nat × ByteArray)) (D:List Nat) (P:Nat->Hs->Prop):Prop where
 clu:CluP w x q cap fv 0 ds bs
 own:∀ k,S k↔k=x\/k=q\/fv.ownBlock=some k\/∃ j,∃ h:j<ds.length,ds[j].own k
 len:s.kn.length=ds.length
 evd:EvD s.es D ds.length
 hist:∀ j (h:j<ds.length),HistR s.es D j (P j) (curs s ds) (curs s ds j) ds[j]
 mine:∀ j (h:j<ds.length) d,d∈D->who d=j->nth d<=ds[j].K j
 sum:sumN ds ds.length=s.es.length
 e500:s.es.length<=500
 src:∀ e∈s.es,∃ t,Thk.read t=.inr (chOf e)
 blen:bs.length=s.fs.length
 frs:∀ j (h:j<bs.length) (h':j<s.fs.length),FrTie ds.length s.fs P (curs s ds) bs[j] s.fs[j]
 cut:∀ j (h:j<ds.length),ds[j].cut=false/\ρ ds[j].room
def waits (ds:List RepD):List Nat:=ds.map fun d=>d.ps.length
def ProgF (ρ : Nat->Prop) (w:World) (x:Nat) (S:Nat->Prop) (s:St):Prop:=∃ q cap fv ds bs D P,CluF ρ w x S s q cap fv ds bs D P

section
variable {ρ : Nat->Prop} {w w':World} {x:Nat} {S:Nat->Prop} {s:St} {q cap:Nat} {fv:Value} {ds:List RepD} {bs:List (Nat × ByteArray)} {D:List Nat} {P:Nat->Hs->Prop}
theorem CluF.tie (h:CluF ρ w x S s q cap fv ds bs D P) (j:Nat) (hj:j<ds.length):Kn s.es D (s.kn.getD j []) ds[j].K ds[j].C:=by
 have:=(h.hist j hj).ok _ (h.hist j hj).now
 rw[curs_at s ds j hj] at this
 exact this
theorem CluF.size (h:CluF ρ w x S s q cap fv ds bs D P) (j:Nat) (hj:j<ds.length):cnt (s.kn.getD j [])=sizeK ds[j].K:=(h.tie j hj).size h.evd h.clu.len (h.clu.rep j hj).k500
theorem cnt_len (l:List Bool):cnt l<=l.length:=by unfold cnt;exact List.length_filter_le _ _
theorem CluF.chg {M:Nat->Prop} (h:CluF ρ w x S s q cap fv ds bs D P) (hc:Chg M w w') (hm:∀ k,S k->¬M k):CluF ρ w' x S s q cap fv ds bs D P :=
 ⟨h.clu.chg hc (hm x ((h.own x).2 (Or.inl rfl))) (hm q ((h.own q).2 (Or.inr (Or.inl rfl)))) (fun j hj k hk=>hm k ((h.own k).2 (Or.inr (Or.inr (Or.inr ⟨j,hj,hk⟩))))) (fun g hg=>hm g ((h.own g).2 (Or.inr (Or.inr (Or.inl hg))))),h.own,h.len,h.evd,h.hist,h.mine,h.sum,h.e500,h.src,h.blen,h.frs,h.cut⟩
theorem CluF.tags (h:CluF ρ w x S s q cap fv ds bs D P) {k:Nat} (hk:S k) {t:TypeId} (ht:Tagged w k t):¬isRef t/\t≠4/\t≠159/\t≠63/\t≠116:=by
 have key:t=79\/t=81\/t=109\/t=125\/t=220\/t=222\/t=229:=by
  rcases (h.own k).1 hk with rfl | rfl | hk | ⟨j,hj,ho⟩
  ·exact Or.inl (blk_tag h.clu.blk ht)
  ·obtain ⟨cs,r1,_⟩:=h.clu.row
   exact Or.inr (Or.inl (blk_tag r1 ht))
  ·exact Or.inr (Or.inr (Or.inl (tag_same ht (h.clu.frT k hk))))
  ·exact Or.inr (Or.inr (Or.inr (h.clu.repTag j hj ho ht)))
 unfold isRef
 rcases key with rfl | rfl | rfl | rfl | rfl | rfl | rfl <;> decide
theorem CluF.lt (h:CluF ρ w x S s q cap fv ds bs D P) {k:Nat} (hk:S k):k<w.heap.size:=by
 rcases (h.own k).1 hk with rfl | rfl | hk | ⟨j,hj,ho⟩
 ·exact h.clu.blk.lt
 ·obtain ⟨cs,r1,_⟩:=h.clu.row
  exact r1.lt
 ·exact (h.clu.frT k hk).lt
 ·exact (h.clu.rep j hj).lt ho
end
theorem prog_frame (ρ : Nat->Prop):ProgFrame (ProgF ρ):={
 stable:=by
  rintro M w w' x S s ⟨q,cap,fv,ds,bs,D,P,h⟩ hc hm
  exact ⟨q,cap,fv,ds,bs,D,P,h.chg hc hm⟩
 tags:=by
  rintro w x S s k t ⟨q,cap,fv,ds,bs,D,P,h⟩ hk ht
  exact h.tags hk ht
 lt:=by
  rintro w x S s k ⟨q,cap,fv,ds,bs,D,P,h⟩ hk
  exact h.lt hk }
theorem ownN_set (ds:List RepD) (k:Nat) (hk:k<ds.length) (d:RepD) (j:Nat):ownN (ds.set k d) j=if j=k then d.K k else ownN ds j:=by
 unfold ownN
 rw[List.getElem?_set]
 by_cases e:k=j
 ·subst e;simp[hk]
 ·rw[if_neg e,if_neg (fun h=>e h.symm)]
theorem sumN_set (ds:List RepD) (k:Nat) (hk:k<ds.length) (d:RepD):∀ m,sumN (ds.set k d) m+(if k<m then ds[k].K k else 0)=sumN ds m+(if k<m then d.K k else 0)
 | 0=>by simp[sumN]
 | m+1=>by
  have ih:=sumN_set ds k hk d m
  rw[sumN,sumN,ownN_set ds k hk]
  by_cases e:m=k
  ·subst e
   rw[if_pos rfl,if_pos (by omega),if_pos (by omega)]
   rw[if_neg (by omega),if_neg (by omega)] at ih
   rw[ownN_eq ds m hk]
   omega
  ·rw[if_neg e]
   by_cases h2:k<m
   ·rw[if_pos h2,if_pos h2] at ih
    rw[if_pos (by omega),if_pos (by omega)]
    omega
   ·rw[if_neg h2,if_neg h2] at ih
    rw[if_neg (by omega),if_neg (by omega)]
    omega
theorem getD_set (kn:List (List Bool)) (k:Nat) (hk:k<kn.length) (a:List Bool) (j:Nat):(kn.set k a).getD j []=if k=j then a else kn.getD j []:=by
 rw[List.getD_eq_getElem?_getD,List.getElem?_set]
 by_cases e:k=j
 ·subst e;simp[hk]
 ·rw[if_neg e,if_neg e,List.getD_eq_getElem?_getD]


section
variable {ρ : Nat->Prop} {w w':World} {x:Nat} {S:Nat->Prop} {s:St} {q cap:Nat} {fv:Value} {ds:List RepD} {bs:List (Nat × ByteArray)} {D:List Nat} {P:Nat->Hs->Prop}
theorem CluF.keep (h:CluF ρ w x S s q cap fv ds bs D P) (hc:CluP w' x q cap fv 0 ds bs):CluF ρ w' x S s q cap fv ds bs D P:=⟨hc,h.own,h.len,h.evd,h.hist,h.mine,h.sum,h.e500,h.src,h.blen,h.frs,h.cut⟩
theorem CluF.prog (h:CluF ρ w x S s q cap fv ds bs D P):ProgF ρ w x S s:=⟨q,cap,fv,ds,bs,D,P,h⟩
theorem CluF.sx (h:CluF ρ w x S s q cap fv ds bs D P) (hc:Chg (fun k=>k=x) w w'):Chg S w w':=hc.wide (fun k e=>(h.own k).2 (Or.inl e))
theorem CluF.sc (h:CluF ρ w x S s q cap fv ds bs D P) (hc:Chg (cluOwn x ds) w w'):Chg S w w':=hc.wide (fun k e=>(h.own k).2 (by
 rcases e with e | e
 ·exact Or.inl e
 ·exact Or.inr (Or.inr (Or.inr e))))
def ownS (x q:Nat) (fv:Value) (ds:List RepD) (b:Nat):Prop:=b=x\/b=q\/fv.ownBlock=some b\/∃ j,∃ h:j<ds.length,ds[j].own b
theorem CluF.ownR (h:CluF ρ w x S s q cap fv ds bs D P) {fv':Value} {k:Nat} (hk:k<ds.length) {r':RD} {B:Nat} (hr:Renews0 B ds[k] r') (hn:∀ g,fv'.ownBlock=some g->fv.ownBlock=some g\/B<=g):∀ b,ownS x q fv' (ds.set k r') b->S b\/B<=b:=by
 intro b hb
 rcases hb with rfl | rfl | hb | ⟨j,hj,ho⟩
 ·exact Or.inl ((h.own _).2 (Or.inl rfl))
 ·exact Or.inl ((h.own _).2 (Or.inr (Or.inl rfl)))
 ·exact (hn b hb).imp (fun h9=>(h.own _).2 (Or.inr (Or.inr (Or.inl h9)))) id
 ·have hj':j<ds.length:=by simpa using hj
  rw[List.getElem_set] at ho
  by_cases e9:k=j
  ·rw[if_pos e9] at ho
   exact (hr.own b ho).imp (fun h9=>(h.own _).2 (Or.inr (Or.inr (Or.inr ⟨k,hk,h9⟩)))) id
  ·rw[if_neg e9] at ho
   exact Or.inl ((h.own _).2 (Or.inr (Or.inr (Or.inr ⟨j,hj',ho⟩))))
theorem CluF.ownN (h:CluF ρ w x S s q cap fv ds bs D P) {fv':Value} (hn:∀ g,fv'.ownBlock=some g->fv.ownBlock=some g\/w.heap.size<=g):∀ b,ownS x q fv' ds b->S b\/w.heap.size<=b:=by
 intro b hb
 rcases hb with rfl | rfl | hb | hb
 ·exact Or.inl ((h.own _).2 (Or.inl rfl))
 ·exact Or.inl ((h.own _).2 (Or.inr (Or.inl rfl)))
 ·exact (hn b hb).imp (fun h9=>(h.own _).2 (Or.inr (Or.inr (Or.inl h9)))) id
 ·exact Or.inl ((h.own _).2 (Or.inr (Or.inr (Or.inr hb))))
theorem curs_set (s:St) (ds:List RepD) {k:Nat} (hk:k<ds.length) (hl:s.kn.length=ds.length) (es':List Ev) (kn2:List Bool) (fs':List FrD) (r':RD) (j:Nat):curs ⟨es',s.kn.set k kn2,fs'⟩ (ds.set k r') j=if k=j then ⟨kn2,r'.K,r'.C⟩ else curs s ds j:=by
 unfold curs
 show Hs.mk ((s.kn.set k kn2).getD j []) _ _=_
 rw[getD_set _ _ (by rw[hl];exact hk),List.getElem?_set]
 by_cases e:k=j
 ·subst e;simp[hk]
 ·rw[if_neg e,if_neg e,if_neg e]
theorem curs_same (s:St) (ds:List RepD) {k:Nat} (hk:k<ds.length) {r':RD} (hK:r'.K=ds[k].K) (hC:r'.C=ds[k].C):curs s (ds.set k r')=curs s ds:=by
 funext j
 unfold curs
 rw[List.getElem?_set]
 by_cases e:k=j
 ·subst e;simp[hk,hK,hC]
 ·rw[if_neg e]
theorem cut_set {ds:List RepD} {ρ : Nat->Prop} (h:∀ j (hj:j<ds.length),ds[j].cut=false/\ρ ds[j].room) {k:Nat} {r':RD} (hr:r'.cut=false/\ρ r'.room):∀ j (hj:j<(ds.set k r').length),(ds.set k r')[j].cut=false/\ρ (ds.set k r')[j].room:=fun j hj=>by
 rw[List.getElem_set]
 split
 ·exact hr
 ·exact h j (by simpa using hj)
theorem CluF.same (h:CluF ρ w x S s q cap fv ds bs D P) {k:Nat} (hk:k<ds.length) {r':RD} (hct:r'.cut=false/\ρ r'.room) (hK:r'.K=ds[k].K) (hC:r'.C=ds[k].C) (hH:HistR s.es D k (P k) (curs s ds) (curs s ds k) r') (hc:CluP w' x q cap fv 0 (ds.set k r') bs) :
  CluF ρ w' x (ownS x q fv (ds.set k r')) s q cap fv (ds.set k r') bs D P:=by
 have ec:=curs_same s ds hk hK hC
 refine ⟨hc,fun b=>Iff.rfl,by simp[h.len],by rw[List.length_set];exact h.evd,fun j hj=>?_,fun j hj d hd hw=>?_, ?_,h.e500,h.src,h.blen,fun j h1 h2=>?_,cut_set h.cut hct⟩
 ·have hj':j<ds.length:=by simpa using hj
  rw[ec,List.getElem_set]
  by_cases e9:k=j
  ·subst e9;rw[if_pos rfl];exact hH
  ·rw[if_neg e9];exact h.hist j hj'
 ·have hj':j<ds.length:=by simpa using hj
  rw[List.getElem_set]
  by_cases e9:k=j
  ·subst e9;rw[if_pos rfl,hK];exact h.mine k hk d hd hw
  ·rw[if_neg e9];exact h.mine j hj' d hd hw
 ·have h1:=sumN_set ds k hk r' ds.length
  rw[if_pos hk,if_pos hk,hK] at h1
  have:=h.sum
  rw[List.length_set];omega
 ·rw[List.length_set,ec];exact h.frs j h1 h2
theorem app_get {α : Type} (l:List α) (a:α) (j:Nat) (h:j<(l ++ [a]).length):(∃ h':j<l.length,(l ++ [a])[j]=l[j])\/(j=l.length/\(l ++ [a])[j]=a):=by
 by_cases hj:j<l.length
 ·exact Or.inl ⟨hj,List.getElem_append_left hj⟩
 ·have hje:j=l.length:=by simp at h;omega
  exact Or.inr ⟨hje,by rw[List.getElem_append_right (by omega)];simp⟩
theorem app_old {α : Type} {l l2:List α} {k:Nat} {a:α} (h:l[k]? = some a):(l ++ l2)[k]? = some a:=by
 rw[List.getElem?_append_left (List.getElem?_eq_some_iff.1 h).1];exact h
theorem CluF.frame1 (h:CluF ρ w x S s q cap fv ds bs D P) {fv':Value} {b:Nat × ByteArray} {f:FrD} (hc:CluP w' x q cap fv' 0 ds (bs ++ [b])) (hf:FrTie ds.length (s.fs ++ [f]) P (curs s ds) b f):CluF ρ w' x (ownS x q fv' ds) ⟨s.es,s.kn,s.fs ++ [f]⟩ q cap fv' ds (bs ++ [b]) D P:=by
 refine ⟨hc,fun b=>Iff.rfl,h.len,h.evd,h.hist,h.mine,h.sum,h.e500,h.src,by simp[h.blen],fun j h1 h2=>?_,h.cut⟩
 have hbl:=h.blen
 rcases app_get bs b j h1 with ⟨a1,a2⟩ | ⟨a1,a2⟩ <;> rcases app_get s.fs f j h2 with ⟨b1,b2⟩ | ⟨b1,b2⟩
 ·rw[a2];show FrTie _ _ _ _ _ ((s.fs ++ [f])[j]);rw[b2];exact (h.frs j a1 b1).imp (fun k g hg=>app_old hg) (fun _ _ h=>h) (fun j=>⟨Sto.le.refl _,Hs.le.refl _⟩)
 ·omega
 ·omega
 ·rw[a2];show FrTie _ _ _ _ _ ((s.fs ++ [f])[j]);rw[b2];exact hf
theorem CluF.learnt (h:CluF ρ w x S s q cap fv ds bs D P) {k:Nat} (hk:k<ds.length) {r':RD} (hct:r'.cut=false/\ρ r'.room) {kn2:List Bool} {es':List Ev} {D':List Nat} {Pk:Hs->Prop} {fv':Value} {bs':List (Nat × ByteArray)} {fs':List FrD}
  (hE:EvD es' D' ds.length) (hmono:∀ y:Hs,y.Ok s.es D->y.Ok es' D') (hle:(curs s ds k).le ⟨kn2,r'.K,r'.C⟩) (hH:HistR es' D' k Pk (curs s ds) ⟨kn2,r'.K,r'.C⟩ r') (hP:∀ y,P k y->Pk y)
  (hm:∀ j (hj:j<ds.length) d,d∈D'->who d=j->nth d<=(if k=j then r' else ds[j]).K j) (hs:sumN (ds.set k r') ds.length=es'.length) (h5:es'.length<=500) (hsr:∀ e∈es',∃ t,Thk.read t=.inr (chOf e)) (hbl:bs'.length=fs'.length) (hfs:∀ (k2:Nat) g,s.fs[k2]? = some g->fs'[k2]? = some g)
  (hfr:∀ j (h1:j<bs'.length) (h2:j<fs'.length),(∃ (a:j<bs.length) (b:j<s.fs.length),bs'[j]=bs[j]/\fs'[j]=s.fs[j])\/FrTie ds.length fs' (fun j y=>if k=j then Pk y else P j y) (fun j=>if k=j then ⟨kn2,r'.K,r'.C⟩ else curs s ds j) bs'[j] fs'[j])
  (hc:CluP w' x q cap fv' 0 (ds.set k r') bs'):CluF ρ w' x (ownS x q fv' (ds.set k r')) ⟨es',s.kn.set k kn2,fs'⟩ q cap fv' (ds.set k r') bs' D' (fun j y=>if k=j then Pk y else P j y):=by
 have ec:=curs_set s ds hk h.len es' kn2 fs' r'
 have ho:∀ j,(curs s ds j).sto.le ((if k=j then (⟨kn2,r'.K,r'.C⟩:Hs) else curs s ds j)).sto/\(curs s ds j).le (if k=j then (⟨kn2,r'.K,r'.C⟩:Hs) else curs s ds j):=fun j=>by
  by_cases e:k=j
  ·subst e
   rw[if_pos rfl]
   exact ⟨Hs.sle (hmono _ ((h.hist k hk).ok _ (h.hist k hk).now)) (hH.ok _ hH.now) hE hle,hle⟩
  ·rw[if_neg e];exact ⟨Sto.le.refl _,Hs.le.refl _⟩
 have hcf:curs ⟨es',s.kn.set k kn2,fs'⟩ (ds.set k r')=fun j=>if k=j then (⟨kn2,r'.K,r'.C⟩:Hs) else curs s ds j:=funext ec
 refine ⟨hc,fun b=>Iff.rfl,by simp[h.len],by rw[List.length_set];exact hE,fun j hj=>?_,fun j hj d hd hw=>?_,by rw[List.length_set];exact hs,h5,hsr,hbl,fun j h1 h2=>?_,cut_set h.cut hct⟩
 ·have hj':j<ds.length:=by simpa using hj
  rw[hcf,List.getElem_set]
  by_cases e9:k=j
  ·subst e9
   simp only[if_pos]
   exact hH.step (fun y _ hy=>hy) ho
  ·simp only[if_neg e9]
   exact (h.hist j hj').step (fun y _ hy=>hmono y hy) ho
 ·have hj':j<ds.length:=by simpa using hj
  have:=hm j hj' d hd hw
  rw[List.getElem_set]
  exact this
 ·rw[List.length_set,hcf]
  rcases hfr j h1 h2 with ⟨a,b,e1,e2⟩ | h3
  ·rw[e1]
   show FrTie _ _ _ _ _ (fs'[j])
   rw[e2]
   exact (h.frs j a b).imp hfs (fun j y hy=>by
    by_cases e:k=j
    ·subst e;rw[if_pos rfl];exact hP y hy
    ·rw[if_neg e];exact hy) ho
  ·exact h3
end

section
variable {es:List Ev} {D:List Nat} {n:Nat} {k1 k2:List Bool} {K1 K2:Nat->Nat} {C1 C2:Nat->Option Thk.Ch}
theorem new_grows (h1:Kn es D k1 K1 C1) (h2:Kn es D k2 K2 C2) (hle:∀ j,k1.getD j false=true->k2.getD j false=true) {r:RD} (hK:r.K=K1) (hC:r.C=C1) (hnw:∃ d,1<=nth d/\newD r K2 C2 d):cnt k1<cnt k2:=by
 refine Classical.byContradiction fun hn=>?_
 have hpt:=(cnt_lt_or k1 k2 es.length hle h1.len h2.len).2 hn
 obtain ⟨hC2,hK2⟩:=h1.uniq h2 (fun j=>(hpt j).symm)
 obtain ⟨d,hd,hf,hne⟩:=hnw
 subst hK hC
 exact hne ⟨(hK2 d hd).2 hf,by rw[hC2]⟩
theorem new_none (h1:Kn es D k1 K1 C1) (h2:Kn es D k2 K2 C2) (hE:EvD es D n) {r:RD} (hK:r.K=K1) (hnw:∀ d,1<=nth d->¬newD r K2 C2 d):∀ j,k2.getD j false=true->k1.getD j false=true:=by
 intro j hj
 subst hK
 have hjl:j<D.length:=by
  rw[hE.len]
  refine Classical.byContradiction fun hn=>?_
  have:=h2.len
  rw[getD_len (by omega)] at hj
  cases hj
 have hj':D[j]? = some D[j]:=List.getElem?_eq_getElem hjl
 have hf:=(h2.vec j _ hj').1 hj
 refine (h1.vec j _ hj').2 (Classical.byContradiction fun hno=>?_)
 exact hnw D[j] (hE.ok _ (List.getElem_mem hjl)).2.1 ⟨hf,fun e=>hno e.1⟩
theorem from_ok {a b c o:Hs} (ha:a.Ok es D) (hb:b.Ok es D) (hE:EvD es D n) (hc:c.K=maxK b.K a.K/\c.C=joinC b.K b.C a.K a.C) (ho:a.sto.le o.sto):FromOK b c o:=by
 intro d hd hnw
 have hj:Sto.join a.sto b.sto c.sto:=by
  have:=Kn.joinS hb ha hE
  unfold Hs.sto
  rw[hc.1,hc.2]
  exact this
 obtain ⟨j1,j2,j3⟩:=hj
 obtain ⟨hf,hne⟩:=hnw
 by_cases hcc:c.C d=none
 ·rcases (j2 d).1 ⟨⟨hd,hf⟩,hcc⟩ with h4 | h4
  ·exact ⟨ho.s d h4.1,fun _=>ho.g d h4⟩
  ·exact absurd ⟨h4.1.2,⟨fun _=>h4.2,fun _=>hcc⟩⟩ hne
 ·refine ⟨?_,fun h=>absurd h hcc⟩
  rcases (j1 d).1 ⟨hd,hf⟩ with h4 | h4
  ·exact ho.s d h4
  ·refine absurd ⟨h4.2,⟨fun h=>absurd h hcc,fun h=>?_⟩⟩ hne
   exact ((j2 d).2 (Or.inr ⟨h4,h⟩)).2
end
theorem joinC_comm_le (a b:List Bool):(∀ j,a.getD j false=true->(bothL a b).getD j false=true)/\∀ j,b.getD j false=true->(bothL a b).getD j false=true:=⟨fun j h=>by rw[bothL_getD,h];rfl,fun j h=>by rw[bothL_getD,h];simp⟩

section
variable {ρ : Nat->Prop} {w w':World} {x:Nat} {S:Nat->Prop} {s:St} {q cap:Nat} {fv:Value} {ds:List RepD} {bs:List (Nat × ByteArray)} {D:List Nat} {P:Nat->Hs->Prop}
theorem CluF.doB (h:CluF ρ w x S s q cap fv ds bs D P) {t:Thk.Bs} {c:Thk.Ch} (hr:Thk.read t=.inr c) {k:Nat} (hk:k<ds.length) (hl:s.es.length<500):mkD k (ds[k].K k+1) ∉ D/\ds[k].K k+1<=500/\StoB (fst (inc ds[k].K k)) (stepC ds[k].C c (mkD k (ds[k].K k+1))) /\
  ∀ e:Ev,chOf e=c->EvD (s.es ++ [e]) (D ++ [mkD k (ds[k].K k+1)]) ds.length:=by
 have hkt:=h.tie k hk
 have hKe:=hkt.dle h.evd k
 have hK5:ds[k].K k+1<=500:=by omega
 have hwd:who (mkD k (ds[k].K k+1))=k:=who_mk (by omega)
 have hnd:nth (mkD k (ds[k].K k+1))=ds[k].K k+1:=nth_mk (by omega)
 have hnew:mkD k (ds[k].K k+1) ∉ D:=fun hm=>by
  have:=h.mine k hk _ hm hwd
  rw[hnd] at this
  omega
 have hev:∀ e:Ev,chOf e=c->EvD (s.es ++ [e]) (D ++ [mkD k (ds[k].K k+1)]) ds.length:=fun e _=>by
  refine ⟨by simp[h.evd.len], ?_,fun d hd=>?_⟩
  ·rw[List.nodup_append]
   exact ⟨h.evd.nd,by simp,fun a ha b hb e9=>by simp at hb;subst hb;subst e9;exact hnew ha⟩
  ·rcases List.mem_append.1 hd with h1 | h1
   ·exact h.evd.ok d h1
   ·simp at h1
    subst h1
    rw[hwd,hnd]
    exact ⟨hk,by omega,by omega⟩
 refine ⟨hnew,hK5, ?_,hev⟩
 have hch:chOf ⟨⟨c.path.toArray⟩,c.act,⟨c.val.toArray⟩,c.n,s.kn.getD k []⟩=c:=by unfold chOf;simp[toL]
 have hkn:=hkt.mine h.evd ⟨⟨c.path.toArray⟩,c.act,⟨c.val.toArray⟩,c.n,s.kn.getD k []⟩ c hch rfl k hK5 hnew
 refine hkn.stoB (hev _ hch) h.clu.len (by simp;omega) (fun e he=>?_)
 rcases List.mem_append.1 he with h1 | h1
 ·exact h.src e h1
 ·rw[List.mem_singleton] at h1;rw[h1];exact ⟨t,by rw[hch];exact hr⟩
theorem CluF.doneH (h:CluF ρ w x S s q cap fv ds bs D P) {t:Thk.Bs} {c:Thk.Ch} (hr:Thk.read t=.inr c) {k:Nat} (hk:k<ds.length) (hl:s.es.length<500) {e:Ev} (hch:chOf e=c) (e5:e.saw=s.kn.getD k []) {r':RD} (hct:r'.cut=false/\ρ r'.room) (hK:r'.K=inc ds[k].K k) {Pk:Hs->Prop} (hP:∀ y,P k y->Pk y)
  (hH:HistR (s.es ++ [e]) (D ++ [mkD k (ds[k].K k+1)]) k Pk (curs s ds) ⟨moreOf (s.kn.getD k []) s.es.length,r'.K,r'.C⟩ r') {B:Nat} (hren:Renews0 B ds[k] r') (hc:CluP w' x q cap fv 0 (ds.set k r') bs) :
  ∃ S' D' P',CluF ρ w' x S' ⟨s.es ++ [e],s.kn.set k (moreOf (s.kn.getD k []) s.es.length),s.fs⟩ q cap fv (ds.set k r') bs D' P'/\∀ b,S' b->S b\/B<=b:=by
 obtain ⟨hnew,hK5,_,hev⟩:=h.doB hr hk hl
 have hkt:=h.tie k hk
 have hnd:nth (mkD k (ds[k].K k+1))=ds[k].K k+1:=nth_mk (by omega)
 have hwd:who (mkD k (ds[k].K k+1))=k:=who_mk (by omega)
 have hmono:∀ y:Hs,y.Ok s.es D->y.Ok (s.es ++ [e]) (D ++ [mkD k (ds[k].K k+1)]):=fun y hy=>Kn.other hy h.evd e _ hnew (by rw[hnd];omega)
 have hle:(curs s ds k).le ⟨moreOf (s.kn.getD k []) s.es.length,r'.K,r'.C⟩:=fun i hi=>by
  show (moreOf (s.kn.getD k []) s.es.length).getD i false=true
  rw[moreOf_getD _ _ hkt.len]
  have:(s.kn.getD k []).getD i false=true:=hi
  rw[this];(first | done | rfl)
 have h3:r'.K k=ds[k].K k+1:=by rw[hK];exact inc_same _ _
 have hF:=h.learnt hk hct (fv':=fv) (bs':=bs) (fs':=s.fs) (hev e hch) hmono hle hH hP (fun j hj d hd hw=>?_) ?_ (by simp;omega) (fun e' he'=>?_) h.blen (fun _ _ h=>h) (fun j h1 h2=>Or.inl ⟨h1,h2,rfl,rfl⟩) hc
 ·exact ⟨_,_,_,hF,h.ownR hk hren (fun g hg=>Or.inl hg)⟩
 ·by_cases e9:k=j
  ·subst e9
   rw[if_pos rfl,h3]
   rcases List.mem_append.1 hd with h1 | h1
   ·have:=h.mine k hk d h1 hw;omega
   ·simp at h1;subst h1;rw[hnd];omega
  ·rw[if_neg e9]
   rcases List.mem_append.1 hd with h1 | h1
   ·exact h.mine j hj d h1 hw
   ·simp at h1;subst h1;rw[hwd] at hw;exact absurd hw e9
 ·have h1:=sumN_set ds k hk r' ds.length
  rw[if_pos hk,if_pos hk] at h1
  have h2:=h.sum
  rw[h3] at h1
  rw[List.length_append,List.length_singleton]
  omega
 ·rcases List.mem_append.1 he' with h1 | h1
  ·exact h.src e' h1
  ·simp at h1;subst h1;exact ⟨t,by rw[hch];exact hr⟩
theorem CluF.didH (h:CluF ρ w x S s q cap fv ds bs D P) {t:Thk.Bs} {c:Thk.Ch} (hr:Thk.read t=.inr c) {k:Nat} (hk:k<ds.length) (hl:s.es.length<500) {e:Ev} (hch:chOf e=c) (e5:e.saw=s.kn.getD k []) (io co lo:Nat) (pv:Value) (st:StD) (hS:st.S=newD ds[k] (inc ds[k].K k) (stepC ds[k].C c (mkD k (ds[k].K k+1)))) (hI:st.It=itOf (newC ds[k] (inc ds[k].K k) (stepC ds[k].C c (mkD k (ds[k].K k+1))))) :
  HistR (s.es ++ [e]) (D ++ [mkD k (ds[k].K k+1)]) k (fun y=>P k y\/y=⟨moreOf (s.kn.getD k []) s.es.length,inc ds[k].K k,stepC ds[k].C c (mkD k (ds[k].K k+1))⟩) (curs s ds) ⟨moreOf (s.kn.getD k []) s.es.length,inc ds[k].K k,stepC ds[k].C c (mkD k (ds[k].K k+1))⟩ (ds[k].more io co lo pv k st (inc ds[k].K k) (stepC ds[k].C c (mkD k (ds[k].K k+1))))/\sizeK (inc ds[k].K k)=cnt (moreOf (s.kn.getD k []) s.es.length):=by
 obtain ⟨hnew,hK5,_,hev⟩:=h.doB hr hk hl
 have hkt:=h.tie k hk
 have hnd:nth (mkD k (ds[k].K k+1))=ds[k].K k+1:=nth_mk (by omega)
 have hkn:=hkt.mine h.evd e c hch e5 k hK5 hnew
 have hmono:∀ y:Hs,y.Ok s.es D->y.Ok (s.es ++ [e]) (D ++ [mkD k (ds[k].K k+1)]):=fun y hy=>Kn.other hy h.evd e _ hnew (by rw[hnd];omega)
 have hle:(curs s ds k).le ⟨moreOf (s.kn.getD k []) s.es.length,inc ds[k].K k,stepC ds[k].C c (mkD k (ds[k].K k+1))⟩:=fun i hi=>by
  show (moreOf (s.kn.getD k []) s.es.length).getD i false=true
  rw[moreOf_getD _ _ hkt.len]
  have:(s.kn.getD k []).getD i false=true:=hi
  rw[this];(first | done | rfl)
 have hk5:∀ y,inc ds[k].K k y<=500:=fun y=>by
  by_cases e9:y=k
  ·subst e9;rw[inc_same];exact hK5
  ·rw[inc_oth e9];exact (h.clu.rep k hk).k500 y
 have hsz:=hkn.size (hev e hch) h.clu.len hk5
 refine ⟨?_,hsz.symm⟩
 exact ((h.hist k hk).step (es':=s.es ++ [e]) (D':=D ++ [mkD k (ds[k].K k+1)]) (fun y _ hy=>hmono y hy) (fun j=>⟨Sto.le.refl _,Hs.le.refl _⟩)).add (cur':=⟨moreOf (s.kn.getD k []) s.es.length,inc ds[k].K k,stepC ds[k].C c (mkD k (ds[k].K k+1))⟩) hkn hle (by
  show cnt (s.kn.getD k [])<cnt (moreOf (s.kn.getD k []) s.es.length)
  rw[cnt_more];omega) hsz.symm (io:=io) (co:=co) (lo:=lo) (pv:=pv) (fr:=k) (st:=st) hS hI (fun hne=>absurd rfl hne)
theorem CluF.done (h:CluF ρ w x S s q cap fv ds bs D P) {t:Thk.Bs} {c:Thk.Ch} (hr:Thk.read t=.inr c) {k:Nat} (hk:k<ds.length) (hl:s.es.length<500) {e:Ev}
  (e1:toL e.p=c.path) (e2:e.a=c.act) (e3:toL e.v=c.val) (e4:e.n=c.n) (e5:e.saw=s.kn.getD k []) {r':RD} (hM:MoreD w.heap.size ds[k] k (inc ds[k].K k) (stepC ds[k].C c (mkD k (ds[k].K k+1))) r')
  (hc:CluP w' x q cap fv 0 (ds.set k r') bs) :
  ∃ S' D' P',CluF ρ w' x S' ⟨s.es ++ [e],s.kn.set k (moreOf (s.kn.getD k []) s.es.length),s.fs⟩ q cap fv (ds.set k r') bs D' P'/\∀ b,S' b->S b\/w.heap.size<=b:=by
 have hch:chOf e=c:=by unfold chOf;rw[e1,e2,e3,e4]
 have hren:=hM.renews
 obtain ⟨io,co,lo,st,pv,rfl,hS,hI,_⟩:=hM
 exact h.doneH (r':=ds[k].more io co lo pv k st (inc ds[k].K k) (stepC ds[k].C c (mkD k (ds[k].K k+1)))) hr hk hl hch e5 (h.cut k hk) rfl (fun y hy=>Or.inl hy) (h.didH hr hk hl hch e5 io co lo pv st hS hI).1 hren.r0 hc
theorem CluF.sent (h:CluF ρ w x S s q cap fv ds bs D P) {fv':Value} {k k':Nat} (hk:k<ds.length) (hk':k'<ds.length) (hne:k≠k') {b:ByteArray} (hb:FrBy b ds[k] k') (hc:CluP w' x q cap fv' 0 ds (bs ++ [(k',b)])) (hn:∀ g,fv'.ownBlock=some g->fv.ownBlock=some g\/w.heap.size<=g) :
  ∃ S',CluF ρ w' x S' ⟨s.es,s.kn,s.fs ++ [⟨k,k',0,s.kn.getD k [],b⟩]⟩ q cap fv' ds (bs ++ [(k',b)]) D P/\∀ g,S' g->S g\/w.heap.size<=g:=by
 obtain ⟨S2,C2,rs,its,h1,h2,h3,h4,h5⟩:=hb
 have hF:=h.frame1 (f:=⟨k,k',0,s.kn.getD k [],b⟩) hc ⟨rfl,rfl,hk',hk,hne,h5,fun h9=>absurd h9 (by simp),fun _=>⟨curs s ds k,S2,C2,rs,its,(h.hist k hk).now,rfl, ?_,h4, ?_⟩⟩
 ·exact ⟨_,hF,h.ownN hn⟩
 ·show toL b=sealL (encFm k (cnt (s.kn.getD k [])) rs its)
  rw[h3,(h.clu.ra k hk).1,h.size k hk]
 ·exact (h.hist k hk).brings h.evd h.clu.len h.e500 h.src (fun e=>hne e.symm) ((h.hist k' hk').ok _ (h.hist k' hk').now) h2 h1
theorem CluF.joins (h:CluF ρ w x S s q cap fv ds bs D P) {k:Nat} (hk:k<ds.length) {y:Hs} (hy:y.Ok s.es D):Kn s.es D (bothL (s.kn.getD k []) y.kn) (maxK ds[k].K y.K) (joinC ds[k].K ds[k].C y.K y.C)/\(∀ z,maxK ds[k].K y.K z<=500)/\StoB (fst (maxK ds[k].K y.K)) (joinC ds[k].K ds[k].C y.K y.C) /\
  ((∃ d,1<=nth d/\newD ds[k] (maxK ds[k].K y.K) (joinC ds[k].K ds[k].C y.K y.C) d)->cnt (s.kn.getD k [])<cnt (bothL (s.kn.getD k []) y.kn)/\sizeK ds[k].K+1<=sizeK (maxK ds[k].K y.K))/\cnt (bothL (s.kn.getD k []) y.kn)=sizeK (maxK ds[k].K y.K):=by
 have hkt:=h.tie k hk
 have hj:=hkt.join hy
 have h5:∀ z,maxK ds[k].K y.K z<=500:=fun z=>by
  have h1:=(h.clu.rep k hk).k500 z
  have h2:=Kn.dle hy h.evd z
  have h3:=h.e500
  unfold maxK;omega
 have hsz:=hj.size h.evd h.clu.len h5
 refine ⟨hj,h5,hj.stoB h.evd h.clu.len h.e500 h.src,fun hnw=>?_,hsz⟩
 have:=new_grows hkt hj (joinC_comm_le _ _).1 rfl rfl hnw
 refine ⟨this, ?_⟩
 rw[<- hsz,<- h.size k hk]
 exact this
theorem CluF.came (h:CluF ρ w x S s q cap fv ds bs D P) {fv':Value} {ds':List RepD} (f:FrD) (i k:Nat) (hfi:s.fs[i]? = some f) (hk:k<ds.length) (hkf:f.dst=k) (hsr:f.src<ds.length) (hne:f.src≠k) {y:Hs} (hy:P f.src y) (hyk:y.kn=f.known) {B:Nat} (hB:w.heap.size<=B) {b:ByteArray} (hb:toL b=sealL (encAm k (cnt y.kn)))
  (hD:RecD B ds k hk f.src (maxK ds[k].K y.K) (joinC ds[k].K ds[k].C y.K y.C) ds') (hc:CluP w' x q cap fv' 0 ds' (bs ++ [(f.src,b)])) (hn:∀ g,fv'.ownBlock=some g->fv.ownBlock=some g\/w.heap.size<=g) :
  ∃ S' P',CluF ρ w' x S' ⟨s.es,s.kn.set k (delK (s.kn.getD k []) f.known),s.fs ++ [⟨k,f.src,i+1,[],b⟩]⟩ q cap fv' ds' (bs ++ [(f.src,b)]) D P'/\(∀ g,S' g->S g\/w.heap.size<=g)/\(s.kn.set k (delK (s.kn.getD k []) f.known)=s.kn->ds'=ds):=by
 have hyo:=(h.hist f.src hsr).ok y hy
 have hkt:=h.tie k hk
 obtain ⟨hj,h5,_,hgr,hsz⟩:=h.joins hk hyo
 have hbs:b.size<=700000:=by
  rw[<- toL_length,hb]
  unfold sealL encAm
  have:=encN_len 1;have:=encN_len k;have:=encN_len (cnt y.kn)
  rw[List.length_append,sumB_len,List.length_append,List.length_append];omega
 rcases hD with ⟨hno,rfl⟩ | ⟨hnw,r',hM,rfl⟩
 ·have hsub:=new_none hkt hj h.evd rfl hno
  have hyle:y.le (curs s ds' k):=fun j hj2=>hsub j ((joinC_comm_le _ _).2 j hj2)
  have hdel:delK (s.kn.getD k []) f.known=s.kn.getD k []:=by
   unfold delK
   refine if_neg fun hlt=>?_
   rw[<- hyk] at hlt
   have:=(cnt_lt_or _ _ s.es.length hsub hj.len hkt.len).1
   omega
  have hset:s.kn.set k (s.kn.getD k [])=s.kn:=by
   have hkl:k<s.kn.length:=by rw[h.len];exact hk
   have:s.kn.getD k []=s.kn[k]:=by simp[hkl]
   rw[this,List.set_getElem_self]
  rw[hdel,hset]
  have hF:=h.frame1 (f:=⟨k,f.src,i+1,[],b⟩) hc ⟨rfl,rfl,hsr,hk,fun e=>hne e.symm,hbs,fun _=>⟨y,f,hy,hyle,hb,app_old hfi,by rw[hyk]⟩,fun h9=>absurd (Nat.succ_pos i) h9⟩
  exact ⟨_,_,hF,h.ownN hn,fun _=>rfl⟩
 ·have hren:=hM.renews.mono hB
  obtain ⟨io,co,lo,st,pv,rfl,hS,hI,_⟩:=hM
  obtain ⟨hlt,hlt2⟩:=hgr hnw
  have hdel:delK (s.kn.getD k []) f.known=bothL (s.kn.getD k []) y.kn:=by
   unfold delK
   rw[<- hyk]
   exact if_pos hlt
  rw[hdel]
  have hcur:=curs_at s ds k hk
  have hle:(curs s ds k).le ⟨bothL (s.kn.getD k []) y.kn,maxK ds[k].K y.K,joinC ds[k].K ds[k].C y.K y.C⟩:=fun j hj2=>(joinC_comm_le _ _).1 j hj2
  have hyo2:=(h.hist f.src hsr).top y hy
  have hH:=(h.hist k hk).add (cur':=⟨bothL (s.kn.getD k []) y.kn,maxK ds[k].K y.K,joinC ds[k].K ds[k].C y.K y.C⟩) hj hle hlt hsz.symm (io:=io) (co:=co) (lo:=lo) (pv:=pv) (fr:=f.src) (st:=st) hS hI (fun _=>by
   refine from_ok (a:=y) hyo ((h.hist k hk).ok _ (h.hist k hk).now) h.evd ?_ (Hs.sle hyo ((h.hist f.src hsr).ok _ (h.hist f.src hsr).now) h.evd hyo2)
   rw[hcur]
   exact ⟨rfl,rfl⟩)
  have hmax:maxK ds[k].K y.K k=ds[k].K k:=by
   unfold maxK
   by_cases h0:y.K k=0
   ·omega
   ·obtain ⟨g1,g2⟩:=hyo.all k (y.K k) (by omega) (Nat.le_refl _)
    have:=h.mine k hk _ g2 (who_mk g1)
    rw[nth_mk g1] at this
    omega
  have hF:=h.learnt hk (r':=ds[k].more io co lo pv f.src st (maxK ds[k].K y.K) (joinC ds[k].K ds[k].C y.K y.C)) (h.cut k hk) (fv':=fv') (bs':=bs ++ [(f.src,b)]) (fs':=s.fs ++ [⟨k,f.src,i+1,[],b⟩]) h.evd (fun y hy=>hy) hle hH (fun y hy=>Or.inl hy) (fun j hj d hd hw=>?_) ?_ h.e500 h.src (by simp[h.blen]) (fun _ _ h=>app_old h) (fun j h1 h2=>?_) hc
  ·refine ⟨_,_,hF,h.ownR hk hren.r0 hn,fun e=>?_⟩
   exfalso
   have e2:=getD_set s.kn k (by rw[h.len];exact hk) (bothL (s.kn.getD k []) y.kn) k
   rw[e,if_pos rfl] at e2
   rw[<- e2] at hlt
   omega
  ·by_cases e9:k=j
   ·subst e9
    rw[if_pos rfl]
    show nth d<=maxK ds[k].K y.K k
    rw[hmax]
    exact h.mine k hk d hd hw
   ·rw[if_neg e9];exact h.mine j hj d hd hw
  ·have h1:=sumN_set ds k hk (ds[k].more io co lo pv f.src st (maxK ds[k].K y.K) (joinC ds[k].K ds[k].C y.K y.C)) ds.length
   rw[if_pos hk,if_pos hk] at h1
   have h2:=h.sum
   have h3:(ds[k].more io co lo pv f.src st (maxK ds[k].K y.K) (joinC ds[k].K ds[k].C y.K y.C)).K k=ds[k].K k:=hmax
   rw[h3] at h1
   omega
  ·have hbl:=h.blen
   rcases app_get bs (f.src,b) j h1 with ⟨a1,a2⟩ | ⟨a1,a2⟩ <;> rcases app_get s.fs (⟨k,f.src,i+1,[],b⟩:FrD) j h2 with ⟨b1,b2⟩ | ⟨b1,b2⟩
   ·exact Or.inl ⟨a1,b1,a2,b2⟩
   ·omega
   ·omega
   ·refine Or.inr ?_
    rw[a2,b2]
    refine ⟨rfl,rfl,hsr,hk,fun e=>hne e.symm,hbs,fun _=>⟨y,f, ?_, ?_,hb,app_old hfi,by rw[hyk]⟩,fun h9=>absurd (Nat.succ_pos i) h9⟩
    ·show if k=f.src then _ else P f.src y
     rw[if_neg (fun e=>hne e.symm)];exact hy
    ·show y.le (if k=k then _ else _)
     rw[if_pos rfl]
     exact fun j hj2=>(joinC_comm_le _ _).2 j hj2
end

theorem CluF.bsz {ρ : Nat->Prop} {w:World} {x:Nat} {S:Nat->Prop} {s:St} {q cap:Nat} {fv:Value} {ds:List RepD} {bs:List (Nat × ByteArray)} {D:List Nat} {P:Nat->Hs->Prop} (h:CluF ρ w x S s q cap fv ds bs D P):∀ p∈bs,p.2.size<=1000000000:=by
 intro p hp
 obtain ⟨j,hj,rfl⟩:=List.getElem_of_mem hp
 obtain ⟨_,f2,_,_,_,f6,_⟩:=h.frs j hj (by rw[<- h.blen];exact hj)
 rw[f2];omega
theorem CluF.asks {ρ : Nat->Prop} {w:World} {x:Nat} {S:Nat->Prop} {s:St} {q cap:Nat} {fv:Value} {ds:List RepD} {bs:List (Nat × ByteArray)} {D:List Nat} {P:Nat->Hs->Prop} (h:CluF ρ w x S s q cap fv ds bs D P) (hG:Glob w) (i:Int) (t:ByteArray) (hs:t.size<=1048576) :
  Calls Tryz.prog 24 #[.pointer (some ⟨x,0,none⟩),.int .i64 i,.string t] w fun e w'=>∃ u,e=.returned (.tuple #[.string u,.int .i64 (askR s.es s.kn i (toL t)).2])/\toL u=(askR s.es s.kn i (toL t)).1/\CluP w' x q cap fv 0 ds bs/\Chg (fun k=>k=x) w w':=by
 have hfit:∀ e∈s.es,EvFit e:=fun e he=>by obtain ⟨u,hu⟩:=h.src e he;exact fit_of hu
 refine Calls.mono (CAsk_any w hG x q cap fv ds bs h.clu (fun j hj=>(h.tie j hj).itms h.evd h.e500 hfit) i t hs) ?_
 rintro e w' ⟨u,r,rfl,hA,hC,hc⟩
 have hle:=h.len
 have fin:(askR s.es s.kn i (toL t)).2=r/\toL u=(askR s.es s.kn i (toL t)).1:=by
  unfold askR
  rcases hA with ⟨h1,rfl,rfl⟩ | ⟨h1,h2,rfl,rfl⟩ | ⟨k,hk,rfl,h2,rfl,xs,hx,rfl⟩
  ·rw[if_neg (by rw[hle];exact h1)];exact ⟨rfl,rfl⟩
  ·rw[if_pos (by rw[hle];exact h1),h2];exact ⟨rfl,rfl⟩
  ·rw[if_pos (by rw[hle];omega),h2]
   exact ⟨rfl,tell_eq (toL t) hfit ((h.tie k hk).perm h.evd hx)⟩
 exact ⟨u,by rw[fin.1],fin.2,hC,hc⟩
theorem CluF.knows {ρ : Nat->Prop} {w:World} {x:Nat} {S:Nat->Prop} {s:St} {q cap:Nat} {fv:Value} {ds:List RepD} {bs:List (Nat × ByteArray)} {D:List Nat} {P:Nat->Hs->Prop} (h:CluF ρ w x S s q cap fv ds bs D P) (i:Int) :
  Calls Tryz.prog 22 #[.pointer (some ⟨x,0,none⟩),.int .i64 i] w fun e w'=>e=.returned (.tuple #[.int .i64 (knowsR s.kn i).1,.int .i64 (knowsR s.kn i).2])/\CluP w' x q cap fv 0 ds bs/\Chg (fun k=>k=x) w w':=by
 refine Calls.mono (CKnows_any w x q cap fv ds bs h.clu i) ?_
 rintro e w' ⟨rfl,hC,hc⟩
 have hle:=h.len
 have fin:knowsD ds i=knowsR s.kn i:=by
  unfold knowsD knowsR
  by_cases hi:0<=i/\i<ds.length
  ·rw[if_pos hi,if_pos (by rw[hle];exact hi)]
   have hk:i.toNat<ds.length:=by omega
   rw[(h.tie i.toNat hk).size h.evd h.clu.len (h.clu.rep _ hk).k500,List.getElem?_eq_getElem hk]
   rfl
  ·rw[if_neg hi,if_neg (by rw[hle];exact hi)]
 exact ⟨by rw[fin],hC,hc⟩
def KeepA (ds ds':List RepD):Prop:=ds'.length=ds.length/\∀ i (h:i<ds.length) (h':i<ds'.length),ds'[i].K=ds[i].K/\ds'[i].ps=ds[i].ps/\ds'[i].dr=ds[i].dr/\ds'[i].nb=ds[i].nb/\∀ j,ds[i].A j<=ds'[i].A j
theorem KeepA.refl (ds:List RepD):KeepA ds ds:=⟨rfl,fun _ _ _=>⟨rfl,rfl,rfl,rfl,fun _=>Nat.le_refl _⟩⟩
theorem ack_keep (ds:List RepD) {k:Nat} (hk:k<ds.length) {j m:Nat} : KeepA ds (ds.set k (ds[k].ack j m)):=by
 refine ⟨by simp,fun i h h'=>?_⟩
 rw[List.getElem_set]
 by_cases e:k=i
 ·subst e
  rw[if_pos rfl]
  refine ⟨rfl,rfl,rfl,rfl,fun x=>?_⟩
  show ds[k].A x<=if x=j then max (ds[k].A j) m else ds[k].A x
  split
  ·rename_i e;rw[e];omega
  ·exact Nat.le_refl _
 ·rw[if_neg e];exact ⟨rfl,rfl,rfl,rfl,fun _=>Nat.le_refl _⟩
theorem CluF.dels {ρ : Nat->Prop} {w:World} {x:Nat} {S:Nat->Prop} {s:St} {q cap:Nat} {fv:Value} {ds:List RepD} {bs:List (Nat × ByteArray)} {D:List Nat} {P:Nat->Hs->Prop} (h:CluF ρ w x S s q cap fv ds bs D P) (hG:Glob w) (f:Int) :
  Calls Tryz.prog 31 #[.pointer (some ⟨x,0,none⟩),.int .i64 f] w fun e w'=>e=.returned (.tuple #[.int .i64 (delR s f).1,.int .i64 (delR s f).2])/\∃ S' s' fv' ds' bs' P',DelTo s f s'/\CluF ρ w' x S' s' q cap fv' ds' bs' D P'/\(s'.kn=s.kn->KeepA ds ds')/\(∀ g g0,frNo s f=some g->0<g.ack->frNo s (g.ack:Int)=some g0->∀ h':g.dst<ds'.length,cnt g0.known<=ds'[g.dst].A g.src)/\(∀ k,S' k->S k\/w.heap.size<=k)/\Chg S w w':=by
 have hbl:=h.blen
 by_cases hf:1<=f/\f<=bs.length
 ·obtain ⟨i,rfl⟩:∃ i:Nat,f=(i:Int)+1:=⟨(f-1).toNat,by omega⟩
  have hi:i<bs.length:=by omega
  have hi':i<s.fs.length:=by omega
  have hno:frNo s ((i:Int)+1)=some s.fs[i]:=by
   unfold frNo
   rw[if_pos (by omega),show ((i:Int)+1).toNat-1=i by omega,List.getElem?_eq_getElem hi']
  obtain ⟨f1,f2,f3,f4,f5,f6,f7,f8⟩:=h.frs i hi hi'
  have h505:∀ {j:Nat} (hj:j<ds.length) {y:Hs},P j y->cnt y.kn<=505:=fun {j} hj {y} hy=>by
   have h1:=((h.hist j hj).ok y hy).len
   have h2:=cnt_len y.kn
   have h3:=h.e500
   omega
  by_cases ha:0<s.fs[i].ack
  ·have e1:delR s ((i:Int)+1)=(0,0):=by unfold delR;rw[hno];exact if_pos ha
   have e2:DelTo s ((i:Int)+1) s:=⟨rfl,by rw[hno];dsimp only;rw[if_pos (Or.inl ha)];exact ⟨rfl,rfl⟩⟩
   obtain ⟨t,g0,t1,t2,t3,tg,tk⟩:=f7 ha
   refine Calls.mono (CDel_of w x q cap fv ds bs h.clu i hi S ((h.own x).2 (Or.inl rfl)) (fun n r wx=>n=0/\r=0/\CluP wx x q cap fv 0 (ds.set s.fs[i].dst (ds[s.fs[i].dst].ack s.fs[i].src (cnt t.kn))) bs/\Chg S w wx) (fun wx hx hc=>?_)) ?_
   ·rw[f1,f2]
    refine Calls.mono (come_ack wx x q cap fv ds bs hx _ f3 _ s.fs[i].src (cnt t.kn) f4 f5 (h505 f3 t1) t3) ?_
    rintro e w' ⟨rfl,hC',hc'⟩
    exact ⟨0,0,fv,_,bs,rfl,hC',fun h1 h2=>⟨rfl,rfl,h1,h2⟩,(h.sx hc).trans (hc'.wide (fun k hk=>(h.own k).2 (Or.inr (Or.inr (Or.inr ⟨_,f3,hk⟩)))))⟩
   ·rintro e w' ⟨n,r,rfl,rfl,rfl,h1,h2⟩
    have hF:=h.same f3 (r':=ds[s.fs[i].dst].ack s.fs[i].src (cnt t.kn)) (h.cut _ f3) rfl rfl ((h.hist _ f3).acked _ t1 t2) h1
    refine ⟨by rw[e1],_,s,fv,_,bs,P,e2,hF,fun _=>ack_keep ds f3,fun g g0' hg _ hg0 h'=>?_,h.ownR f3 (ack_renews _ _ _ _).r0 (fun g hg=>Or.inl hg),h2⟩
    rw[hno] at hg
    cases hg
    have e0:s.fs[s.fs[i].ack-1]? = some g0':=by
     unfold frNo at hg0
     split at hg0
     ·rw[show (((s.fs[i].ack:Nat):Int)).toNat-1=s.fs[i].ack-1 by omega] at hg0;exact hg0
     ·cases hg0
    rw[tg] at e0
    cases e0
    rw[<- tk,List.getElem_set,if_pos rfl]
    show cnt t.kn<=(if s.fs[i].src=s.fs[i].src then max (ds[s.fs[i].dst].A s.fs[i].src) (cnt t.kn) else _)
    rw[if_pos rfl];omega
  ·obtain ⟨y,S2,C2,rs,its,y1,y2,y3,y4,y5⟩:=f8 ha
   have hyo:=(h.hist _ f4).ok y y1
   have h6:=h.clu.len
   by_cases h5:500<=bs.length
   ·have e1:delR s ((i:Int)+1)=(0,7):=by unfold delR;rw[hno];exact (if_neg ha).trans (if_pos (by omega))
    have e2:DelTo s ((i:Int)+1) s:=⟨rfl,by rw[hno];dsimp only;rw[if_pos (Or.inr (show 500<=s.fs.length by omega))];exact ⟨rfl,rfl⟩⟩
    refine Calls.mono (CDel_of w x q cap fv ds bs h.clu i hi (fun k=>k=x) rfl (fun n r wx=>n=0/\r=7/\CluP wx x q cap fv 0 ds bs/\Chg (fun k=>k=x) w wx) (fun wx hx hc=>?_)) ?_
    ·rw[f1,f2]
     refine Calls.mono (come_full wx (hG.chg4 hc (fun k e=>by subst e;exact h.clu.x4)) x q cap fv ds bs hx _ f3 _ s.fs[i].src (cnt y.kn) (by omega) (h505 f4 y1) S2 C2 rs its y3 y4 (by omega) h5) ?_
     rintro e w' ⟨rfl,hb⟩
     exact ⟨0,7,fv,ds,bs,rfl,hx.below hb,fun h1 h2=>⟨rfl,rfl,h1,h2⟩,hc.below hb⟩
    ·rintro e w' ⟨n,r,rfl,rfl,rfl,h1,h2⟩
     exact ⟨by rw[e1],S,s,fv,ds,bs,P,e2,h.keep h1,fun _=>KeepA.refl _,fun g g0 hg h9=>by rw[hno] at hg;cases hg;exact absurd h9 ha,fun k hk=>Or.inl hk,h.sx h2⟩
   ·have e1:delR s ((i:Int)+1)=(((bs.length+1:Nat):Int),0):=by
     unfold delR;rw[hno]
     refine ((if_neg ha).trans (if_neg (by omega))).trans ?_
     rw[hbl];(first | done | rfl)
    obtain ⟨_,j2,j3,j4,_⟩:=h.joins f3 hyo
    refine Calls.mono (CDel_of w x q cap fv ds bs h.clu i hi S ((h.own x).2 (Or.inl rfl)) (fun n r wx=>n=((bs.length+1:Nat):Int)/\r=0/\Chg S w wx/\∃ S' b fv' ds' bs' P',CluF ρ wx x S' ⟨s.es,s.kn.set s.fs[i].dst (delK (s.kn.getD s.fs[i].dst []) s.fs[i].known),s.fs ++ [⟨s.fs[i].dst,s.fs[i].src,i+1,[],b⟩]⟩ q cap fv' ds' bs' D P'/\(∀ g,S' g->S g\/w.heap.size<=g)/\(s.kn.set s.fs[i].dst (delK (s.kn.getD s.fs[i].dst []) s.fs[i].known)=s.kn->ds'=ds)) (fun wx hx hc=>?_)) ?_
    ·rw[f1,f2]
     refine Calls.mono (come_br wx (hG.chg4 hc (fun k e=>by subst e;exact h.clu.x4)) x q cap fv ds bs hx s.fs[i].dst f3 (h.cut _ f3).1 _ s.fs[i].src (cnt y.kn) (by omega) (h505 f4 y1) S2 C2 rs its y3 y4 (by omega) (by omega) _ _ (fun ib cb lb=>joinTo_brings y4 (h.tie _ f3) hyo h.evd (by rw[curs_at s ds _ f3] at y5;exact y5) (some ib) (some cb) (some lb) _ rfl rfl) j3 j2 (fun hh=>(j4 hh).2)) ?_
     rintro e w' ⟨ds',b,fv',rfl,hbb,hC',hD',hc',hn'⟩
     have hcS:Chg S w w':=(hc.wide (fun k e=>(h.own k).2 (Or.inl e))).trans (hc'.wide (fun k hk=>(h.own k).2 (by
      rcases hk with hk | hk | hk
      ·exact Or.inl hk
      ·exact Or.inr (Or.inr (Or.inl hk))
      ·exact Or.inr (Or.inr (Or.inr ⟨_,f3,hk⟩)))))
     have hz:=hc.size
     refine ⟨_,_,fv',_,_,rfl,hC',fun h1 h2=>⟨rfl,rfl,h2, ?_⟩,hcS⟩
     obtain ⟨S',P',h7,h8,h9⟩:=h.came s.fs[i] i s.fs[i].dst (List.getElem?_eq_getElem hi') f3 rfl f4 f5 y1 y2 hz hbb hD' h1 (fun g hg=>(hn' g hg).imp id (fun h9=>Nat.le_trans hz h9))
     exact ⟨S',b,_,_,_,P',h7,h8,h9⟩
    ·rintro e w' ⟨n,r,rfl,rfl,rfl,h1,S',b,fv',ds',bs',P',h2,h3,h4⟩
     refine ⟨by rw[e1],S',⟨s.es,s.kn.set s.fs[i].dst (delK (s.kn.getD s.fs[i].dst []) s.fs[i].known),s.fs ++ [⟨s.fs[i].dst,s.fs[i].src,i+1,[],b⟩]⟩,fv',ds',bs',P',⟨rfl, ?_⟩,h2,fun hk=>by rw[h4 hk];exact KeepA.refl _,fun g g0 hg h9=>by rw[hno] at hg;cases hg;exact absurd h9 ha,h3,h1⟩
     rw[hno]
     dsimp only
     rw[if_neg (show ¬(0<s.fs[i].ack\/500<=s.fs.length) by omega)]
     exact ⟨rfl,b,rfl⟩
 ·have hno:frNo s f=none:=by unfold frNo;rw[if_neg (by rw[<- hbl];exact hf)]
  refine Calls.mono (CDel_bad w x q cap fv ds bs h.clu f hf) ?_
  rintro e w' ⟨rfl,hC,hc⟩
  exact ⟨by unfold delR;rw[hno],S,s,fv,ds,bs,P,⟨rfl,by rw[hno];exact ⟨rfl,rfl⟩⟩,h.keep hC,fun _=>KeepA.refl _,fun g g0 hg=>absurd (hno.symm.trans hg) (by simp),fun k hk=>Or.inl hk,h.sx hc⟩
theorem CluF.sends {ρ : Nat->Prop} {w:World} {x:Nat} {S:Nat->Prop} {s:St} {q cap:Nat} {fv:Value} {ds:List RepD} {bs:List (Nat × ByteArray)} {D:List Nat} {P:Nat->Hs->Prop} (h:CluF ρ w x S s q cap fv ds bs D P) (hG:Glob w) (i j:Int) :
  Calls Tryz.prog 27 #[.pointer (some ⟨x,0,none⟩),.int .i64 i,.int .i64 j] w fun e w'=>e=.returned (.tuple #[.int .i64 (sendR s i j).1,.int .i64 (sendR s i j).2])/\∃ S' s' fv' bs',SendTo s i j s'/\CluF ρ w' x S' s' q cap fv' ds bs' D P/\(∀ (k k':Nat) (b:ByteArray),s'.fs=s.fs ++ [⟨k,k',0,s.kn.getD k [],b⟩]->∀ hk:k<ds.length,FrBy b ds[k] k')/\(∀ k,S' k->S k\/w.heap.size<=k)/\Chg S w w':=by
 refine Calls.mono (CSend_any w hG x q cap fv ds bs h.clu (fun j hj=>⟨(h.hist j hj).pcOK h.evd h.clu.len h.e500 h.src,by have h1:=h.size j hj;have h2:=cnt_len (s.kn.getD j []);have h3:=(h.tie j hj).len;have h4:=h.e500;omega⟩) i j) ?_
 rintro e w' ⟨n,r,bs',fv',rfl,hD,hC,hc,hn⟩
 have hle:=h.len
 have hbl:=h.blen
 have hcS:Chg S w w':=hc.wide (fun k hk=>(h.own k).2 (hk.elim Or.inl (fun hk=>Or.inr (Or.inr (Or.inl hk)))))
 have hno:∀ (f:FrD) {Q:Prop},s.fs=s.fs ++ [f]->Q:=fun f Q e=>by have:=congrArg List.length e;simp at this
 have same:∀ {fv2:Value},CluP w' x q cap fv2 0 ds bs->(∀ g,fv2.ownBlock=some g->fv.ownBlock=some g\/w.heap.size<=g)->∃ S',CluF ρ w' x S' s q cap fv2 ds bs D P/\∀ g,S' g->S g\/w.heap.size<=g:=fun {fv2} hC2 hn2=>⟨ownS x q fv2 ds,⟨hC2,fun g=>Iff.rfl,h.len,h.evd,h.hist,h.mine,h.sum,h.e500,h.src,h.blen,h.frs,h.cut⟩,h.ownN hn2⟩
 rcases hD with ⟨hi,rfl,rfl,rfl⟩ | ⟨hi,hij,rfl,rfl,rfl⟩ | ⟨hi,hij,h5,rfl,rfl,rfl⟩ | ⟨k,k',hk,b,rfl,rfl,hk',hij,h5,rfl,rfl,rfl,hb⟩
 ·have e1:sendR s i j=(0,2):=by unfold sendR;rw[if_neg (by rw[hle];exact hi)]
  obtain ⟨S',h7,h8⟩:=same hC hn
  exact ⟨by rw[e1],S',s,fv',bs',⟨rfl,rfl,by rw[e1,if_neg (by decide)]⟩,h7,fun _ _ _ e=>hno _ e,h8,hcS⟩
 ·have e1:sendR s i j=(0,1):=by unfold sendR;rw[if_pos (by rw[hle];exact hi),if_pos hij]
  obtain ⟨S',h7,h8⟩:=same hC hn
  exact ⟨by rw[e1],S',s,fv',bs',⟨rfl,rfl,by rw[e1,if_neg (by decide)]⟩,h7,fun _ _ _ e=>hno _ e,h8,hcS⟩
 ·have e1:sendR s i j=(0,7):=by unfold sendR;rw[if_pos (by rw[hle];exact hi),if_neg hij,if_pos (by omega)]
  obtain ⟨S',h7,h8⟩:=same hC hn
  exact ⟨by rw[e1],S',s,fv',bs',⟨rfl,rfl,by rw[e1,if_neg (by decide)]⟩,h7,fun _ _ _ e=>hno _ e,h8,hcS⟩
 ·have e1:sendR s (k:Int) (k':Int)=(((bs.length+1:Nat):Int),0):=by unfold sendR;rw[if_pos (by rw[hle];omega),if_neg hij,if_neg (by omega),hbl];(first | done | rfl)
  obtain ⟨S',h7,h8⟩:=h.sent hk hk' (by omega) hb hC hn
  refine ⟨by rw[e1],S',⟨s.es,s.kn,s.fs ++ [⟨k,k',0,s.kn.getD k [],b⟩]⟩,fv',_,⟨rfl,rfl,by rw[e1,if_pos rfl];exact ⟨b,rfl⟩⟩,h7,fun a a' b2 e ha=>?_,h8,hcS⟩
  have e2:=List.append_cancel_left e
  simp only[List.cons.injEq,FrD.mk.injEq,and_true] at e2
  obtain ⟨rfl,rfl,_,_,rfl⟩:=e2
  exact hb
theorem prog_ok (ρ : Nat->Prop):ProgOK (ProgF ρ) ρ:={
 bad:=by
  intro w r room _ h
  refine Calls.mono (New_bad r room w h) ?_
  rintro e w' ⟨rfl,rfl⟩
  exact ⟨rfl,Below.refl _ _⟩
 good:=by
  intro w r room hG h1 h6 h50 hρ
  have h4:4<=w.heap.size:=hG.size
  refine Calls.mono (New_good r room w hG h1 h6 h50) ?_
  rintro e w' ⟨rv,ds,rfl,hr,hN⟩
  subst hr
  obtain ⟨q,cap,rfl,hq,hC⟩:=hN.done h4 h1 h6 rfl
  have hin:∀ j (h:j<ds.length),∃ rb kb db ab,ds[j]=initR rb kb db ab j room ds.length:=fun j h=>(hN.rep j h).2.1
  have hcu:∀ j,curs ⟨[],List.replicate ds.length [],[]⟩ ds j=⟨[],fun _=>0,fun _=>none⟩:=fun j=>by
   unfold curs
   have h9:(List.replicate ds.length ([]:List Bool)).getD j []=[]:=by
    by_cases hj:j<ds.length
    ·simp[hj]
    ·rw[List.getD_eq_getElem?_getD,List.getElem?_eq_none (by simp;omega)];(first | done | rfl)
   show Hs.mk ((List.replicate ds.length ([]:List Bool)).getD j []) _ _=_
   rw[h9]
   by_cases hj:j<ds.length
   ·obtain ⟨rb,kb,db,ab,e9⟩:=hin j hj
    rw[List.getElem?_eq_getElem hj,e9]
    rfl
   ·rw[List.getElem?_eq_none (by omega)];(first | done | rfl)
  refine ⟨w.heap.size,ownS w.heap.size q (.slice none 0 0) ds,rfl,⟨q,cap,.slice none 0 0,ds,[],[],fun _ y=>y=⟨[],fun _=>0,fun _=>none⟩,hC,fun k=>Iff.rfl,by simp,⟨rfl,List.Pairwise.nil,fun d h=>absurd h (by simp)⟩,fun j hj=>?_,fun j hj d h=>absurd h (by simp), ?_,by simp,fun e he=>absurd he (by simp),rfl,fun j h=>absurd h (by simp),fun j hj=>by obtain ⟨rb,kb,db,ab,e9⟩:=hin j hj;rw[e9];exact ⟨rfl,hρ⟩⟩,fun k hk=>?_,hN.bel⟩
  ·rw[hcu j]
   obtain ⟨rb,kb,db,ab,e9⟩:=hin j hj
   rw[e9]
   refine ⟨fun y hy=>by subst hy;exact Kn.nil,⟨_,rfl,rfl⟩,rfl,rfl,rfl,fun y y' hy hy' _=>by subst hy;subst hy';exact Hs.le.refl _,fun y hy=>by subst hy;exact Hs.le.refl _,⟨_,rfl,rfl,rfl⟩,fun i=>⟨_,rfl,rfl,by rw[hcu i];exact Hs.le.refl _⟩⟩
  ·have hz:∀ m,sumN ds m=0:=fun m=>by
    induction m with
    | zero=>rfl
    | succ m ih =>
     rw[sumN,ih]
     unfold ownN
     by_cases hm:m<ds.length
     ·obtain ⟨rb,kb,db,ab,e9⟩:=hin m hm
      rw[List.getElem?_eq_getElem hm,e9]
      rfl
     ·rw[List.getElem?_eq_none (by omega)];(first | done | rfl)
   rw[hz];(first | done | rfl)
  ·rcases hk with rfl | rfl | hk | ⟨j,hj,ho⟩
   ·exact Nat.le_refl _
   ·exact hq
   ·cases hk
   ·exact (hN.rep j hj).2.2 k ho
 does:=by
  rintro w x S s i t r es' kn' hG ⟨q,cap,fv,ds,bs,D,P,h⟩ hs hd
  refine Calls.mono (CDo_any w hG x q cap fv ds bs h.clu (fun k hk=>(h.cut k hk).1) i t hs (fun k hk c hr hl=>(h.doB hr hk (by rw[<- h.sum];exact hl)).2.2.1)) ?_
  rintro e w' ⟨r',ds',rfl,hD,hC,hc⟩
  have hcS:Chg S w w':=h.sc hc
  have hle:=h.len
  have hsm:=h.sum
  rcases hD with ⟨hi,rfl,rfl⟩ | ⟨m,hi,hr,rfl,rfl⟩ | ⟨c,hi,hr,hl,rfl,rfl⟩ | ⟨c,k,hk,r2,rfl,hr,hl,hM,rfl,rfl⟩ <;>
   rcases hd with ⟨h3,rfl,rfl,rfl⟩ | ⟨k',h3,h4,rfl,rfl,rfl⟩ | ⟨c',h3,h4,h5,rfl,rfl,rfl⟩ | ⟨c',e',h3,h4,h5,b1,b2,b3,b4,b5,rfl,rfl,rfl⟩
  ·exact ⟨rfl,S,(h.keep hC).prog,fun k hk=>Or.inl hk,hcS⟩
  ·exact absurd h3 (by rw[hle];exact hi)
  ·exact absurd h3 (by rw[hle];exact hi)
  ·exact absurd h3 (by rw[hle];exact hi)
  ·exact absurd (by rw[hle];exact hi) h3
  ·rw[hr] at h4;cases h4;exact ⟨rfl,S,(h.keep hC).prog,fun k hk=>Or.inl hk,hcS⟩
  ·rw[hr] at h4;cases h4
  ·rw[hr] at h4;cases h4
  ·exact absurd (by rw[hle];exact hi) h3
  ·rw[hr] at h4;cases h4
  ·exact ⟨rfl,S,(h.keep hC).prog,fun k hk=>Or.inl hk,hcS⟩
  ·omega
  ·exact absurd (by rw[hle];omega) h3
  ·rw[hr] at h4;cases h4
  ·omega
  ·rw[hr] at h4
   cases h4
   obtain ⟨S',_,_,h6,h7⟩:=h.done hr hk h5 b1 b2 b3 b4 b5 hM hC
   exact ⟨rfl,S',h6.prog,h7,hcS⟩
 asks:=by
  rintro w x S s i t hG ⟨q,cap,fv,ds,bs,D,P,h⟩ hs
  refine Calls.mono (h.asks hG i t hs) ?_
  rintro e w' ⟨u,rfl,hu,hC,hc⟩
  exact ⟨u,rfl,hu,S,(h.keep hC).prog,fun k hk=>Or.inl hk,h.sx hc⟩
 knows:=by
  rintro w x S s i hG ⟨q,cap,fv,ds,bs,D,P,h⟩
  refine Calls.mono (h.knows i) ?_
  rintro e w' ⟨rfl,hC,hc⟩
  exact ⟨rfl,S,(h.keep hC).prog,fun k hk=>Or.inl hk,h.sx hc⟩
 sends:=by
  rintro w x S s i j hG ⟨q,cap,fv,ds,bs,D,P,h⟩
  refine Calls.mono (h.sends hG i j) ?_
  rintro e w' ⟨rfl,S',s',fv',bs',h1,h2,_,h3,h4⟩
  exact ⟨rfl,S',s',h1,h2.prog,h3,h4⟩
 frame:=by
  rintro w x S s f hG ⟨q,cap,fv,ds,bs,D,P,h⟩
  refine Calls.mono (CFrame_any w x q cap fv ds bs h.clu h.bsz f) ?_
  rintro e w' ⟨rfl,hC,hc⟩
  have hbl:=h.blen
  have fin:frameD bs f=frameR s f:=by
   unfold frameD frameR frNo
   by_cases hf:1<=f/\f<=bs.length
   ·rw[if_pos hf,if_pos (by rw[<- hbl];exact hf)]
    have h1:f.toNat-1<bs.length:=by omega
    have h2:f.toNat-1<s.fs.length:=by omega
    obtain ⟨_,f2,_⟩:=h.frs _ h1 h2
    rw[List.getElem?_eq_getElem h1,List.getElem?_eq_getElem h2]
    simp only[Option.map_some,Option.getD_some]
    rw[f2]
   ·rw[if_neg hf,if_neg (by rw[<- hbl];exact hf)]
  refine ⟨by rw[fin],S,(h.keep hC).prog,fun k hk=>Or.inl hk,h.sx hc⟩
 dels:=by
  rintro w x S s f hG ⟨q,cap,fv,ds,bs,D,P,h⟩
  refine Calls.mono (h.dels hG f) ?_
  rintro e w' ⟨rfl,S',s',fv',ds',bs',P',h1,h2,_,_,h3,h4⟩
  exact ⟨rfl,S',s',h1,h2.prog,h3,h4⟩
 fsz:=by
  rintro w x S s f g ⟨q,cap,fv,ds,bs,D,P,h⟩ hg
  unfold frNo at hg
  by_cases hf:1<=f/\f<=s.fs.length
  ·rw[if_pos hf] at hg
   have h2:f.toNat-1<s.fs.length:=by omega
   rw[List.getElem?_eq_getElem h2] at hg
   cases hg
   have:=(h.frs _ (by rw[h.blen];exact h2) h2).2.2.2.2.2.1
   omega
  ·rw[if_neg hf] at hg;cases hg
 flen:=by
  rintro w x S s ⟨q,cap,fv,ds,bs,D,P,h⟩
  have:=h.clu.b500
  have:=h.blen
  omega }
end Go.Proofs.YtfmmllpjgkgeaaaGreatDoor

