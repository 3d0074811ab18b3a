import Derived.Test.YtfmmllpjgkgeaaaGreatDoorPartV33
import Derived.Test.YtfmmllpjgkgeaaaGreatDoorPartV38
set_option linter.unusedVariables false
set_option linter.unusedSimpArgs false
set_option maxHeartbeats 16000000
set_option maxRecDepth 100000
namespace Go.Proofs.YtfmmllpjgkgeaaaGreatDoor
open Go.RowKit Go.Maps Go.WideMaps

theorem blk_tag {w:World} {b:Nat} {cs:Array Value} {t t':TypeId} (h:Blk w b cs t) (ht:Tagged w b t'):t'=t:=by
 obtain ⟨cur,h3⟩:=ht
 exact (blk_types h h3).2.symm
theorem RepF.tag {w:World} {r:RD} (h:RepF w r) {k:Nat} (ho:r.own k) {t:TypeId} (ht:Tagged w k t):t=125\/t=220\/t=222\/t=229:=by
 obtain ⟨cur,hcur⟩:=ht
 refine Classical.byContradiction fun hn=>?_
 refine h.not_own (cs:=cur) (t:=t) hcur (fun e=>hn (Or.inl e)) (fun e=>hn (Or.inr (Or.inl e))) (fun e=>hn (Or.inr (Or.inr (Or.inl e)))) (fun e=>hn (Or.inr (Or.inr (Or.inr e)))) ho
theorem CluP.repTag {w:World} {x q cap:Nat} {fv:Value} {st:Int} {ds:List RepD} {bs:List (Nat × ByteArray)} (h:CluP w x q cap fv st ds bs) (j:Nat) (hj:j<ds.length) {k:Nat} (ho:ds[j].own k) {t:TypeId} (ht:Tagged w k t):t=125\/t=220\/t=222\/t=229:=(h.rep j hj).tag ho ht
theorem Thk.read_fit (l:Thk.Bs) (c:Thk.Ch) (h:Thk.read l=.inr c):Thk.fits (Thk.kindOf c.path) c.act=true:=by
 unfold Thk.read at h
 split at h
 ·cases h
 ·unfold Thk.readAt at h
  split at h
  ·cases h
  ·split at h
   ·cases h
   ·rename_i h3
    have e:=operand_inr h
    rw[e]
    simpa using h3
theorem fit_of {e:Ev} {t:Thk.Bs} (h:Thk.read t=.inr (chOf e)):EvFit e:=by
 obtain ⟨p1,p2,p3,p4,_⟩:=Thk.read_ok _ _ h
 have hf:=Thk.read_fit _ _ h
 unfold chOf at p1 p2 p3 p4 hf
 simp only at p1 p2 p3 p4 hf
 exact ⟨hf,by rw[<- toL_length];omega,by rw[<- toL_length];omega,by omega,by omega⟩

structure CluV (w:World) (x:Nat) (S:Nat->Prop) (s:St) (q cap:Nat) (fv:Value) (ds:List RepD) (bs:List (Nat × ByteArray)) (D:List Nat):Prop where
 clu:CluP w x q cap fv 0 ds bs
 own:∀ k,S k↔k=x\/k=q\/fv.ownBlock=some k\/∃ j,∃ h:j<ds.length,ds[j].own k
 len:s.kn.length=ds.length
 evd:EvD s.es D ds.length
 tie:∀ j (h:j<ds.length),Kn s.es D (s.kn.getD j []) ds[j].K ds[j].C
 mine:∀ j (h:j<ds.length) d,d∈D->who d=j->nth d<=ds[j].K j
 sum:sumN ds ds.length=s.es.length
 e500:s.es.length<=500
 src:∀ e∈s.es,∃ t,Thk.read t=.inr (chOf e)
def ProgV (w:World) (x:Nat) (S:Nat->Prop) (s:St):Prop:=∃ q cap fv ds bs D,CluV w x S s q cap fv ds bs D
section
variable {w w':World} {x:Nat} {S:Nat->Prop} {s:St} {q cap:Nat} {fv:Value} {ds:List RepD} {bs:List (Nat × ByteArray)} {D:List Nat}
theorem CluV.chg {M:Nat->Prop} (h:CluV w x S s q cap fv ds bs D) (hc:Chg M w w') (hm:∀ k,S k->¬M k):CluV w' x S s q cap fv ds bs D :=
 ⟨h.clu.chg hc (hm x ((h.own x).2 (Or.inl rfl))) (hm q ((h.own q).2 (Or.inr (Or.inl rfl)))) (fun j hj k hk=>hm k ((h.own k).2 (Or.inr (Or.inr (Or.inr ⟨j,hj,hk⟩))))) (fun g hg=>hm g ((h.own g).2 (Or.inr (Or.inr (Or.inl hg))))),h.own,h.len,h.evd,h.tie,h.mine,h.sum,h.e500,h.src⟩
theorem CluV.tags (h:CluV w x S s q cap fv ds bs D) {k:Nat} (hk:S k) {t:TypeId} (ht:Tagged w k t):¬isRef t/\t≠4/\t≠159/\t≠63/\t≠116:=by
 have key:t=79\/t=81\/t=109\/t=125\/t=220\/t=222\/t=229:=by
  rcases (h.own k).1 hk with rfl | rfl | hk | ⟨j,hj,ho⟩
  ·exact Or.inl (blk_tag h.clu.blk ht)
  ·obtain ⟨cs,r1,_⟩:=h.clu.row
   exact Or.inr (Or.inl (blk_tag r1 ht))
  ·exact Or.inr (Or.inr (Or.inl (tag_same ht (h.clu.frT k hk))))
  ·exact Or.inr (Or.inr (Or.inr (h.clu.repTag j hj ho ht)))
 unfold isRef
 rcases key with rfl | rfl | rfl | rfl | rfl | rfl | rfl <;> decide
theorem CluV.lt (h:CluV w x S s q cap fv ds bs D) {k:Nat} (hk:S k):k<w.heap.size:=by
 rcases (h.own k).1 hk with rfl | rfl | hk | ⟨j,hj,ho⟩
 ·exact h.clu.blk.lt
 ·obtain ⟨cs,r1,_⟩:=h.clu.row
  exact r1.lt
 ·exact (h.clu.frT k hk).lt
 ·exact (h.clu.rep j hj).lt ho
theorem CluV.keep (h:CluV w x S s q cap fv ds bs D) (hc:CluP w' x q cap fv 0 ds bs):CluV w' x S s q cap fv ds bs D:=⟨hc,h.own,h.len,h.evd,h.tie,h.mine,h.sum,h.e500,h.src⟩
theorem CluV.prog (h:CluV w x S s q cap fv ds bs D):ProgV w x S s:=⟨q,cap,fv,ds,bs,D,h⟩
theorem CluV.sx (h:CluV w x S s q cap fv ds bs D) (hc:Chg (fun k=>k=x) w w'):Chg S w w':=hc.wide (fun k e=>(h.own k).2 (Or.inl e))
theorem CluV.sc (h:CluV w x S s q cap fv ds bs D) (hc:Chg (cluOwn x ds) w w'):Chg S w w':=hc.wide (fun k e=>(h.own k).2 (by
 rcases e with e | e
 ·exact Or.inl e
 ·exact Or.inr (Or.inr (Or.inr e))))
def ownS (x q:Nat) (fv:Value) (ds:List RepD) (b:Nat):Prop:=b=x\/b=q\/fv.ownBlock=some b\/∃ j,∃ h:j<ds.length,ds[j].own b
theorem CluV.ownR (h:CluV w x S s q cap fv ds bs D) {fv':Value} {k:Nat} (hk:k<ds.length) {r':RD} (hr:Renews w.heap.size ds[k] r') (hn:∀ g,fv'.ownBlock=some g->fv.ownBlock=some g\/w.heap.size<=g):∀ b,ownS x q fv' (ds.set k r') b->S b\/w.heap.size<=b:=by
 intro b hb
 rcases hb with rfl | rfl | hb | ⟨j,hj,ho⟩
 ·exact Or.inl ((h.own _).2 (Or.inl rfl))
 ·exact Or.inl ((h.own _).2 (Or.inr (Or.inl rfl)))
 ·exact (hn b hb).imp (fun h9=>(h.own _).2 (Or.inr (Or.inr (Or.inl h9)))) id
 ·have hj':j<ds.length:=by simpa using hj
  rw[List.getElem_set] at ho
  by_cases e9:k=j
  ·rw[if_pos e9] at ho
   exact (hr.own b ho).imp (fun h9=>(h.own _).2 (Or.inr (Or.inr (Or.inr ⟨k,hk,h9⟩)))) id
  ·rw[if_neg e9] at ho
   exact Or.inl ((h.own _).2 (Or.inr (Or.inr (Or.inr ⟨j,hj',ho⟩))))
theorem ownN_set (ds:List RepD) (k:Nat) (hk:k<ds.length) (d:RepD) (j:Nat):ownN (ds.set k d) j=if j=k then d.K k else ownN ds j:=by
 unfold ownN
 rw[List.getElem?_set]
 by_cases e:k=j
 ·subst e;simp[hk]
 ·rw[if_neg e,if_neg (fun h=>e h.symm)]
theorem sumN_set (ds:List RepD) (k:Nat) (hk:k<ds.length) (d:RepD):∀ m,sumN (ds.set k d) m+(if k<m then ds[k].K k else 0)=sumN ds m+(if k<m then d.K k else 0)
 | 0=>by simp[sumN]
 | m+1=>by
  have ih:=sumN_set ds k hk d m
  rw[sumN,sumN,ownN_set ds k hk]
  by_cases e:m=k
  ·subst e
   rw[if_pos rfl,if_pos (by omega),if_pos (by omega)]
   rw[if_neg (by omega),if_neg (by omega)] at ih
   rw[ownN_eq ds m hk]
   omega
  ·rw[if_neg e]
   by_cases h2:k<m
   ·rw[if_pos h2,if_pos h2] at ih
    rw[if_pos (by omega),if_pos (by omega)]
    omega
   ·rw[if_neg h2,if_neg h2] at ih
    rw[if_neg (by omega),if_neg (by omega)]
    omega
theorem getD_set (kn:List (List Bool)) (k:Nat) (hk:k<kn.length) (a:List Bool) (j:Nat):(kn.set k a).getD j []=if k=j then a else kn.getD j []:=by
 rw[List.getD_eq_getElem?_getD,List.getElem?_set]
 by_cases e:k=j
 ·subst e;simp[hk]
 ·rw[if_neg e,if_neg e,List.getD_eq_getElem?_getD]

theorem CluV.doB (h:CluV w x S s q cap fv ds bs D) {t:Thk.Bs} {c:Thk.Ch} (hr:Thk.read t=.inr c) {k:Nat} (hk:k<ds.length) (hl:s.es.length<500):mkD k (ds[k].K k+1) ∉ D/\ds[k].K k+1<=500/\StoB (fst (inc ds[k].K k)) (stepC ds[k].C c (mkD k (ds[k].K k+1))) /\
  ∀ e:Ev,chOf e=c->EvD (s.es ++ [e]) (D ++ [mkD k (ds[k].K k+1)]) ds.length:=by
 have hkt:=h.tie k hk
 have hKe:=hkt.dle h.evd k
 have hK5:ds[k].K k+1<=500:=by omega
 have hwd:who (mkD k (ds[k].K k+1))=k:=who_mk (by omega)
 have hnd:nth (mkD k (ds[k].K k+1))=ds[k].K k+1:=nth_mk (by omega)
 have hnew:mkD k (ds[k].K k+1) ∉ D:=fun hm=>by
  have:=h.mine k hk _ hm hwd
  rw[hnd] at this
  omega
 have hev:∀ e:Ev,chOf e=c->EvD (s.es ++ [e]) (D ++ [mkD k (ds[k].K k+1)]) ds.length:=fun e _=>by
  refine ⟨by simp[h.evd.len], ?_,fun d hd=>?_⟩
  ·rw[List.nodup_append]
   exact ⟨h.evd.nd,by simp,fun a ha b hb e9=>by simp at hb;subst hb;subst e9;exact hnew ha⟩
  ·rcases List.mem_append.1 hd with h1 | h1
   ·exact h.evd.ok d h1
   ·simp at h1
    subst h1
    rw[hwd,hnd]
    exact ⟨hk,by omega,by omega⟩
 refine ⟨hnew,hK5, ?_,hev⟩
 have hch:chOf ⟨⟨c.path.toArray⟩,c.act,⟨c.val.toArray⟩,c.n,s.kn.getD k []⟩=c:=by unfold chOf;simp[toL]
 have hkn:=hkt.mine h.evd ⟨⟨c.path.toArray⟩,c.act,⟨c.val.toArray⟩,c.n,s.kn.getD k []⟩ c hch rfl k hK5 hnew
 refine hkn.stoB (hev _ hch) h.clu.len (by simp;omega) (fun e he=>?_)
 rcases List.mem_append.1 he with h1 | h1
 ·exact h.src e h1
 ·rw[List.mem_singleton] at h1;rw[h1];exact ⟨t,by rw[hch];exact hr⟩
theorem CluV.done (h:CluV w x S s q cap fv ds bs D) {t:Thk.Bs} {c:Thk.Ch} (hr:Thk.read t=.inr c) {k:Nat} (hk:k<ds.length) (hl:s.es.length<500) {e:Ev}
  (e1:toL e.p=c.path) (e2:e.a=c.act) (e3:toL e.v=c.val) (e4:e.n=c.n) (e5:e.saw=s.kn.getD k []) {r':RD} (hM:MoreD w.heap.size ds[k] k (inc ds[k].K k) (stepC ds[k].C c (mkD k (ds[k].K k+1))) r')
  (hc:CluP w' x q cap fv 0 (ds.set k r') bs) :
  ∃ S',ProgV w' x S' ⟨s.es ++ [e],s.kn.set k (moreOf (s.kn.getD k []) s.es.length),s.fs⟩/\∀ b,S' b->S b\/w.heap.size<=b:=by
 have hch:chOf e=c:=by unfold chOf;rw[e1,e2,e3,e4]
 have hren:=hM.renews
 have hrK:r'.K=inc ds[k].K k/\r'.C=stepC ds[k].C c (mkD k (ds[k].K k+1)):=by
  obtain ⟨io,co,lo,st,pv,rfl,_⟩:=hM
  exact ⟨rfl,rfl⟩
 obtain ⟨hK,hCc⟩:=hrK
 obtain ⟨hnew,hK5,_,hev⟩:=h.doB hr hk hl
 have hkt:=h.tie k hk
 have hnd:nth (mkD k (ds[k].K k+1))=ds[k].K k+1:=nth_mk (by omega)
 have hwd:who (mkD k (ds[k].K k+1))=k:=who_mk (by omega)
 have h3:r'.K k=ds[k].K k+1:=by rw[hK];exact inc_same _ _
 have hkn:=hkt.mine h.evd e c hch e5 k hK5 hnew
 refine ⟨ownS x q fv (ds.set k r'),⟨q,cap,fv,ds.set k r',bs,D ++ [mkD k (ds[k].K k+1)],hc,fun b=>Iff.rfl,by simp[h.len],by rw[List.length_set];exact hev e hch,fun j hj=>?_,fun j hj d hd hw=>?_, ?_,by simp;omega,fun e' he'=>?_⟩,h.ownR hk hren (fun g hg=>Or.inl hg)⟩
 ·have hj':j<ds.length:=by simpa using hj
  show Kn _ _ ((s.kn.set k (moreOf (s.kn.getD k []) s.es.length)).getD j []) _ _
  rw[getD_set _ _ (by rw[h.len];exact hk),List.getElem_set]
  by_cases e9:k=j
  ·subst e9
   rw[if_pos rfl,if_pos rfl,hK,hCc]
   exact hkn
  ·rw[if_neg e9,if_neg e9]
   exact (h.tie j hj').other h.evd e _ hnew (by rw[hnd];omega)
 ·have hj':j<ds.length:=by simpa using hj
  rw[List.getElem_set]
  by_cases e9:k=j
  ·subst e9
   rw[if_pos rfl,h3]
   rcases List.mem_append.1 hd with h1 | h1
   ·have:=h.mine k hk d h1 hw;omega
   ·simp at h1;subst h1;rw[hnd];omega
  ·rw[if_neg e9]
   rcases List.mem_append.1 hd with h1 | h1
   ·exact h.mine j hj' d h1 hw
   ·simp at h1;subst h1;rw[hwd] at hw;exact absurd hw e9
 ·have h1:=sumN_set ds k hk r' ds.length
  rw[if_pos hk,if_pos hk] at h1
  have h2:=h.sum
  rw[h3] at h1
  rw[List.length_set]
  show _=(s.es ++ [e]).length
  rw[List.length_append,List.length_singleton]
  omega
 ·rcases List.mem_append.1 he' with h1 | h1
  ·exact h.src e' h1
  ·simp at h1;subst h1;exact ⟨t,by rw[hch];exact hr⟩
end
theorem CluV.asks {w:World} {x:Nat} {S:Nat->Prop} {s:St} {q cap:Nat} {fv:Value} {ds:List RepD} {bs:List (Nat × ByteArray)} {D:List Nat} (h:CluV w x S s q cap fv ds bs D) (hG:Glob w) (i:Int) (t:ByteArray) (hs:t.size<=1048576) :
  Calls Tryz.prog 24 #[.pointer (some ⟨x,0,none⟩),.int .i64 i,.string t] w fun e w'=>∃ u,e=.returned (.tuple #[.string u,.int .i64 (askR s.es s.kn i (toL t)).2])/\toL u=(askR s.es s.kn i (toL t)).1/\CluP w' x q cap fv 0 ds bs/\Chg (fun k=>k=x) w w':=by
 have hfit:∀ e∈s.es,EvFit e:=fun e he=>by obtain ⟨u,hu⟩:=h.src e he;exact fit_of hu
 refine Calls.mono (CAsk_any w hG x q cap fv ds bs h.clu (fun j hj=>(h.tie j hj).itms h.evd h.e500 hfit) i t hs) ?_
 rintro e w' ⟨u,r,rfl,hA,hC,hc⟩
 have hle:=h.len
 have fin:(askR s.es s.kn i (toL t)).2=r/\toL u=(askR s.es s.kn i (toL t)).1:=by
  unfold askR
  rcases hA with ⟨h1,rfl,rfl⟩ | ⟨h1,h2,rfl,rfl⟩ | ⟨k,hk,rfl,h2,rfl,xs,hx,rfl⟩
  ·rw[if_neg (by rw[hle];exact h1)];exact ⟨rfl,rfl⟩
  ·rw[if_pos (by rw[hle];exact h1),h2];exact ⟨rfl,rfl⟩
  ·rw[if_pos (by rw[hle];omega),h2]
   exact ⟨rfl,tell_eq (toL t) hfit ((h.tie k hk).perm h.evd hx)⟩
 exact ⟨u,by rw[fin.1],fin.2,hC,hc⟩
theorem CluV.knows {w:World} {x:Nat} {S:Nat->Prop} {s:St} {q cap:Nat} {fv:Value} {ds:List RepD} {bs:List (Nat × ByteArray)} {D:List Nat} (h:CluV w x S s q cap fv ds bs D) (i:Int) :
  Calls Tryz.prog 22 #[.pointer (some ⟨x,0,none⟩),.int .i64 i] w fun e w'=>e=.returned (.tuple #[.int .i64 (knowsR s.kn i).1,.int .i64 (knowsR s.kn i).2])/\CluP w' x q cap fv 0 ds bs/\Chg (fun k=>k=x) w w':=by
 refine Calls.mono (CKnows_any w x q cap fv ds bs h.clu i) ?_
 rintro e w' ⟨rfl,hC,hc⟩
 have hle:=h.len
 have fin:knowsD ds i=knowsR s.kn i:=by
  unfold knowsD knowsR
  by_cases hi:0<=i/\i<ds.length
  ·rw[if_pos hi,if_pos (by rw[hle];exact hi)]
   have hk:i.toNat<ds.length:=by omega
   rw[(h.tie i.toNat hk).size h.evd h.clu.len (h.clu.rep _ hk).k500,List.getElem?_eq_getElem hk]
   rfl
  ·rw[if_neg hi,if_neg (by rw[hle];exact hi)]
 exact ⟨by rw[fin],hC,hc⟩
theorem progV_frame:ProgFrame ProgV:={
 stable:=by
  rintro M w w' x S s ⟨q,cap,fv,ds,bs,D,h⟩ hc hm
  exact ⟨q,cap,fv,ds,bs,D,h.chg hc hm⟩
 tags:=by
  rintro w x S s k t ⟨q,cap,fv,ds,bs,D,h⟩ hk ht
  exact h.tags hk ht
 lt:=by
  rintro w x S s k ⟨q,cap,fv,ds,bs,D,h⟩ hk
  exact h.lt hk }
theorem prog4_ok:Prog4 ProgV:={
 bad:=by
  intro w r room _ h
  refine Calls.mono (New_bad r room w h) ?_
  rintro e w' ⟨rfl,rfl⟩
  exact ⟨rfl,Below.refl _ _⟩
 good:=by
  intro w r room hG h1 h6 h50
  have h4:4<=w.heap.size:=hG.size
  refine Calls.mono (New_good r room w hG h1 h6 h50) ?_
  rintro e w' ⟨rv,ds,rfl,hr,hN⟩
  subst hr
  obtain ⟨q,cap,rfl,hq,hC⟩:=hN.done h4 h1 h6 rfl
  have hin:∀ j (h:j<ds.length),∃ rb kb db ab,ds[j]=initR rb kb db ab j room ds.length:=fun j h=>(hN.rep j h).2.1
  refine ⟨w.heap.size,ownS w.heap.size q (.slice none 0 0) ds,rfl,⟨q,cap,.slice none 0 0,ds,[],[],hC,fun k=>Iff.rfl,by simp,⟨rfl,List.Pairwise.nil,fun d h=>absurd h (by simp)⟩,fun j hj=>?_,fun j hj d h=>absurd h (by simp), ?_,by simp,fun e he=>absurd he (by simp)⟩,fun k hk=>?_,hN.bel⟩
  ·obtain ⟨rb,kb,db,ab,e9⟩:=hin j hj
   have h9:(List.replicate ds.length ([]:List Bool)).getD j []=[]:=by simp[hj]
   show Kn [] [] ((List.replicate ds.length ([]:List Bool)).getD j []) _ _
   rw[h9,e9]
   exact Kn.nil
  ·have hz:∀ m,sumN ds m=0:=fun m=>by
    induction m with
    | zero=>rfl
    | succ m ih =>
     rw[sumN,ih]
     unfold ownN
     by_cases hm:m<ds.length
     ·obtain ⟨rb,kb,db,ab,e9⟩:=hin m hm
      rw[List.getElem?_eq_getElem hm,e9]
      rfl
     ·rw[List.getElem?_eq_none (by omega)];(first | done | rfl)
   rw[hz];(first | done | rfl)
  ·rcases hk with rfl | rfl | hk | ⟨j,hj,ho⟩
   ·exact Nat.le_refl _
   ·exact hq
   ·cases hk
   ·exact (hN.rep j hj).2.2 k ho
 does:=by
  rintro w x S s i t r es' kn' hG ⟨q,cap,fv,ds,bs,D,h⟩ hs hd
  refine Calls.mono (CDo_any w hG x q cap fv ds bs h.clu i t hs (fun k hk c hr hl=>(h.doB hr hk (by rw[<- h.sum];exact hl)).2.2.1)) ?_
  rintro e w' ⟨r',ds',rfl,hD,hC,hc⟩
  have hcS:Chg S w w':=h.sc hc
  have hle:=h.len
  have hsm:=h.sum
  rcases hD with ⟨hi,rfl,rfl⟩ | ⟨m,hi,hr,rfl,rfl⟩ | ⟨c,hi,hr,hl,rfl,rfl⟩ | ⟨c,k,hk,r2,rfl,hr,hl,hM,rfl,rfl⟩ <;>
   rcases hd with ⟨h3,rfl,rfl,rfl⟩ | ⟨k',h3,h4,rfl,rfl,rfl⟩ | ⟨c',h3,h4,h5,rfl,rfl,rfl⟩ | ⟨c',e',h3,h4,h5,b1,b2,b3,b4,b5,rfl,rfl,rfl⟩
  ·exact ⟨rfl,S,(h.keep hC).prog,fun k hk=>Or.inl hk,hcS⟩
  ·exact absurd h3 (by rw[hle];exact hi)
  ·exact absurd h3 (by rw[hle];exact hi)
  ·exact absurd h3 (by rw[hle];exact hi)
  ·exact absurd (by rw[hle];exact hi) h3
  ·rw[hr] at h4;cases h4;exact ⟨rfl,S,(h.keep hC).prog,fun k hk=>Or.inl hk,hcS⟩
  ·rw[hr] at h4;cases h4
  ·rw[hr] at h4;cases h4
  ·exact absurd (by rw[hle];exact hi) h3
  ·rw[hr] at h4;cases h4
  ·exact ⟨rfl,S,(h.keep hC).prog,fun k hk=>Or.inl hk,hcS⟩
  ·omega
  ·exact absurd (by rw[hle];omega) h3
  ·rw[hr] at h4;cases h4
  ·omega
  ·rw[hr] at h4
   cases h4
   obtain ⟨S',h6,h7⟩:=h.done hr hk h5 b1 b2 b3 b4 b5 hM hC
   exact ⟨rfl,S',h6,h7,hcS⟩
 asks:=by
  rintro w x S s i t hG ⟨q,cap,fv,ds,bs,D,h⟩ hs
  refine Calls.mono (h.asks hG i t hs) ?_
  rintro e w' ⟨u,rfl,hu,hC,hc⟩
  exact ⟨u,rfl,hu,S,(h.keep hC).prog,fun k hk=>Or.inl hk,h.sx hc⟩
 knows:=by
  rintro w x S s i hG ⟨q,cap,fv,ds,bs,D,h⟩
  refine Calls.mono (h.knows i) ?_
  rintro e w' ⟨rfl,hC,hc⟩
  exact ⟨rfl,S,(h.keep hC).prog,fun k hk=>Or.inl hk,h.sx hc⟩ }
end Go.Proofs.YtfmmllpjgkgeaaaGreatDoor
namespace Go.Proofs.YtfmmllpjgkgeaaaGreatDoor
open Go.RowKit

theorem Values_of (I:Nat->Nat->World->Nat->Prop) (hL:LawOK 4 I) (w:World) (hG:Glob w) (v:Value) (l:List StepD) (hS:ScriptV w v l) (hlen:l.length<=1099511627776) (hok:∀ o∈l,o.ok) :
  Calls Tryz.prog 3 #[v] w fun e w'=>e=.returned (.bool true)/\Below w.heap.size w w':=by
 rcases hS with ⟨ad,cap,rfl,rfl⟩ | ⟨b,off,cap,rfl,hcap,hS⟩
 ·have Hc:Hid (_):=upTo_nil 4 I hL w hG ad cap
  go_enter Tryz.func3,Tryz.ntmps3
  go_wp2_with fail
  refine Calls.mono Hc.out ?_
  rintro e w1 ⟨rfl,hb⟩
  go_wp2
  go_ret
  exact ⟨rfl,hb⟩
 ·have Hc:Hid (_):=upTo_any 4 I hL w hG b off cap l hS hcap hlen hok
  clear hL hS hok
  go_enter Tryz.func3,Tryz.ntmps3
  go_wp2_with fail
  refine Calls.mono Hc.out ?_
  rintro e w1 ⟨rfl,hb⟩
  go_wp2
  go_ret
  exact ⟨rfl,hb⟩

theorem Values_any (w:World) (hG:Glob w) (v:Value) (l:List StepD) (hS:ScriptV w v l) (hlen:l.length<=1099511627776) (hok:∀ o∈l,o.ok) :
  Calls Tryz.prog 3 #[v] w fun e w'=>e=.returned (.bool true)/\Below w.heap.size w w':=Values_of (LawJ ProgV RefG) (law_ok prog4_ok ref_ok ref_new progV_frame ref_frame) w hG v l hS hlen hok
end Go.Proofs.YtfmmllpjgkgeaaaGreatDoor

