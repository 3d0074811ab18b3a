import Derived.Test.YtfmmllpjgkgeaaaGreatDoorPartV23
set_option linter.unusedVariables false
set_option linter.unusedSimpArgs false
set_option maxHeartbeats 16000000
set_option maxRecDepth 100000
namespace Go.Proofs.YtfmmllpjgkgeaaaGreatDoor
open Go.RowKit Go.Maps Go.WideMaps Go.Shelf

theorem sliceS_cells {w:World} {b:Nat} {sts:List StD} (h:SliceS w b 0 sts):∀ j u,(scells sts)[j]? = some u->w.cell? ((⟨b,0,none⟩:Addr).add j)=some u:=fun j u hj=>by
 have hl:j<sts.length*3:=by rw[<- scells_len];exact (List.getElem?_eq_some_iff.1 hj).1
 have hi:j / 3<sts.length:=by omega
 have ha:=scells_at sts (j / 3) hi
 rw[Addr.add_lit,Nat.zero_add]
 have h3:j=j / 3*3+j % 3:=by omega
 have hm:j % 3<3:=Nat.mod_lt _ (by omega)
 generalize j / 3=q at *
 generalize j % 3=t at *
 subst h3
 match t,hm with
 | 0,_=>rw[Nat.add_zero] at hj ⊢;rw[ha.1] at hj;cases hj;have:=h.c0 q hi;simpa using this
 | 1,_=>rw[ha.2.1] at hj;cases hj;have:=h.c1 q hi;simpa using this
 | 2,_=>rw[ha.2.2] at hj;cases hj;have:=h.c2 q hi;simpa using this

theorem bl_al {b:Nat} {w w':World} (h:Below b w w') (hs:b<=w'.heap.size) (o:Obj):Below b w (w'.alloc o):=h.alloc hs o
theorem zblk3 {w1 w3:World} {x y z:Value} {t:TypeId} (h:Below (w1.alloc (.cells #[x,y,z] t)).drew.heap.size (w1.alloc (.cells #[x,y,z] t)).drew w3):Blk w3 w1.heap.size #[x,y,z] t:=(h.block _ (by show _<(w1.alloc _).heap.size;simp)).trans (Blk.new w1 _ _)
theorem zfacts3 {w1 w3:World} {x y z:Value} {t:TypeId} (h:Below (w1.alloc (.cells #[x,y,z] t)).drew.heap.size (w1.alloc (.cells #[x,y,z] t)).drew w3):w3.cell? ⟨w1.heap.size,0,none⟩=some x/\w3.cell? ⟨w1.heap.size,1,none⟩=some y/\w3.cell? ⟨w1.heap.size,2,none⟩=some z/\∀ i,w3.frozen? ⟨w1.heap.size,i,none⟩=false :=
 ⟨((zblk3 h).cell 0).trans rfl,((zblk3 h).cell 1).trans rfl,((zblk3 h).cell 2).trans rfl,(zblk3 h).frozen⟩
theorem blk_set3 {w:World} {b:Nat} {x y z u v t':Value} {t:TypeId} (h:Blk w b #[x,y,z] t):Blk (((w.setCell ⟨b,0,none⟩ u).setCell ⟨b,1,none⟩ v).setCell ⟨b,2,none⟩ t') b #[u,v,t'] t:=by
 unfold Blk at *
 simp[World.setCell,Array.getElem?_modify,h]

theorem zform {w4 w5:World} {x y z u v q:Value} {t:TypeId} {i c l:Nat} {S:Nat->Prop} {It:Nat->Option Value} (hb5:Below (w4.alloc (.cells #[x,y,z] t)).drew.heap.size (w4.alloc (.cells #[x,y,z] t)).drew w5) (hs:StoreS w5 i c l S It) (hn:(w4.alloc (.cells #[x,y,z] t)).drew.heap.size<=i/\(w4.alloc (.cells #[x,y,z] t)).drew.heap.size<=c/\(w4.alloc (.cells #[x,y,z] t)).drew.heap.size<=l) (hb:Below w4.heap.size w4 w5) :
  Blk (((w5.setCell ⟨w4.heap.size,0,none⟩ u).setCell ⟨w4.heap.size,1,none⟩ v).setCell ⟨w4.heap.size,2,none⟩ q) w4.heap.size #[u,v,q] t/\StoreS (((w5.setCell ⟨w4.heap.size,0,none⟩ u).setCell ⟨w4.heap.size,1,none⟩ v).setCell ⟨w4.heap.size,2,none⟩ q) i c l S It/\Below w4.heap.size w4 (((w5.setCell ⟨w4.heap.size,0,none⟩ u).setCell ⟨w4.heap.size,1,none⟩ v).setCell ⟨w4.heap.size,2,none⟩ q):=by
 have e:(w4.alloc (.cells #[x,y,z] t)).drew.heap.size=w4.heap.size+1:=by show (w4.alloc _).heap.size=_;simp
 rw[e] at hn
 refine ⟨blk_set3 (zblk3 hb5),hs.chg (M:=fun k=>k=w4.heap.size) ((((Chg.refl (fun k=>k=w4.heap.size) w5).setCell (p:=⟨w4.heap.size,0,none⟩) rfl _).setCell (p:=⟨w4.heap.size,1,none⟩) rfl _).setCell (p:=⟨w4.heap.size,2,none⟩) rfl _) (by omega) (by omega) (by omega), ?_⟩
 exact ((hb.setCell (p:=⟨w4.heap.size,0,none⟩) (Nat.le_refl _) _).setCell (p:=⟨w4.heap.size,1,none⟩) (Nat.le_refl _) _).setCell (p:=⟨w4.heap.size,2,none⟩) (Nat.le_refl _) _

theorem learn_join {w w1 w2:World} {B:Nat} {v2:Value} {r:RD} {sts:List StD} {K':Nat->Nat} {C':Nat->Option Thk.Ch} (hJ:JoinTo (sts ++ [r.known]) K' C') (hB:StoB (fst K') C') (hl:sts.length<=10)
  (ho:w2.ownsRow B 102 3 v2 (sts.length+1) (scells sts ++ [.map r.io,.map r.co,.map r.lo])) (hat:∀ s∈sts ++ [r.known],s.At w2) :
  Calls Tryz.prog 150 #[v2] w2 fun e w3=>∃ ib cb lb,e=.returned (.agg #[.map (some ib),.map (some cb),.map (some lb)])/\StoreS w3 ib cb lb (fst K') (itOf C')/\(w2.heap.size<=ib/\w2.heap.size<=cb/\w2.heap.size<=lb)/\Below w2.heap.size w2 w3:=by
 have hsc:scells (sts ++ [r.known])=scells sts ++ [.map r.io,.map r.co,.map r.lo]:=scells_snoc _ _
 refine Calls.mono (Join_row w2 B v2 (sts ++ [r.known]) (by rw[hsc,List.length_append];exact ho) hat (by simp;omega)) ?_
 rintro e w3 ⟨ib,cb,lb,It,rfl,hst,p1,p2,hn,hb⟩
 have hIt:=hJ.1 It (fun n hn=>(hst.ok n hn).1) p1 p2
 refine ⟨ib,cb,lb,rfl,⟨hst.ctx.iff (fun d hd=>(hJ.2 d hd).symm),by rw[<- hIt];exact hst.its,hst.ne,fun n hn=>?_⟩,hn,hb⟩
 have:=hB.ok n (itOf_none.1 hn)
 exact this

theorem blk7_known {w:World} {b:Nat} {x0 x1 x2 x3 x4 x5 x6 u v q:Value} {t:TypeId} (h:Blk w b #[x0,x1,x2,x3,x4,x5,x6] t):Blk (((w.setCell ⟨b,1,none⟩ u).setCell ⟨b,2,none⟩ v).setCell ⟨b,3,none⟩ q) b #[x0,u,v,q,x4,x5,x6] t:=by
 unfold Blk at *
 simp[World.setCell,Array.getElem?_modify,h]
theorem blk_ne {w:World} {b b':Nat} {cs cs':Array Value} {t t':TypeId} (h:Blk w b cs t) (h':Blk w b' cs' t') (ht:t≠t'):b≠b':=fun e=>by
 subst e
 unfold Blk at h h'
 rw[h] at h'
 simp only[Option.some.injEq,Obj.cells.injEq] at h'
 exact ht h'.2.1
theorem row_ne {w:World} {B b n size:Nat} {cs:Array Value} {t e:TypeId} {v:Value} {xs:List Value} (h:Blk w b cs t) (ho:w.ownsRow B e size v n xs) (ht:t≠e):v.ownBlock≠some b:=ownsRow_ne ho (fun cur fz e2=>by
 unfold Blk at h
 rw[h] at e2
 simp only[Option.some.injEq,Obj.cells.injEq] at e2
 exact ht e2.2.1)
theorem RepF.db_ne {w:World} {r:RD} (h:RepF w r):r.db≠r.rb/\r.db≠r.kb/\r.pv.ownBlock≠some r.db/\r.db≠r.ab/\r.rb≠r.kb/\r.pv.ownBlock≠some r.rb/\r.rb≠r.ab:=by
 obtain ⟨rs,its,h1,_⟩:=h.dsk
 obtain ⟨cs,hd⟩:=h1.blk
 obtain ⟨N,hN⟩:=h.kept.ack
 exact ⟨blk_ne hd h.blk (by decide),blk_ne hd h.kept.blk (by decide),row_ne hd h.kept.row (by decide),fun e=>hN.noTag (e ▸ hd),blk_ne h.blk h.kept.blk (by decide),row_ne h.blk h.kept.row (by decide),fun e=>hN.noTag (e ▸ h.blk)⟩
theorem StoreR.noCells {w:World} {io co lo:Option Nat} {S:Nat->Prop} {It:Nat->Option Value} (h:StoreR w (.map io) (.map co) (.map lo) S It) {k:Nat} (hk:io=some k\/co=some k\/lo=some k) {cs:Array Value} {t:TypeId} {fz:Nat × Nat} : w.heap[k]?≠some (.cells cs t fz):=by
 obtain ⟨⟨c,L,⟨⟨N1,h1⟩,⟨N2,h2⟩,_⟩,_⟩,⟨N3,h3⟩,_⟩:=h
 have key:∀ {P:Program} {kt:TypeId} {v:Option Nat} {N:Nat} {m:Value->Option Value},MapO P kt w (.map v) N m->v=some k->w.heap[k]?≠some (.cells cs t fz):=fun {P kt v N m} hm hv=>by
  subst hv
  rcases hm with ⟨h,_⟩ | ⟨b,h,g⟩
  ·cases h
  ·cases h;exact g.noTag
 rcases hk with hk | hk | hk
 ·exact key h3 hk
 ·exact key h1 hk
 ·exact key h2 hk
theorem KeptP.chg1 {w w':World} {kb room:Nat} {pv:Value} {dr ab:Nat} {nb:List Nat} {A:Nat->Nat} {ps:List PcD} {M:Nat->Prop} (h:KeptP w kb room pv dr ab nb A ps) (hc:Chg M w w') (h1:¬M kb) (h2:∀ k,pv.ownBlock=some k->¬M k) (h3:¬M ab) (h4:∀ k,M k->k<w.heap.size->∃ cs t fz,w.heap[k]? = some (.cells cs t fz)):KeptP w' kb room pv dr ab nb A ps :=
 h.chg hc (fun k hk m=>by
  rcases hk with rfl | hk | rfl | ⟨p,hp,hk⟩
  ·exact h1 m
  ·exact h2 k hk m
  ·exact h3 m
  ·obtain ⟨cs,t,fz,e⟩:=h4 k m ((h.st p hp).lt hk)
   exact (h.st p hp).noCells hk e)

theorem learn_mid {w w6 W9:World} {r:RD} {K':Nat->Nat} {C':Nat->Option Thk.Ch} {ib cb lb i2 c2 l2 B8:Nat} {S2:Nat->Prop} {I2:Nat->Option Value} {t:Thk.Bs} (hw:RepF w r) (h6:RepF w6 r) (hst:StoreS w6 ib cb lb (fst K') (itOf C')) (hnw:StoreS w6 i2 c2 l2 S2 I2) (hB8:Blk w6 B8 #[.map (some i2),.map (some c2),.map (some l2)] 102)
  (hn1:w.heap.size<=ib/\w.heap.size<=cb/\w.heap.size<=lb) (hn2:w.heap.size<=i2/\w.heap.size<=c2/\w.heap.size<=l2/\w.heap.size<=B8) (hd9:DiskS W9 r.db (r.n+1) t false r.k) (hch9:Chg (fun k=>k=r.db) w6 W9) :
  Blk W9 r.rb #[.int .i64 (r.a:Int),.map r.io,.map r.co,.map r.lo,.pointer (some ⟨r.kb,0,none⟩),.pointer (some ⟨r.db,0,none⟩),.bool false] 125 /\
  ∀ W10,W10=((W9.setCell ⟨r.rb,1,none⟩ (.map (some ib))).setCell ⟨r.rb,2,none⟩ (.map (some cb))).setCell ⟨r.rb,3,none⟩ (.map (some lb)) ->
  Blk W10 r.rb #[.int .i64 (r.a:Int),.map (some ib),.map (some cb),.map (some lb),.pointer (some ⟨r.kb,0,none⟩),.pointer (some ⟨r.db,0,none⟩),.bool false] 125/\StoreS W10 ib cb lb (fst K') (itOf C')/\StoreS W10 i2 c2 l2 S2 I2/\Blk W10 B8 #[.map (some i2),.map (some c2),.map (some l2)] 102/\KeptP W10 r.kb r.room r.pv r.dr r.ab r.nb r.A r.ps/\DiskS W10 r.db (r.n+1) t false r.k/\Chg (fun k=>k=r.db\/k=r.rb) w6 W10:=by
 have hne:=h6.db_ne
 have hdl:r.db<w.heap.size:=hw.lt (Or.inr (Or.inr (Or.inr rfl)))
 have hrl:r.rb<w.heap.size:=hw.blk.lt
 have hb9:=h6.blk.chg hch9 (fun e=>hne.1 e.symm)
 refine ⟨hb9,fun W10 hW=>?_⟩
 have hcr:Chg (fun k=>k=r.rb) W9 W10:=by rw[hW];exact (((Chg.refl (fun k=>k=r.rb) W9).setCell (p:=⟨r.rb,1,none⟩) rfl _).setCell (p:=⟨r.rb,2,none⟩) rfl _).setCell (p:=⟨r.rb,3,none⟩) rfl _
 have hcc:Chg (fun k=>k=r.db\/k=r.rb) w6 W10:=(hch9.mono (fun k _ e=>Or.inl e)).trans (hcr.mono (fun k _ e=>Or.inr e))
 obtain ⟨rs,its,hd1,_⟩:=h6.dsk
 obtain ⟨cs,hdb⟩:=hd1.blk
 refine ⟨by rw[hW];exact blk7_known hb9,hst.chg hcc (by omega) (by omega) (by omega),hnw.chg hcc (by omega) (by omega) (by omega),hB8.chg hcc (by omega), ?_,hd9.chg hcr hne.1,hcc⟩
 refine h6.kept.chg1 hcc (fun e=>by rcases e with e | e;exact hne.2.1 e.symm;exact hne.2.2.2.2.1 e.symm) (fun k hk e=>by rcases e with e | e;exact hne.2.2.1 (e ▸ hk);exact hne.2.2.2.2.2.1 (e ▸ hk)) (fun e=>by rcases e with e | e;exact hne.2.2.2.1 e.symm;exact hne.2.2.2.2.2.2 e.symm) (fun k e _=>?_)
 rcases e with rfl | rfl
 ·exact ⟨_,_,_,hdb⟩
 ·exact ⟨_,_,_,h6.blk⟩

theorem learn_fin {w w6 W10 w11 w12:World} {r:RD} {K':Nat->Nat} {C':Nat->Option Thk.Ch} {ib cb lb i2 c2 l2 fr:Nat} {rs:List (Nat × Nat)} {its:List (Nat × Thk.Bs)} {pv:Value} (hw:RepF w r) (hb6:Below w.heap.size w w6) (hcut:r.cut=false)
  (hB:StoB (fst K') C') (hK':∀ x,K' x<=500) (hn:r.n+1<=sizeK K') (hn1:w.heap.size<=ib/\w.heap.size<=cb/\w.heap.size<=lb) (hE:EncOf (fst K') C' rs its)
  (h10:Blk W10 r.rb #[.int .i64 (r.a:Int),.map (some ib),.map (some cb),.map (some lb),.pointer (some ⟨r.kb,0,none⟩),.pointer (some ⟨r.db,0,none⟩),.bool false] 125/\StoreS W10 ib cb lb (fst K') (itOf C')/\KeptP W10 r.kb r.room r.pv r.dr r.ab r.nb r.A r.ps/\DiskS W10 r.db (r.n+1) (encS rs its) false r.k/\Chg (fun k=>k=r.db\/k=r.rb) w6 W10)
  (hb11:Below W10.heap.size W10 w11) (hk12:KeptP w12 r.kb r.room pv (addD r.room r.dr r.ps ⟨sizeK K',fr,⟨some i2,some c2,some l2,newD r K' C',itOf (newC r K' C')⟩⟩) r.ab r.nb r.A (addP r.room r.ps ⟨sizeK K',fr,⟨some i2,some c2,some l2,newD r K' C',itOf (newC r K' C')⟩⟩)) (hc12:Chg (fun k=>k=r.kb\/r.pv.ownBlock=some k) w11 w12) :
  RepF w12 { r with io:=some ib,co:=some cb,lo:=some lb,pv:=pv,dr:=addD r.room r.dr r.ps ⟨sizeK K',fr,⟨some i2,some c2,some l2,newD r K' C',itOf (newC r K' C')⟩⟩,ps:=addP r.room r.ps ⟨sizeK K',fr,⟨some i2,some c2,some l2,newD r K' C',itOf (newC r K' C')⟩⟩,K:=K',C:=C',n:=r.n+1 }/\Chg r.own w w12:=by
 obtain ⟨hblk,hst,hkp,hd,hch⟩:=h10
 have hne:=hw.db_ne
 have hkl:r.kb<w.heap.size:=hw.kept.blk.lt
 have hpl:∀ k,r.pv.ownBlock=some k->k<w.heap.size:=fun k hk=>(hw.kept.row.lt k hk).2
 have hal:r.ab<w.heap.size:=hw.kept.lt (Or.inr (Or.inr (Or.inl rfl)))
 have hnm:∀ x,w.heap.size<=x->¬(x=r.kb\/r.pv.ownBlock=some x):=fun x hx e=>by
  rcases e with e | e
  ·omega
  ·have:=hpl x e;omega
 refine ⟨⟨(hblk.below hb11).chg hc12 (fun e=>by rcases e with e | e;exact hne.2.2.2.2.1 e;exact hne.2.2.2.2.2.1 e),⟨((hst.below hb11).chg hc12 (hnm _ hn1.1) (hnm _ hn1.2.1) (hnm _ hn1.2.2)).toR,hB⟩,hk12,⟨rs,its, ?_,hE⟩,fun e=>?_,hK',hw.a5,hn⟩, ?_⟩
 ·show DiskS w12 r.db (r.n+1) (encS rs its) r.cut r.k
  rw[hcut]
  exact (hd.chg (M:=fun _=>False) (Chg.of_below hb11) (fun h=>h)).chg hc12 (fun e=>by rcases e with e | e;exact hne.2.1 e;exact hne.2.2.1 e)
 ·rcases e with e | e | e <;> (simp only[Option.some.injEq] at e;omega)
 ·have h1:Chg r.own w w6:=Chg.of_below hb6
  have h2:Chg r.own w6 W10:=hch.mono (fun k _ e=>by rcases e with e | e;exact Or.inr (Or.inr (Or.inr e));exact Or.inl e)
  have h3:Chg r.own W10 w11:=Chg.of_below hb11
  have h4:Chg r.own w11 w12:=hc12.mono (fun k _ e=>Or.inr (Or.inr (Or.inl (by rcases e with e | e;exact Or.inl e;exact Or.inr (Or.inl e)))))
  exact ((h1.trans h2).trans h3).trans h4

theorem learn_any (w:World) (hG:Glob w) (r:RD) (h:RepF w r) (hcut:r.cut=false) (fr:Nat) (hfr:fr<=5) (b:Nat) (sts:List StD) (hsl:SliceS w b 0 sts) (hl:1<=sts.length/\sts.length<=10) (K':Nat->Nat) (C':Nat->Option Thk.Ch)
  (hJ:JoinTo (sts ++ [r.known]) K' C') (hB:StoB (fst K') C') (hK':∀ x,K' x<=500) (hsz:(∃ d,1<=nth d/\newD r K' C' d)->sizeK r.K+1<=sizeK K') (hS':sizeK K'<=100000) :
  Calls Tryz.prog 92 #[.pointer (some ⟨r.rb,0,none⟩),.int .i64 (fr:Int),.slice (some ⟨b,0,none⟩) sts.length sts.length] w fun e w'=>e=.returned (.bool true) /\
   (((∀ d,1<=nth d->¬newD r K' C' d)/\Below w.heap.size w w')\/((∃ d,1<=nth d/\newD r K' C' d)/\∃ (io co lo:Nat) (st:StD) (pv:Value),st.S=newD r K' C'/\st.It=itOf (newC r K' C')/\(w.heap.size<=io/\w.heap.size<=co/\w.heap.size<=lo)/\(∀ k,st.own k->w.heap.size<=k)/\(pv.ownBlock=r.pv.ownBlock\/∃ k,pv.ownBlock=some k/\w.heap.size<=k) /\
    RepF w' { r with io:=some io,co:=some co,lo:=some lo,pv:=pv,dr:=addD r.room r.dr r.ps ⟨sizeK K',fr,st⟩,ps:=addP r.room r.ps ⟨sizeK K',fr,st⟩,K:=K',C:=C',n:=r.n+1 }/\Chg r.own w w')):=by
 obtain ⟨i0,hif,hz0,hz1,hz2⟩:=info_parts Tryz.infoSt
 have q1:=(h.blk.cell 1).trans rfl
 have q2:=(h.blk.cell 2).trans rfl
 have q3:=(h.blk.cell 3).trans rfl
 have hrl:=h.blk.lt
 have HR:Hid (RepF w r):=h
 have HG:Hid (Glob w):=hG
 have HS:Hid (SliceS w b 0 sts):=hsl
 have hbl:=hsl.lt
 have hcs:Hid (∀ o j u,(scells sts)[j]? = some u->(w.alloc o).cell? ((⟨b,0,none⟩:Addr).add j)=some u):=fun o=>sliceS_cells (hsl.below ((Below.refl _ w).alloc (Nat.le_refl _) o))
 have hcn:Hid (∀ j u,([.map r.io,.map r.co,.map r.lo]:List Value)[j]? = some u->(w.alloc (.cells #[.map r.io,.map r.co,.map r.lo] 102)).cell? ((⟨w.heap.size,0,none⟩:Addr).add j)=some u):=fun j u hj=>by
  rw[Addr.add_lit,Nat.zero_add,(Blk.new w #[.map r.io,.map r.co,.map r.lo] 102).cell]
  simpa using hj
 have hsl3:Hid ((scells sts).length=sts.length*3):=scells_len sts
 have h63:Hid (sts.length+1<=maxLen):=by unfold Hid maxLen;omega
 have h64:Hid ((sts.length+1)*24<=140737488355328):=by unfold Hid;omega
 -- the joined store,in whatever world behind the append
 have HJn:Hid (∀ w2 v2,(w.alloc (.cells #[.map r.io,.map r.co,.map r.lo] 102)).grownBy w2 none->w2.ownsRow (w.alloc (.cells #[.map r.io,.map r.co,.map r.lo] 102)).heap.size 102 3 v2 (sts.length+1) (scells sts ++ [.map r.io,.map r.co,.map r.lo])->Calls Tryz.prog 150 #[v2] w2 fun e w3=>∃ ib cb lb,e=.returned (.agg #[.map (some ib),.map (some cb),.map (some lb)])/\(StoreS w3 ib cb lb (fst K') (itOf C')/\(w.heap.size<=ib/\w.heap.size<=cb/\w.heap.size<=lb)/\Below w.heap.size w w3)):=fun w2 v2 hg ho=>by
  have hb2:Below w.heap.size w w2:=((Below.refl _ w).alloc (Nat.le_refl _) _).grown hg (by simp) (fun k e=>by cases e)
  refine Calls.mono (learn_join (w:=w) (w1:=w) hJ hB hl.2 ho (fun s hs=>?_)) ?_
  ·rcases List.mem_append.1 hs with hs | hs
   ·exact (hsl.ok s hs).chg (M:=fun _=>False) (Chg.of_below hb2) (fun _ _ h=>h)
   ·rw[List.mem_singleton] at hs;subst hs;exact (h.below hb2).at
  ·rintro e w3 ⟨ib,cb,lb,rfl,h1,h2,h3⟩
   have:=hb2.size
   exact ⟨ib,cb,lb,rfl,h1,by omega,hb2.trans (h3.mono hb2.size)⟩
 clear h hG hsl
 go_enter Tryz.func92,Tryz.ntmps92
 go_wp2_with (first | (at_builtin;refine wpList_append_full _ rfl (.tmp 9) (.tmp 14) 205 rfl 102 i0 (.agg #[.map none,.map none,.map none]) 3 24 Tryz.underlying205 hif hz0 hz1 hz2 rfl (by decide) b sts.length (scells sts) rfl hsl3.out (hcs.out _) ⟨w.heap.size,0,none⟩ 1 1 [.map r.io,.map r.co,.map r.lo] rfl rfl hcn.out (by decide) h63.out h64.out ?_;intro v2 w2 ho2 hg2))
 obtain ⟨g2,c2,hv2⟩:=own_some ho2 (by omega)
 subst hv2
 refine Calls.mono (HJn.out w2 _ hg2 ho2) ?_
 rintro e w3 ⟨ib,cb,lb,rfl,hX3⟩
 obtain ⟨w4,hw4⟩:∃ w4,w4=w3.alloc (.cells #[.map (some ib),.map (some cb),.map (some lb)] 102):=⟨_,rfl⟩
 have hz:=(Below.refl _ w3).alloc (Nat.le_refl _) (.cells #[.map (some ib),.map (some cb),.map (some lb)] 102)
 have hlt3:w.heap.size<=w3.heap.size:=hX3.2.2.size
 have hmx:=hX3.1.lt
 have H4:Hid (StoreS w4 ib cb lb (fst K') (itOf C')/\(w.heap.size<=ib/\w.heap.size<=cb/\w.heap.size<=lb)/\Below w.heap.size w w4/\Blk w4 w3.heap.size #[.map (some ib),.map (some cb),.map (some lb)] 102):=by
  rw[hw4]
  exact ⟨hX3.1.below hz,hX3.2.1,hX3.2.2.trans (hz.mono hlt3),Blk.new w3 _ _⟩
 have hs4:w3.heap.size<w4.heap.size:=H4.out.2.2.2.lt
 have hlw4:w.heap.size<=w4.heap.size:=H4.out.2.2.1.size
 have hR4:RepF w4 r:=HR.out.below H4.out.2.2.1
 have y0:=(H4.out.2.2.2.cell 0).trans rfl
 have y1:=(H4.out.2.2.2.cell 1).trans rfl
 have y2:=(H4.out.2.2.2.cell 2).trans rfl
 have x1:=(hR4.blk.cell 1).trans rfl
 have x2:=(hR4.blk.cell 2).trans rfl
 have x3:=(hR4.blk.cell 3).trans rfl
 have y0A:∀ o,(w4.alloc o).cell? ⟨w3.heap.size,0,none⟩=some (.map (some ib)):=fun o=>((H4.out.2.2.2.alloc o).cell 0).trans rfl
 have y1A:∀ o,(w4.alloc o).cell? ⟨w3.heap.size,1,none⟩=some (.map (some cb)):=fun o=>((H4.out.2.2.2.alloc o).cell 1).trans rfl
 have y2A:∀ o,(w4.alloc o).cell? ⟨w3.heap.size,2,none⟩=some (.map (some lb)):=fun o=>((H4.out.2.2.2.alloc o).cell 2).trans rfl
 have x1A:∀ o,(w4.alloc o).cell? ⟨r.rb,1,none⟩=some (.map r.io):=fun o=>((hR4.blk.alloc o).cell 1).trans rfl
 have x2A:∀ o,(w4.alloc o).cell? ⟨r.rb,2,none⟩=some (.map r.co):=fun o=>((hR4.blk.alloc o).cell 2).trans rfl
 have x3A:∀ o,(w4.alloc o).cell? ⟨r.rb,3,none⟩=some (.map r.lo):=fun o=>((hR4.blk.alloc o).cell 3).trans rfl
 obtain ⟨nw,hnw⟩:∃ nw:StD,nw=⟨some ib,some cb,some lb,fst K',itOf C'⟩:=⟨_,rfl⟩
 have hne:=new_eq r K' C' nw (by rw[hnw]) (by rw[hnw])
 have HX:Hid (∀ wx,Below w4.heap.size w4 wx->Calls Tryz.prog 151 #[.agg #[.map (some ib),.map (some cb),.map (some lb)],.agg #[.map r.io,.map r.co,.map r.lo]] wx fun e w'=>∃ i2 c2 l2,e=.returned (.agg #[.map (some i2),.map (some c2),.map (some l2)])/\(StoreS w' i2 c2 l2 (newD r K' C') (itOf (newC r K' C'))/\(w4.heap.size<=i2/\w4.heap.size<=c2/\w4.heap.size<=l2)/\Below w4.heap.size w4 w')/\Below wx.heap.size wx w'/\(wx.heap.size<=i2/\wx.heap.size<=c2/\wx.heap.size<=l2)):=fun wx hb=>by
  have h1:nw.At wx:=by rw[hnw];exact ⟨(H4.out.1.below hb).toR,fun n x hx=>itOf_item hx⟩
  have:=Since_any wx nw r.known h1 (hR4.below hb).at
  rw[hnw] at this
  refine Calls.mono this ?_
  rintro e w' ⟨i2,c2,l2,rfl,h2,h3,h4⟩
  rw[hnw] at hne
  rw[hne.1,hne.2] at h2
  have:=hb.size
  exact ⟨i2,c2,l2,rfl,⟨h2,by omega,hb.trans (h4.mono hb.size)⟩,h4,h3⟩
 have hb4d:Below w4.heap.size w4 w4.drew:=(Below.refl _ w4).drew
 have hb4:Below w4.heap.size w4 w4:=Below.refl _ w4
 clear hX3 hz hmx hne hnw HJn hcs hcn hsl3 h63 h64 q1 q2 q3 ho2 hg2
 have Hw4:Hid (w4=w3.alloc (.cells #[.map (some ib),.map (some cb),.map (some lb)] 102)):=hw4
 clear hw4
 go_wp2_with fail
 rw[<- Hw4.out]
 clear Hw4
 go_cut [8] from 17 to 22 (fun v8 wx=>∃ B8 i2 c2 l2,v8=.pointer (some ⟨B8,0,none⟩)/\Blk wx B8 #[.map (some i2),.map (some c2),.map (some l2)] 102/\w4.heap.size<=B8/\StoreS wx i2 c2 l2 (newD r K' C') (itOf (newC r K' C'))/\(w4.heap.size<=i2/\w4.heap.size<=c2/\w4.heap.size<=l2)/\Below w4.heap.size w4 wx)
 case first =>
  go_region_with (first | (go_at_call 151;refine Calls.mono (HX.out _ (by (repeat' (first | assumption | (exact Nat.le_refl _) | apply Below.drew | apply bl_al)))) ?_;rintro e w5 ⟨i5,c5,l5,rfl,h5,hb5,hn5⟩;(first | (have hz:=zfacts3 hb5;have z0:=hz.1;have z1:=hz.2.1;have z2:=hz.2.2.1;have zf:=hz.2.2.2) | skip)))
  all_goals
   go_wp2_with fail
   go_meet
   first
    | exact ⟨_,_,_,_,rfl,Blk.new w5 _ _,h5.2.2.size,h5.1.below ((Below.refl _ w5).alloc (Nat.le_refl _) _),h5.2.1,h5.2.2.alloc h5.2.2.size _⟩
    | (have hzf:=zform (u:=.map (some i5)) (v:=.map (some c5)) (q:=.map (some l5)) hb5 h5.1 hn5 h5.2.2;exact ⟨_,_,_,_,rfl,hzf.1,Nat.le_refl _,hzf.2.1,h5.2.1,hzf.2.2⟩)
 case rest =>
 obtain ⟨B8,i2,c2,l2,rfl,k8,hB8,hst8,hn8,hb8⟩:=hcut
 have hR8:RepF wc r:=hR4.below hb8
 have hkn:=Known_gen wc (some i2) (some c2) (some l2) (newD r K' C') hst8.ctx.toR
 have u0:=(k8.cell 0).trans rfl
 have u1:=(k8.cell 1).trans rfl
 have u2:=(k8.cell 2).trans rfl
 have H8:Hid (Blk wc B8 #[.map (some i2),.map (some c2),.map (some l2)] 102/\StoreS wc i2 c2 l2 (newD r K' C') (itOf (newC r K' C'))/\Below w4.heap.size w4 wc/\RepF wc r):=⟨k8,hst8,hb8,hR8⟩
 clear hR4 hb4 hb4d HX y0 y1 y2 x1 x2 x3 y0A y1A y2A x1A x2A x3A k8 hst8 hb8 hR8
 go_wp2_with fail
 refine Calls.mono hkn ?_
 rintro e w6 ⟨nk,rfl,hnk,hb6⟩
 have Hnk:Hid (nk=0↔∀ d,1<=nth d->¬newD r K' C' d):=hnk
 have h48:Below w4.heap.size w4 w6:=H8.out.2.2.1.trans (hb6.mono H8.out.2.2.1.size)
 have H6:Hid (Blk w6 B8 #[.map (some i2),.map (some c2),.map (some l2)] 102/\StoreS w6 i2 c2 l2 (newD r K' C') (itOf (newC r K' C'))/\Below w4.heap.size w4 w6/\RepF w6 r/\StoreS w6 ib cb lb (fst K') (itOf C')/\Blk w6 w3.heap.size #[.map (some ib),.map (some cb),.map (some lb)] 102/\Below w.heap.size w w6):=⟨H8.out.1.below hb6,H8.out.2.1.below hb6,h48,H8.out.2.2.2.below hb6,H4.out.1.below h48,H4.out.2.2.2.below h48,H4.out.2.2.1.trans (h48.mono hlw4)⟩
 have hn4:w.heap.size<=ib/\w.heap.size<=cb/\w.heap.size<=lb:=H4.out.2.1
 clear hnk hkn hb6 h48 H8 u0 u1 u2 H4
 by_cases hnk0:nk=0
 ·subst hnk0
  have hnone:=Hnk.out.1 rfl
  go_wp2_with fail
  go_ret
  exact ⟨rfl,Or.inl ⟨hnone,H6.out.2.2.2.2.2.2⟩⟩
 ·have hsome:∃ d,1<=nth d/\newD r K' C' d:=Classical.byContradiction fun hc=>hnk0 (Hnk.out.2 (fun d hd hx=>hc ⟨d,hd,hx⟩))
  have hnki:¬((nk:Int)=0):=by omega
  have hnkb:((nk:Int) == 0)=false:=by simpa using hnki
  have hsz':=hsz hsome
  obtain ⟨rs0,its0,hd0,_⟩:=H6.out.2.2.2.1.dsk
  have Hd0:Hid (DiskS w6 r.db r.n (encS rs0 its0) r.cut r.k):=hd0
  have v5:=(H6.out.2.2.2.1.blk.cell 5).trans rfl
  have t0:=(H6.out.2.2.2.2.2.1.cell 0).trans rfl
  have t1:=(H6.out.2.2.2.2.2.1.cell 1).trans rfl
  have t2:=(H6.out.2.2.2.2.2.1.cell 2).trans rfl
  have hn6:=H6.out.2.2.2.1.n
  have HGw:Hid (Glob w6):=HG.out.mono H6.out.2.2.2.2.2.2
  have HW:Hid (∀ wx,wx.heap=w6.heap->wx.os=w6.os->wx.tape=w6.tape->wx.output=w6.output->Calls Tryz.prog 123 #[.agg #[.map (some ib),.map (some cb),.map (some lb)]] wx fun e w'=>∃ s rs its,e=.returned (.string s)/\(toL s=encS rs its/\EncOf (fst K') C' rs its/\s.size<=700000/\Below w6.heap.size w6 w')/\w'.cell? ⟨r.rb,5,none⟩=some (.pointer (some ⟨r.db,0,none⟩))):=fun wx hx ho ht hp=>by
   have hbx:Below w6.heap.size w6 wx:=⟨ho,ht,hp,by rw[hx];exact Nat.le_refl _,fun k _=>by rw[hx]⟩
   refine Calls.mono (written_any wx (HGw.out.mono hbx) (some ib) (some cb) (some lb) (fst K') C' ⟨(H6.out.2.2.2.2.1.below hbx).toR,hB⟩) ?_
   rintro e w' ⟨s,rs,its,rfl,h1,h2,h3,h4⟩
   have h5:=hbx.trans (h4.mono hbx.size)
   exact ⟨s,rs,its,rfl,⟨h1,h2,h3,h5⟩,((H6.out.2.2.2.1.blk.below h5).cell 5).trans rfl⟩
  have HD:Hid (∀ wx w7 s rs its,(toL s=encS rs its/\EncOf (fst K') C' rs its/\s.size<=700000/\Below w6.heap.size w6 w7)->wx.heap=w7.heap->wx.os=w7.os->wx.tape=w7.tape->wx.output=w7.output->Calls Tryz.prog 152 #[.pointer (some ⟨r.db,0,none⟩),.string s] wx fun e w'=>e=.returned (.bool true)/\(DiskS w' r.db (r.n+1) (encS rs its) false r.k/\EncOf (fst K') C' rs its/\Chg (fun k=>k=r.db) w6 w')):=fun wx w7 s rs its h7 hx ho ht hp=>by
   have hbx:Below w6.heap.size w6 wx:=h7.2.2.2.trans ⟨ho,ht,hp,by rw[hx];exact Nat.le_refl _,fun k _=>by rw[hx]⟩
   have hd1:DiskS wx r.db r.n (encS rs0 its0) false r.k:=by rw[<- hcut];exact Hd0.out.chg (M:=fun _=>False) (Chg.of_below hbx) (fun h=>h)
   refine Calls.mono (diskWrite wx r.db r.n _ r.k s hd1 (by omega) (by omega)) ?_
   rintro e w' ⟨rfl,h1,h2⟩
   rw[h7.1] at h1
   exact ⟨rfl,h1,h7.2.1,(Chg.of_below hbx).trans h2⟩
  go_wp2_with fail
  go_cut [33] from 26 to 32 (fun v33 wx=>v33=.bool false/\∃ rs its,DiskS wx r.db (r.n+1) (encS rs its) false r.k/\EncOf (fst K') C' rs its/\Chg (fun k=>k=r.db) w6 wx)
  case first =>
   go_region_with (first | (go_at_call 152;refine Calls.mono (HD.out _ w7 s7 rs7 its7 h7 rfl rfl rfl rfl) ?_;rintro e w8 ⟨rfl,h8⟩) | (go_at_call 123;refine Calls.mono (HW.out _ rfl rfl rfl rfl) ?_;rintro e w7 ⟨s7,rs7,its7,rfl,h7,v7⟩))
   all_goals
    go_wp2_with fail
    go_meet
    exact ⟨rfl,rs7,its7,h8⟩
  case rest =>
  obtain ⟨rfl,rs9,its9,hd9,he9,hch9⟩:=hcut
  have hmid:=learn_mid HR.out H6.out.2.2.2.1 H6.out.2.2.2.2.1 H6.out.2.1 H6.out.1 hn4 (by omega) hd9 hch9
  have HM:Hid (∀ W10,W10=((wc.setCell ⟨r.rb,1,none⟩ (.map (some ib))).setCell ⟨r.rb,2,none⟩ (.map (some cb))).setCell ⟨r.rb,3,none⟩ (.map (some lb))->_):=hmid.2
  have hN9:Blk wc w3.heap.size #[.map (some ib),.map (some cb),.map (some lb)] 102:=H6.out.2.2.2.2.2.1.chg hch9 (by have:=HR.out.lt (k:=r.db) (Or.inr (Or.inr (Or.inr rfl)));omega)
  have e1:=(hmid.1.cell 1).trans rfl
  have e2:=(hmid.1.cell 2).trans rfl
  have e3:=(hmid.1.cell 3).trans rfl
  have ef:=hmid.1.frozen
  have n0:=(hN9.cell 0).trans rfl
  have n1:=(hN9.cell 1).trans rfl
  have n2:=(hN9.cell 2).trans rfl
  have HE9:Hid (EncOf (fst K') C' rs9 its9):=he9
  have hnn:r.n+1<=sizeK K':=by omega
  clear HW HD v5 t0 t1 t2 Hd0 hd0 HGw hmid hN9 hd9 he9 hch9
  go_wp2_with fail
  have hM:=HM.out _ rfl
  clear HM
  generalize ((wc.setCell ⟨r.rb,1,none⟩ (.map (some ib))).setCell ⟨r.rb,2,none⟩ (.map (some cb))).setCell ⟨r.rb,3,none⟩ (.map (some lb))=W10 at *
  have f1:=(hM.1.cell 1).trans rfl
  have f4:=(hM.1.cell 4).trans rfl
  have m0:=(hM.2.2.2.1.cell 0).trans rfl
  have m1:=(hM.2.2.2.1.cell 1).trans rfl
  have m2:=(hM.2.2.2.1.cell 2).trans rfl
  have HM:Hid (Blk W10 r.rb #[.int .i64 (r.a:Int),.map (some ib),.map (some cb),.map (some lb),.pointer (some ⟨r.kb,0,none⟩),.pointer (some ⟨r.db,0,none⟩),.bool false] 125/\StoreS W10 ib cb lb (fst K') (itOf C')/\StoreS W10 i2 c2 l2 (newD r K' C') (itOf (newC r K' C'))/\Blk W10 B8 #[.map (some i2),.map (some c2),.map (some l2)] 102/\KeptP W10 r.kb r.room r.pv r.dr r.ab r.nb r.A r.ps/\DiskS W10 r.db (r.n+1) (encS rs9 its9) false r.k/\Chg (fun k=>k=r.db\/k=r.rb) w6 W10):=hM
  have hal:r.ab<w.heap.size:=HR.out.lt (Or.inr (Or.inr (Or.inl (Or.inr (Or.inr (Or.inl rfl))))))
  have HKn:Hid (∀ wx,wx.heap=W10.heap->wx.os=W10.os->wx.tape=W10.tape->wx.output=W10.output->Calls Tryz.prog 46 #[.pointer (some ⟨r.rb,0,none⟩)] wx fun e w'=>e=.returned (.int .i64 (sizeK K':Int))/\Below W10.heap.size W10 w'/\w'.cell? ⟨r.rb,4,none⟩=some (.pointer (some ⟨r.kb,0,none⟩))/\w'.cell? ⟨B8,0,none⟩=some (.map (some i2))/\w'.cell? ⟨B8,1,none⟩=some (.map (some c2))/\w'.cell? ⟨B8,2,none⟩=some (.map (some l2))):=fun wx hx ho ht hp=>by
   have hbx:Below W10.heap.size W10 wx:=⟨ho,ht,hp,by rw[hx];exact Nat.le_refl _,fun k _=>by rw[hx]⟩
   refine Calls.mono (RepKnows_any wx r.rb r.a (some ib) (some cb) (some lb) K' C' ⟨⟨_,_,_,HM.out.1.below hbx⟩,(HM.out.2.1.below hbx).toR,fun k c hc=>(hB.ch k c hc).2.2.1,hK',HR.out.a5⟩) ?_
   rintro e w' ⟨rfl,h1⟩
   have h2:=hbx.trans (h1.mono hbx.size)
   have k8:=HM.out.2.2.2.1.below h2
   exact ⟨rfl,h2,((HM.out.1.below h2).cell 4).trans rfl,(k8.cell 0).trans rfl,(k8.cell 1).trans rfl,(k8.cell 2).trans rfl⟩
  have HAd:Hid (∀ wx w11,Below W10.heap.size W10 w11->wx.heap=w11.heap->wx.os=w11.os->wx.tape=w11.tape->wx.output=w11.output->Calls Tryz.prog 153 #[.pointer (some ⟨r.kb,0,none⟩),.agg #[.map (some i2),.map (some c2),.map (some l2)],.int .i64 (fr:Int),.int .i64 (sizeK K':Int)] wx fun e w'=>e=.returned (.tuple #[])/\(∃ pv,(pv.ownBlock=r.pv.ownBlock\/∃ k,pv.ownBlock=some k/\w.heap.size<=k)/\RepF w' { r with io:=some ib,co:=some cb,lo:=some lb,pv:=pv,dr:=addD r.room r.dr r.ps ⟨sizeK K',fr,⟨some i2,some c2,some l2,newD r K' C',itOf (newC r K' C')⟩⟩,ps:=addP r.room r.ps ⟨sizeK K',fr,⟨some i2,some c2,some l2,newD r K' C',itOf (newC r K' C')⟩⟩,K:=K',C:=C',n:=r.n+1 }/\Chg r.own w w')):=fun wx w11 hb11 hx ho ht hp=>by
   have hbx:Below W10.heap.size W10 wx:=hb11.trans ⟨ho,ht,hp,by rw[hx];exact Nat.le_refl _,fun k _=>by rw[hx]⟩
   have hsw:w.heap.size<=wx.heap.size:=Nat.le_trans (Nat.le_trans H6.out.2.2.2.2.2.2.size HM.out.2.2.2.2.2.2.size) hbx.size
   refine Calls.mono (kAdd_any wx r.kb r.room r.pv r.dr r.ab r.nb r.A r.ps ⟨sizeK K',fr,⟨some i2,some c2,some l2,newD r K' C',itOf (newC r K' C')⟩⟩ (HM.out.2.2.2.2.1.below hbx) ⟨(HM.out.2.2.1.below hbx).toR,fun n x hx=>itOf_item hx⟩ (fun e=>by rcases e with e | e | e <;> (simp only[Option.some.injEq] at e;omega)) ⟨hS',hfr⟩) ?_
   rintro e w' ⟨rfl,pv,h1,h2,h3⟩
   have hf:=learn_fin (i2:=i2) (c2:=c2) (l2:=l2) HR.out H6.out.2.2.2.2.2.2 hcut hB hK' hnn hn4 HE9.out ⟨HM.out.1,HM.out.2.1,HM.out.2.2.2.2.1,HM.out.2.2.2.2.2.1,HM.out.2.2.2.2.2.2⟩ hbx h1 h3
   refine ⟨rfl,pv, ?_,hf⟩
   rcases h2 with h2 | ⟨k,h2,h4⟩
   ·exact Or.inl h2
   ·exact Or.inr ⟨k,h2,by omega⟩
  clear hM e1 e2 e3 ef n0 n1 n2
  go_cut [] from 41 to 49 (fun wx=>∃ pv,(pv.ownBlock=r.pv.ownBlock\/∃ k,pv.ownBlock=some k/\w.heap.size<=k)/\RepF wx { r with io:=some ib,co:=some cb,lo:=some lb,pv:=pv,dr:=addD r.room r.dr r.ps ⟨sizeK K',fr,⟨some i2,some c2,some l2,newD r K' C',itOf (newC r K' C')⟩⟩,ps:=addP r.room r.ps ⟨sizeK K',fr,⟨some i2,some c2,some l2,newD r K' C',itOf (newC r K' C')⟩⟩,K:=K',C:=C',n:=r.n+1 }/\Chg r.own w wx)
  case first =>
   go_region_with (first | (go_at_call 153;refine Calls.mono (HAd.out _ w11 h11 rfl rfl rfl rfl) ?_;rintro e w12 ⟨rfl,h12⟩) | (go_at_call 46;refine Calls.mono (HKn.out _ rfl rfl rfl rfl) ?_;rintro e w11 ⟨rfl,h11,g4,g0,g1,g2⟩))
   all_goals
    go_wp2_with fail
    go_meet
    exact h12
  case rest =>
  obtain ⟨pv,hpv,hF,hC⟩:=hcut
  have HF:Hid ((pv.ownBlock=r.pv.ownBlock\/∃ k,pv.ownBlock=some k/\w.heap.size<=k)/\RepF _ { r with io:=some ib,co:=some cb,lo:=some lb,pv:=pv,dr:=addD r.room r.dr r.ps ⟨sizeK K',fr,⟨some i2,some c2,some l2,newD r K' C',itOf (newC r K' C')⟩⟩,ps:=addP r.room r.ps ⟨sizeK K',fr,⟨some i2,some c2,some l2,newD r K' C',itOf (newC r K' C')⟩⟩,K:=K',C:=C',n:=r.n+1 }/\Chg r.own w _):=⟨hpv,hF,hC⟩
  clear hpv hF hC
  go_wp2_with fail
  go_ret
  exact ⟨rfl,Or.inr ⟨hsome,ib,cb,lb,⟨some i2,some c2,some l2,newD r K' C',itOf (newC r K' C')⟩,pv,rfl,rfl,hn4,fun k hk=>by rcases hk with e | e | e <;> (simp only[Option.some.injEq] at e;omega),HF.out.1,HF.out.2.1,HF.out.2.2⟩⟩
end Go.Proofs.YtfmmllpjgkgeaaaGreatDoor

