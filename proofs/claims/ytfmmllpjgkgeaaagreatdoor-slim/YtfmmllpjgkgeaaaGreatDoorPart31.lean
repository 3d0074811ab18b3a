import Derived.Test.YtfmmllpjgkgeaaaGreatDoorPart30
set_option linter.unusedVariables false
set_option linter.unusedSimpArgs false
set_option maxHeartbeats 16000000
set_option maxRecDepth 100000
namespace Go.Proofs.YtfmmllpjgkgeaaaGreatDoor
open Go.RowKit Go.Maps Go.WideMaps Go.MuLone Go.Deep

theorem zf6 {W w4:World} {M:Nat->Prop} {x0 x1 x2 x3 x4 x5:Value} {t:TypeId} (h:Chg M (W.alloc (.cells #[x0,x1,x2,x3,x4,x5] t)).drew w4) (hM:¬M W.heap.size):Blk w4 W.heap.size #[x0,x1,x2,x3,x4,x5] t:=(h.block _ (by show _<(W.alloc _).heap.size;simp) hM).trans (Blk.new W _ _)
theorem fr6_all {W:World} {b:Nat} {u0 u1 u2 u3 u4 u5 x0 x1 x2 x3 x4 x5:Value} {t:TypeId} (h:Blk W b #[x0,x1,x2,x3,x4,x5] t) :
  Blk ((((((W.setCell ⟨b,0,none⟩ u0).setCell ⟨b,1,none⟩ u1).setCell ⟨b,2,none⟩ u2).setCell ⟨b,3,none⟩ u3).setCell ⟨b,4,none⟩ u4).setCell ⟨b,5,none⟩ u5) b #[u0,u1,u2,u3,u4,u5] t /\
  Chg (fun k=>k=b) W ((((((W.setCell ⟨b,0,none⟩ u0).setCell ⟨b,1,none⟩ u1).setCell ⟨b,2,none⟩ u2).setCell ⟨b,3,none⟩ u3).setCell ⟨b,4,none⟩ u4).setCell ⟨b,5,none⟩ u5):=by
 refine ⟨?_,((((((Chg.refl (fun k=>k=b) W).setCell (p:=⟨b,0,none⟩) rfl _).setCell (p:=⟨b,1,none⟩) rfl _).setCell (p:=⟨b,2,none⟩) rfl _).setCell (p:=⟨b,3,none⟩) rfl _).setCell (p:=⟨b,4,none⟩) rfl _).setCell (p:=⟨b,5,none⟩) rfl _⟩
 unfold Blk at h ⊢
 simp[World.setCell,Array.getElem?_modify,h]
theorem CluP.chgF {w w':World} {x q cap:Nat} {fv:Value} {st:Int} {ds:List RepD} {bs:List (Nat × ByteArray)} (h:CluP w x q cap fv st ds bs) {b:Nat} {cs:Array Value} (hb:Blk w b cs 104) (hc:Chg (fun k=>k=b) w w'):CluP w' x q cap fv st ds bs:=by
 obtain ⟨cs',r1,r2⟩:=h.row
 exact h.chg hc (blk_ne h.blk hb (by decide)) (blk_ne r1 hb (by decide)) (fun j hj k hk e=>(h.rep j hj).not_own hb (by decide) (by decide) (by decide) (by decide) (e ▸ hk)) (fun g hg e=>by
  obtain ⟨cur,hcur⟩:=h.frT g hg
  exact blk_ne (cs:=cur) (t:=109) hcur hb (by decide) e)

theorem rec_clu {w wx w':World} {x q cap:Nat} {fv:Value} {ds:List RepD} {bs:List (Nat × ByteArray)} (hC:CluP w x q cap fv 1 ds bs) (hb:Below w.heap.size w wx) {k:Nat} (hk:k<ds.length) {fr:Nat} {K':Nat->Nat} {C':Nat->Option Thk.Ch} (h:LearnTo wx w' ds[k] fr K' C') :
  ∃ ds',CluP w' x q cap fv 1 ds' bs/\RecD w.heap.size ds k hk fr K' C' ds'/\Chg ds[k].own w w'/\Chg ds[k].own wx w':=by
 have hcx:=hC.below hb
 have hch:=h.keep
 rcases h with ⟨h1,h2,h3⟩ | ⟨h1,r',h2⟩
 ·have hbb:=hb.trans (h3.mono hb.size)
  exact ⟨ds,hC.below hbb,Or.inl ⟨h1,rfl⟩,Chg.of_below hbb,hch⟩
 ·exact ⟨ds.set k r',hcx.renew k hk h2.rep h2.d.renews h2.chg,Or.inr ⟨h1,r',h2.d.mono hb.size,rfl⟩,(Chg.of_below hb).trans h2.chg,hch⟩

theorem come_br (w:World) (hG:Glob w) (x q cap:Nat) (fv:Value) (ds:List RepD) (bs:List (Nat × ByteArray)) (hC:CluP w x q cap fv 1 ds bs) (k:Nat) (hk:k<ds.length) (hcut:ds[k].cut=false) (s:ByteArray) (a m:Nat) (ha:a<=5) (hm:m<=505) (S2:Nat->Prop) (C2:Nat->Option Thk.Ch) (rs:List (Nat × Nat)) (its:List (Nat × Thk.Bs)) (hs:toL s=sealL (encFm a m rs its)) (he:EncOf S2 C2 rs its) (hsz:s.size<=900000) (h5:bs.length<500)
  (K':Nat->Nat) (C':Nat->Option Thk.Ch) (hJ:∀ ib cb lb,JoinTo ([⟨some ib,some cb,some lb,fun d=>itOf C2 d≠none\/d∈flatR rs,itOf C2⟩] ++ [ds[k].known]) K' C') (hB:StoB (fst K') C') (hK':∀ x,K' x<=500) (hnz:(∃ d,1<=nth d/\newD ds[k] K' C' d)->sizeK ds[k].K+1<=sizeK K') :
  Calls Tryz.prog 57 #[.pointer (some ⟨x,0,none⟩),.int .i64 (k:Int),.string s] w fun e w'=>∃ ds' s' fv',e=.returned (.tuple #[.int .i64 ((bs.length+1:Nat):Int),.int .i64 0])/\toL s'=sealL (encAm k m)/\CluP w' x q cap fv' 1 ds' (bs ++ [(a,s')])/\RecD w.heap.size ds k hk a K' C' ds' /\
   Chg (fun b=>b=x\/fv.ownBlock=some b\/ds[k].own b) w w'/\(∀ b,fv'.ownBlock=some b->fv.ownBlock=some b\/w.heap.size<=b):=by
 have HU:Hid (_):=come_up hC hk
 have HC:Hid (CluP w x q cap fv 1 ds bs):=hC
 have hk5:k<=5:=by have:=hC.len;omega
 have HR:Hid (∀ wx,Below w.heap.size w wx->Calls Tryz.prog 101 #[.string s] wx fun e w'=>∃ ib cb lb,e=.returned (.tuple #[.agg #[.int .i64 (a:Int),.int .i64 (m:Int),.bool false,.map (some ib),.map (some cb),.map (some lb)],.bool true])/\(StoreS w' ib cb lb (fun d=>itOf C2 d≠none\/d∈flatR rs) (itOf C2)/\Below w.heap.size w w')):=fun wx hb=>by
  refine Calls.mono (fRead_brings wx (hG.mono hb) s a m ha hm rs its hs hsz he.r505 he.ro he.i505 he.io) ?_
  rintro e w' ⟨ib,cb,lb,rfl,h0,_,h1⟩
  rw[he.it] at h0
  exact ⟨ib,cb,lb,rfl,h0,hb.trans (h1.mono hb.size)⟩
 have HS:Hid (∀ wx,CluP wx x q cap fv 1 ds bs->Calls Tryz.prog 52 #[.pointer (some ⟨x,0,none⟩)] wx fun e w'=>e=.returned (.bool false)/\w'=wx):=fun wx hx=>by
  have:=allSent_any wx x q cap fv 1 ds bs hx
  rw[decide_eq_false (by omega)] at this;exact this
 have hra:=hC.ra k hk
 have hak:ds[k].a=k:=hra.1
 have HV0:Hid (∀ W2 wx ib cb lb,Below w.heap.size w W2->StoreS W2 ib cb lb (fun d=>itOf C2 d≠none\/d∈flatR rs) (itOf C2)->Below W2.heap.size W2 wx->Calls Tryz.prog 103 #[.pointer (some ⟨ds[k].rb,0,none⟩),.agg #[.int .i64 (a:Int),.int .i64 (m:Int),.bool false,.map (some ib),.map (some cb),.map (some lb)]] wx fun e w'=>e=.returned (.tuple #[.agg #[.int .i64 (k:Int),.int .i64 (m:Int),.bool true,.map none,.map none,.map none],.bool true])/\∃ ds',CluP w' x q cap fv 1 ds' bs/\RecD w.heap.size ds k hk a K' C' ds'/\Chg ds[k].own w w'/\Chg ds[k].own wx w'):=fun W2 wx ib cb lb hb2 hst hbx=>by
  have hbw:=hb2.trans (hbx.mono hb2.size)
  have hcl:=hC.below hbw
  have:=Receive_any wx (hG.mono hbw) ds[k] (hcl.rep k hk) hcut a m ha ib cb lb _ C2 (hst.below hbx) K' C' (hJ ib cb lb) hB hK' hnz
  rw[hak] at this
  refine Calls.mono this ?_
  rintro e w' ⟨rfl,h1⟩
  exact ⟨rfl,rec_clu hC hbw hk h1⟩
 have Hlt:Hid (∀ b,ds[k].own b->b<w.heap.size):=fun b hb=>(hC.rep k hk).lt hb
 clear hra hcut hak hC hs he hJ hB hK' hnz hG
 go_enter Tryz.func57,Tryz.ntmps57
 go_wp2_with fail
 refine Calls.mono HU.out ?_
 rintro e w0 ⟨rfl,hb0⟩
 go_wp2_with fail
 refine Calls.mono (HR.out _ hb0) ?_
 rintro e w1 ⟨ib,cb,lb,rfl,hst,hb1⟩
 obtain ⟨W2,hW2⟩:∃ W2,W2=w1.alloc (.cells #[.int .i64 (a:Int),.int .i64 (m:Int),.bool false,.map (some ib),.map (some cb),.map (some lb)] 104):=⟨_,rfl⟩
 have hb12:Below w1.heap.size w1 W2:=by rw[hW2];exact (Below.refl _ w1).alloc (Nat.le_refl _) _
 have hb2:Below w.heap.size w W2:=hb1.trans (hb12.mono hb1.size)
 have kf:Blk W2 w1.heap.size #[.int .i64 (a:Int),.int .i64 (m:Int),.bool false,.map (some ib),.map (some cb),.map (some lb)] 104:=by rw[hW2];exact Blk.new w1 _ _
 have HC2:Hid (CluP W2 x q cap fv 1 ds bs/\Below w.heap.size w W2):=⟨HC.out.below hb2,hb2⟩
 have hs1:w.heap.size<=w1.heap.size:=hb1.size
 have hs2:w1.heap.size<W2.heap.size:=kf.lt
 have HV:Hid (∀ wx,Below W2.heap.size W2 wx->Calls Tryz.prog 103 #[.pointer (some ⟨ds[k].rb,0,none⟩),.agg #[.int .i64 (a:Int),.int .i64 (m:Int),.bool false,.map (some ib),.map (some cb),.map (some lb)]] wx fun e w'=>e=.returned (.tuple #[.agg #[.int .i64 (k:Int),.int .i64 (m:Int),.bool true,.map none,.map none,.map none],.bool true])/\(∃ ds',CluP w' x q cap fv 1 ds' bs/\RecD w.heap.size ds k hk a K' C' ds'/\Chg ds[k].own w w'/\Blk w' w1.heap.size #[.int .i64 (a:Int),.int .i64 (m:Int),.bool false,.map (some ib),.map (some cb),.map (some lb)] 104)/\Chg ds[k].own wx w'):=fun wx hbx=>by
  refine Calls.mono (HV0.out W2 wx ib cb lb hb2 (hst.below hb12) hbx) ?_
  rintro e w' ⟨rfl,ds',g1,g2,g3,g4⟩
  exact ⟨rfl,⟨ds',g1,g2,g3,(kf.below hbx).chg g4 (fun e=>by have:=Hlt.out _ e;omega)⟩,g4⟩
 have c2:W2.cell? ⟨x,2,none⟩=some (.slice (some ⟨q,0,none⟩) ds.length cap):=(HC2.out.1.blk.cell 2).trans rfl
 have cq:=HC2.out.1.cell k hk
 have f0:=(kf.cell 0).trans rfl
 have f1:=(kf.cell 1).trans rfl
 have f2:=(kf.cell 2).trans rfl
 have f3:=(kf.cell 3).trans rfl
 have f4:=(kf.cell 4).trans rfl
 have f5:=(kf.cell 5).trans rfl
 have c2A:∀ o,(W2.alloc o).cell? ⟨x,2,none⟩=some (.slice (some ⟨q,0,none⟩) ds.length cap):=fun o=>((HC2.out.1.blk.alloc o).cell 2).trans rfl
 have cqA:∀ o,(W2.alloc o).cell? ⟨q,k,none⟩=some (.pointer (some ⟨ds[k].rb,0,none⟩)):=fun o=>(HC2.out.1.below ((Below.refl _ W2).alloc (Nat.le_refl _) o)).cell k hk
 have f0A:∀ o,(W2.alloc o).cell? ⟨w1.heap.size,0,none⟩=some (.int .i64 (a:Int)):=fun o=>((kf.alloc o).cell 0).trans rfl
 have f1A:∀ o,(W2.alloc o).cell? ⟨w1.heap.size,1,none⟩=some (.int .i64 (m:Int)):=fun o=>((kf.alloc o).cell 1).trans rfl
 have f2A:∀ o,(W2.alloc o).cell? ⟨w1.heap.size,2,none⟩=some (.bool false):=fun o=>((kf.alloc o).cell 2).trans rfl
 have f3A:∀ o,(W2.alloc o).cell? ⟨w1.heap.size,3,none⟩=some (.map (some ib)):=fun o=>((kf.alloc o).cell 3).trans rfl
 have f4A:∀ o,(W2.alloc o).cell? ⟨w1.heap.size,4,none⟩=some (.map (some cb)):=fun o=>((kf.alloc o).cell 4).trans rfl
 have f5A:∀ o,(W2.alloc o).cell? ⟨w1.heap.size,5,none⟩=some (.map (some lb)):=fun o=>((kf.alloc o).cell 5).trans rfl
 have hno:¬ds[k].own W2.heap.size:=fun e=>by have:=Hlt.out _ e;omega
 have Hno:Hid (¬ds[k].own W2.heap.size):=hno
 have hkI:(k:Int)<(ds.length:Int):=by omega
 have hbW:Below W2.heap.size W2 W2:=Below.refl _ W2
 have HW2:Hid (W2=w1.alloc (.cells #[.int .i64 (a:Int),.int .i64 (m:Int),.bool false,.map (some ib),.map (some cb),.map (some lb)] 104)):=hW2
 have hkc:=HC2.out.1.cap
 clear HR HU hb0 hb1 hb12 hb2 hW2 kf hst HV0 hno
 go_wp2_with fail
 rw[<- HW2.out]
 refine Calls.mono (HS.out _ HC2.out.1) ?_
 rintro e w3 ⟨rfl,rfl⟩
 clear HS HW2
 go_wp2_with fail
 go_cut [10,11] from 39 to 50 (fun v10 v11 wx=>∃ B11 ds',v11=.pointer (some ⟨B11,0,none⟩)/\v10=.bool true/\Blk wx B11 #[.int .i64 (k:Int),.int .i64 (m:Int),.bool true,.map none,.map none,.map none] 104/\CluP wx x q cap fv 1 ds' bs/\RecD w.heap.size ds k hk a K' C' ds'/\Chg ds[k].own w wx/\Blk wx w1.heap.size #[.int .i64 (a:Int),.int .i64 (m:Int),.bool false,.map (some ib),.map (some cb),.map (some lb)] 104)
 case first =>
  go_region_with (first | (go_at_call 103;refine Calls.mono (HV.out _ (by (repeat' (first | assumption | (exact Nat.le_refl _) | apply Below.drew | apply bl_al)))) ?_;rintro e w4 ⟨rfl,h4,hc4⟩;(first | (have hz:=zf6 hc4 Hno.out;have z0:=(hz.cell 0).trans rfl;have z1:=(hz.cell 1).trans rfl;have z2:=(hz.cell 2).trans rfl;have z3:=(hz.cell 3).trans rfl;have z4:=(hz.cell 4).trans rfl;have z5:=(hz.cell 5).trans rfl;have zf:=hz.frozen) | skip)))
  all_goals
   obtain ⟨ds',g1,g2,g3,g4⟩:=h4
   go_wp2_with fail
   go_meet
   first
    | (have hf:=fr6_all (u0:=.int .i64 (k:Int)) (u1:=.int .i64 (m:Int)) (u2:=.bool true) (u3:=.map none) (u4:=.map none) (u5:=.map none) hz;exact ⟨_,ds',rfl,rfl,hf.1,g1.chgF hz hf.2,g2,g3.trans' hf.2 (fun y hy e=>by omega),g4.chg hf.2 (by omega)⟩)
    | exact ⟨_,ds',rfl,rfl,Blk.new w4 _ _,g1.below ((Below.refl _ w4).alloc (Nat.le_refl _) _),g2,g3.below ((Below.refl _ w4).alloc (Nat.le_refl _) _),g4.alloc _⟩
 case rest =>
 obtain ⟨B11,ds',rfl,rfl,k11,hcl,hrec,hchg,kfr⟩:=hcut
 have HZ:Hid (_):=send_any _ x q cap fv 1 ds' bs hcl (by omega) a (k:Int) (m:Int) true none none none (fun s'=>toL s'=sealL (encAm k m)) (fun wy hy=>Bytes_ack wy k m hk5 hm none none none)
 have e0:=(k11.cell 0).trans rfl
 have e1:=(k11.cell 1).trans rfl
 have e2:=(k11.cell 2).trans rfl
 have e3:=(k11.cell 3).trans rfl
 have e4:=(k11.cell 4).trans rfl
 have e5:=(k11.cell 5).trans rfl
 have p0:=(kfr.cell 0).trans rfl
 have HX:Hid (RecD w.heap.size ds k hk a K' C' ds'/\Chg ds[k].own w _):=⟨hrec,hchg⟩
 clear hcl hrec hchg kfr k11 HV c2 cq f0 f1 f2 f3 f4 f5 c2A cqA f0A f1A f2A f3A f4A f5A hbW HC2 HC
 go_wp2_with fail
 refine Calls.mono HZ.out ?_
 rintro e w5 ⟨s',fv',rfl,hP,hC4,hc4,hn4⟩
 have HF:Hid (toL s'=sealL (encAm k m)/\CluP w5 x q cap fv' 1 ds' (bs ++ [(a,s')])/\RecD w.heap.size ds k hk a K' C' ds'/\Chg (fun b=>b=x\/fv.ownBlock=some b\/ds[k].own b) w w5/\(∀ b,fv'.ownBlock=some b->fv.ownBlock=some b\/w.heap.size<=b)) :=
  ⟨hP,hC4,HX.out.1,(HX.out.2.wide (fun b e=>Or.inr (Or.inr e))).trans (hc4.wide (fun b e=>e.elim Or.inl (fun e=>Or.inr (Or.inl e)))),fun b hb=>(hn4 b hb).imp id (fun h=>Nat.le_trans HX.out.2.size h)⟩
 clear hP hC4 hc4 hn4 HZ HX e0 e1 e2 e3 e4 e5 p0
 go_wp2_with fail
 go_ret2
 exact ⟨ds',s',fv',rfl,HF.out⟩
end Go.Proofs.YtfmmllpjgkgeaaaGreatDoor

