import Derived.Test.YtfmmllpjgkgeaaaGreatDoorPart25
set_option linter.unusedVariables false
set_option linter.unusedSimpArgs false
set_option maxHeartbeats 16000000
set_option maxRecDepth 100000
namespace Go.Proofs.YtfmmllpjgkgeaaaGreatDoor
open Go.RowKit Go.Maps Go.WideMaps Go.Shelf

def ChOK (c:Thk.Ch):Prop:=((c.act=43\/c.act=94\/c.act=61\/c.act=62)/\(-9223372036854775808<=c.n/\c.n<=9223372036854775807)/\c.path.length<=1048576/\(keptVal c.act ⟨c.val.toArray⟩).size<=1048576/\(txtC c).length<=1000)/\Thk.read (txtC c)=.inr c/\effB c.act=true
theorem StoB.mk' {S:Nat->Prop} {C:Nat->Option Thk.Ch} (ns:∀ ns:List Nat,ns.Nodup->(∀ d∈ns,1<=nth d/\S d)->ns.length<=505) (ok:∀ k,C k≠none->okD k/\S k) (ch:∀ k c,C k=some c->ChOK c):StoB S C:=⟨ns,ok,fun k c h=>(ch k c h).1,fun k c h=>(ch k c h).2⟩
theorem StoB.all {S:Nat->Prop} {C:Nat->Option Thk.Ch} (h:StoB S C) (k:Nat) (c:Thk.Ch) (hc:C k=some c):ChOK c:=⟨h.ch k c hc,h.rd k c hc⟩
structure PcOK (r:RD):Prop where
 it:∀ p∈r.ps,∃ C,p.st.It=itOf C/\∀ k c,C k=some c->ChOK c
 s:∀ p∈r.ps,∀ d,1<=nth d->p.st.S d->fst r.K d
theorem it_choose {It:Nat->Option Value} {Q:Thk.Ch->Prop} (h:∀ d v,It d=some v->∃ c,v=chV c/\Q c):∃ C,It=itOf C/\∀ d c,C d=some c->Q c:=by
 have:∀ d,∃ o:Option Thk.Ch,It d=o.map chV/\∀ c,o=some c->Q c:=fun d=>by
  cases hd:It d with
  | none=>exact ⟨none,rfl,fun c h=>(by cases h)⟩
  | some v =>
   obtain ⟨c,rfl,hq⟩:=h d v hd
   exact ⟨some c,rfl,fun c' h=>by cases h;exact hq⟩
 exact ⟨fun d=>Classical.choose (this d),funext fun d=>(Classical.choose_spec (this d)).1,fun d=>(Classical.choose_spec (this d)).2⟩

def SlimS (r:RD) (j:Nat) (S:Nat->Prop) (C:Nat->Option Thk.Ch):Prop :=
 r.dr<=r.A j/\S=(fun n=>∃ s∈lackL j (r.A j) r.ps,s.S n) /\
  (∀ n v,itOf C n=some v->(∃ s∈lackL j (r.A j) r.ps,s.It n=some v)/\¬goneAt (lackL j (r.A j) r.ps) n)/\(∀ n,(∃ s∈lackL j (r.A j) r.ps,s.It n≠none)->¬goneAt (lackL j (r.A j) r.ps) n->itOf C n≠none)
def ByOf (r:RD) (s:ByteArray) (S:Nat->Prop) (C:Nat->Option Thk.Ch):Prop:=StoB S C/\∃ rs its,toL s=sealL (encFm r.a (sizeK r.K) rs its)/\EncOf S C rs its
def Shorter (r:RD) (j:Nat):Prop:=∃ S C s s',SlimS r j S C/\ByOf r s S C/\ByOf r s' (fst r.K) r.C/\s'.size<s.size
def SendS (r:RD) (j:Nat) (S:Nat->Prop) (C:Nat->Option Thk.Ch):Prop :=
 (S=fst r.K/\C=r.C/\(r.dr<=r.A j->Shorter r j))\/SlimS r j S C

theorem Bytes_st (w:World) (hG:Glob w) (a m:Nat) (ha:a<=5) (hm:m<=505) (io co lo:Option Nat) (S:Nat->Prop) (C:Nat->Option Thk.Ch) (h:StC w io co lo S C) :
  Calls Tryz.prog 97 #[.agg #[.int .i64 (a:Int),.int .i64 (m:Int),.bool false,.map io,.map co,.map lo]] w fun e w'=>∃ s rs its,e=.returned (.string s)/\toL s=sealL (encFm a m rs its)/\EncOf S C rs its/\s.size<=700000/\Below w.heap.size w w':=by
 obtain ⟨c,L,hC,_,hS⟩:=h.r.ctx
 obtain ⟨N,hN⟩:=h.r.its
 have hN5:=h.b.items hN
 refine Calls.mono (Bytes_brings w hG a m ha hm io co lo c L C N hC hN (fun k hk=>(h.b.ok k hk).1) hN5 (fun ns h1 h2=>h.b.ns ns h1 (fun d hd=>by have:=(h2 d).1 hd;exact ⟨this.1,(hS d this.1).2 this.2⟩)) h.b.ch) ?_
 rintro e w' ⟨s,rfl,⟨ns,rs,xs,h1,h2,h3,h4,h5,h6,h7⟩,hb⟩
 exact ⟨s,rs,wIt C xs,rfl,h6,enc_of h.b hS h1 h2 h3 h4 (by omega),h7,hb⟩

theorem fr_all {w W:World} {u0 u1 u2 u3 u4 u5 x0 x1 x2 x3 x4 x5:Value} {t:TypeId} (h:Blk W w.heap.size #[x0,x1,x2,x3,x4,x5] t) (hb:Below w.heap.size w W) :
  Blk ((((((W.setCell ⟨w.heap.size,0,none⟩ u0).setCell ⟨w.heap.size,1,none⟩ u1).setCell ⟨w.heap.size,2,none⟩ u2).setCell ⟨w.heap.size,3,none⟩ u3).setCell ⟨w.heap.size,4,none⟩ u4).setCell ⟨w.heap.size,5,none⟩ u5) w.heap.size #[u0,u1,u2,u3,u4,u5] t /\
  Below w.heap.size w ((((((W.setCell ⟨w.heap.size,0,none⟩ u0).setCell ⟨w.heap.size,1,none⟩ u1).setCell ⟨w.heap.size,2,none⟩ u2).setCell ⟨w.heap.size,3,none⟩ u3).setCell ⟨w.heap.size,4,none⟩ u4).setCell ⟨w.heap.size,5,none⟩ u5) /\
  Chg (fun k=>k=w.heap.size) W ((((((W.setCell ⟨w.heap.size,0,none⟩ u0).setCell ⟨w.heap.size,1,none⟩ u1).setCell ⟨w.heap.size,2,none⟩ u2).setCell ⟨w.heap.size,3,none⟩ u3).setCell ⟨w.heap.size,4,none⟩ u4).setCell ⟨w.heap.size,5,none⟩ u5):=by
 refine ⟨?_,bl_w (bl_w (bl_w (bl_w (bl_w (bl_w hb))))),((((((Chg.refl (fun k=>k=w.heap.size) W).setCell (p:=⟨w.heap.size,0,none⟩) rfl _).setCell (p:=⟨w.heap.size,1,none⟩) rfl _).setCell (p:=⟨w.heap.size,2,none⟩) rfl _).setCell (p:=⟨w.heap.size,3,none⟩) rfl _).setCell (p:=⟨w.heap.size,4,none⟩) rfl _).setCell (p:=⟨w.heap.size,5,none⟩) rfl _⟩
 unfold Blk at h ⊢
 simp[World.setCell,Array.getElem?_modify,h]

theorem rSend_any (w:World) (hG:Glob w) (r:RD) (hF:RepF w r) (hP:PcOK r) (j:Nat) (hj:j∈r.nb) (hm:sizeK r.K<=505) :
  Calls Tryz.prog 54 #[.pointer (some ⟨r.rb,0,none⟩),.int .i64 (j:Int)] w fun e w'=>∃ io co lo S C,e=.returned (.agg #[.int .i64 (r.a:Int),.int .i64 (sizeK r.K:Int),.bool false,.map io,.map co,.map lo])/\StC w' io co lo S C/\SendS r j S C/\Below w.heap.size w w':=by
 obtain ⟨mk,hmk⟩:∃ mk,mk=sizeK r.K:=⟨_,rfl⟩
 have HBr:Hid (∀ wx x y z,Below w.heap.size w wx->Calls Tryz.prog 98 #[.pointer (some ⟨r.rb,0,none⟩),.agg #[.map x,.map y,.map z]] wx fun e w'=>e=.returned (.agg #[.int .i64 (r.a:Int),.int .i64 (mk:Int),.bool false,.map x,.map y,.map z])/\Below w.heap.size w w'/\Below wx.heap.size wx w'):=fun wx x y z hb=>by
  refine Calls.mono (bringing_any wx r (hF.below hb) x y z) ?_
  rintro e w' ⟨rfl,h1⟩
  rw[hmk]
  exact ⟨rfl,hb.trans (h1.mono hb.size),h1⟩
 have HNw:Hid (∀ wx,Below w.heap.size w wx->Calls Tryz.prog 99 #[.pointer (some ⟨r.kb,0,none⟩),.int .i64 (j:Int)] wx fun e w'=>(Below w.heap.size w w'/\Below wx.heap.size wx w')/\((¬r.dr<=r.A j/\e=.returned (.tuple #[.agg #[.map none,.map none,.map none],.bool false]))\/(∃ ib cb lb C',e=.returned (.tuple #[.agg #[.map (some ib),.map (some cb),.map (some lb)],.bool true])/\StC w' (some ib) (some cb) (some lb) (fun n=>∃ s∈lackL j (r.A j) r.ps,s.S n) C'/\SlimS r j (fun n=>∃ s∈lackL j (r.A j) r.ps,s.S n) C'))):=fun wx hb=>by
  refine Calls.mono (News_any wx r.kb r.room r.pv r.dr r.ab r.nb r.A r.ps j (hF.below hb).kept hj) ?_
  rintro e w' ⟨h1,⟨hnd,rfl⟩ | ⟨hd,ib,cb,lb,It,rfl,hst,p1,p2,_⟩⟩
  ·exact ⟨⟨hb.trans (h1.mono hb.size),h1⟩,Or.inl ⟨by omega,rfl⟩⟩
  ·obtain ⟨C',hI,hQ⟩:=it_choose (It:=It) (Q:=ChOK) (fun d v hv=>by
    obtain ⟨s,hs,hsv⟩:=(p1 d v hv).1
    obtain ⟨p,hp,rfl,_⟩:=lackL_mem hs
    obtain ⟨C,hC,hq⟩:=hP.it p hp
    rw[hC] at hsv
    obtain ⟨c,hc,rfl⟩:=itOf_v hsv
    exact ⟨c,rfl,hq d c hc⟩)
   subst hI
   refine ⟨⟨hb.trans (h1.mono hb.size),h1⟩,Or.inr ⟨ib,cb,lb,C',rfl,⟨hst.toR,StoB.mk' (fun ns hn hm=>hF.st.b.ns ns hn (fun d hd=>?_)) (fun k hk=>hst.ok k (itOf_none.2 hk)) hQ⟩,hd,rfl,p1,p2⟩⟩
   obtain ⟨h3,s,hs,h4⟩:=hm d hd
   obtain ⟨p,hp,rfl,_⟩:=lackL_mem hs
   exact ⟨h3,hP.s p hp d h3 h4⟩
 have HSt:Hid (∀ wx,Below w.heap.size w wx->StC wx r.io r.co r.lo (fst r.K) r.C):=fun wx hb=>hF.st.below hb
 have HBy:Hid (∀ wx io co lo S C,Below w.heap.size w wx->StC wx io co lo S C->Calls Tryz.prog 97 #[.agg #[.int .i64 (r.a:Int),.int .i64 (mk:Int),.bool false,.map io,.map co,.map lo]] wx fun e w'=>∃ s,e=.returned (.string s)/\s.size<=700000/\Hid (ByOf r s S C)/\Below w.heap.size w w'/\Below wx.heap.size wx w'):=fun wx io co lo S C hb hst=>by
  refine Calls.mono (Bytes_st wx (hG.mono hb) r.a mk hF.a5 (by omega) io co lo S C hst) ?_
  rintro e w' ⟨s,rs,its,rfl,x1,x2,h1,h2⟩
  exact ⟨s,rfl,h1,⟨hst.b,rs,its,by rw[<- hmk];exact x1,x2⟩,hb.trans (h2.mono hb.size),h2⟩
 have Hblk:Hid (∀ wx,Below w.heap.size w wx->wx.cell? ⟨r.rb,1,none⟩=some (.map r.io)/\wx.cell? ⟨r.rb,2,none⟩=some (.map r.co)/\wx.cell? ⟨r.rb,3,none⟩=some (.map r.lo)/\wx.cell? ⟨r.rb,4,none⟩=some (.pointer (some ⟨r.kb,0,none⟩))):=fun wx hb=>⟨((hF.blk.below hb).cell 1).trans rfl,((hF.blk.below hb).cell 2).trans rfl,((hF.blk.below hb).cell 3).trans rfl,((hF.blk.below hb).cell 4).trans rfl⟩
 have hb0:Below w.heap.size w (w.alloc (.cells #[.int .i64 0,.int .i64 0,.bool false,.map none,.map none,.map none] 104)):=(Below.refl _ w).alloc (Nat.le_refl _) _
 have k0:=Blk.new w #[.int .i64 0,.int .i64 0,.bool false,.map none,.map none,.map none] 104
 rw[<- hmk]
 clear hF hG hP hmk
 go_enter Tryz.func54,Tryz.ntmps54
 have q:=Hblk.out _ hb0
 have q1:=q.1
 have q2:=q.2.1
 have q3:=q.2.2.1
 go_wp2_with fail
 refine Calls.mono (HBr.out _ r.io r.co r.lo hb0) ?_
 rintro e w1 ⟨rfl,hb1,hb01⟩
 have k01:=k0.below hb01
 have hs1:w.heap.size<w1.heap.size:=k01.lt
 obtain ⟨w2,hw2⟩:∃ w2,w2=w1.alloc (.cells #[.int .i64 (r.a:Int),.int .i64 (mk:Int),.bool false,.map r.io,.map r.co,.map r.lo] 104):=⟨_,rfl⟩
 have hb2:Below w.heap.size w w2:=by rw[hw2];exact hb1.alloc hb1.size _
 have k02:Blk w2 w.heap.size #[.int .i64 0,.int .i64 0,.bool false,.map none,.map none,.map none] 104:=by rw[hw2];exact k01.alloc _
 have k12:Blk w2 w1.heap.size #[.int .i64 (r.a:Int),.int .i64 (mk:Int),.bool false,.map r.io,.map r.co,.map r.lo] 104:=by rw[hw2];exact Blk.new w1 _ _
 have p4:=(Hblk.out _ hb2).2.2.2
 have Hw2:Hid (w2=w1.alloc (.cells #[.int .i64 (r.a:Int),.int .i64 (mk:Int),.bool false,.map r.io,.map r.co,.map r.lo] 104)):=hw2
 rw[hw2] at p4
 have HN2:=HNw.out w2 hb2
 rw[hw2] at HN2
 have HN2':Hid (_):=HN2
 clear hw2 q q1 q2 q3 k0 k01 hb0 hb01 HN2 HNw
 go_wp2_with fail
 refine Calls.mono HN2'.out ?_
 rintro e w3 ⟨⟨hb3,hb23⟩,hcase⟩
 rw[<- Hw2.out] at hb23
 have k03:=k02.below hb23
 have k13:=k12.below hb23
 have H3:Hid (Below w.heap.size w w3/\Blk w3 w.heap.size #[.int .i64 0,.int .i64 0,.bool false,.map none,.map none,.map none] 104/\Blk w3 w1.heap.size #[.int .i64 (r.a:Int),.int .i64 (mk:Int),.bool false,.map r.io,.map r.co,.map r.lo] 104):=⟨hb3,k03,k13⟩
 have hs3:w1.heap.size<w3.heap.size:=k13.lt
 clear hb23 k02 k12 HN2' Hw2 p4 hb2
 rcases hcase with ⟨hnd,rfl⟩ | ⟨ib,cb,lb,C',rfl,hst3,hss⟩
 ·have Hnd:Hid (¬r.dr<=r.A j):=hnd
  clear hnd
  have HK:Hid (Blk (w3.alloc (.cells #[.map none,.map none,.map none] 102)) w.heap.size #[.int .i64 0,.int .i64 0,.bool false,.map none,.map none,.map none] 104/\Below w.heap.size w (w3.alloc (.cells #[.map none,.map none,.map none] 102))):=⟨k03.alloc _,hb3.alloc hb3.size _⟩
  have k14:=k13.alloc (.cells #[.map none,.map none,.map none] 102)
  have a0:=(k14.cell 0).trans rfl
  have a1:=(k14.cell 1).trans rfl
  have a2:=(k14.cell 2).trans rfl
  have a3:=(k14.cell 3).trans rfl
  have a4:=(k14.cell 4).trans rfl
  have a5:=(k14.cell 5).trans rfl
  have b0:=(HK.out.1.cell 0).trans rfl
  have b1:=(HK.out.1.cell 1).trans rfl
  have b2:=(HK.out.1.cell 2).trans rfl
  have b3:=(HK.out.1.cell 3).trans rfl
  have b4:=(HK.out.1.cell 4).trans rfl
  have b5:=(HK.out.1.cell 5).trans rfl
  have bf:=HK.out.1.frozen
  clear k03 k13 k14 H3 hb3
  go_wp2_with fail
  generalize w3.alloc (.cells #[.map none,.map none,.map none] 102)=w4 at *
  have hfa:=fr_all (u0:=.int .i64 (r.a:Int)) (u1:=.int .i64 (mk:Int)) (u2:=.bool false) (u3:=.map r.io) (u4:=.map r.co) (u5:=.map r.lo) HK.out.1 HK.out.2
  have hstf:=HSt.out _ hfa.2.1
  clear a0 a1 a2 a3 a4 a5 b0 b1 b2 b3 b4 b5 bf
  generalize (((((((w4.setCell ⟨w.heap.size,0,none⟩ (.int .i64 (r.a:Int))).setCell ⟨w.heap.size,1,none⟩ (.int .i64 (mk:Int))).setCell ⟨w.heap.size,2,none⟩ (.bool false)).setCell ⟨w.heap.size,3,none⟩ (.map r.io)).setCell ⟨w.heap.size,4,none⟩ (.map r.co)).setCell ⟨w.heap.size,5,none⟩ (.map r.lo)))=wz at *
  have d0:=(hfa.1.cell 0).trans rfl
  have d1:=(hfa.1.cell 1).trans rfl
  have d2:=(hfa.1.cell 2).trans rfl
  have d3:=(hfa.1.cell 3).trans rfl
  have d4:=(hfa.1.cell 4).trans rfl
  have d5:=(hfa.1.cell 5).trans rfl
  exact bodyPost_ret (v:=.agg #[.int .i64 (r.a:Int),.int .i64 (mk:Int),.bool false,.map r.io,.map r.co,.map r.lo]) (by simp[results,Tryz.results54,go_sem,d0,d1,d2,d3,d4,d5]) rfl ⟨r.io,r.co,r.lo,_,_,rfl,hstf,Or.inl ⟨rfl,rfl,fun h=>absurd h Hnd.out⟩,hfa.2.1⟩
 ·have hb4:Below w.heap.size w (w3.alloc (.cells #[.map (some ib),.map (some cb),.map (some lb)] 102)):=hb3.alloc hb3.size _
  have h34:Below w3.heap.size w3 (w3.alloc (.cells #[.map (some ib),.map (some cb),.map (some lb)] 102)):=(Below.refl _ w3).alloc (Nat.le_refl _) _
  have k4:=Blk.new w3 #[.map (some ib),.map (some cb),.map (some lb)] 102
  have c0:=(k4.cell 0).trans rfl
  have c1:=(k4.cell 1).trans rfl
  have c2:=(k4.cell 2).trans rfl
  have Hss:Hid (SlimS r j (fun n=>∃ s∈lackL j (r.A j) r.ps,s.S n) C'):=hss
  have HstS:Hid (∀ wx,Below w3.heap.size w3 wx->StC wx (some ib) (some cb) (some lb) (fun n=>∃ s∈lackL j (r.A j) r.ps,s.S n) C'):=fun wx hb=>hst3.below hb
  clear hss hst3 k4
  go_wp2_with fail
  refine Calls.mono (HBr.out _ (some ib) (some cb) (some lb) hb4) ?_
  rintro e w5 ⟨rfl,hb5,hb45⟩
  have h35:Below w3.heap.size w3 w5:=h34.trans (hb45.mono h34.size)
  obtain ⟨w6,hw6⟩:∃ w6,w6=w5.alloc (.cells #[.int .i64 (r.a:Int),.int .i64 (mk:Int),.bool false,.map (some ib),.map (some cb),.map (some lb)] 104):=⟨_,rfl⟩
  have h36:Below w3.heap.size w3 w6:=by rw[hw6];exact h35.alloc h35.size _
  have hb6:Below w.heap.size w w6:=hb3.trans (h36.mono hb3.size)
  have kw:Blk w6 w1.heap.size #[.int .i64 (r.a:Int),.int .i64 (mk:Int),.bool false,.map r.io,.map r.co,.map r.lo] 104:=k13.below h36
  have ks:Blk w6 w5.heap.size #[.int .i64 (r.a:Int),.int .i64 (mk:Int),.bool false,.map (some ib),.map (some cb),.map (some lb)] 104:=by rw[hw6];exact Blk.new w5 _ _
  have kr:Blk w6 w.heap.size #[.int .i64 0,.int .i64 0,.bool false,.map none,.map none,.map none] 104:=k03.below h36
  have Hw6:Hid (w6=w5.alloc (.cells #[.int .i64 (r.a:Int),.int .i64 (mk:Int),.bool false,.map (some ib),.map (some cb),.map (some lb)] 104)):=hw6
  have H6:Hid (Below w.heap.size w w6/\Below w3.heap.size w3 w6/\Blk w6 w1.heap.size #[.int .i64 (r.a:Int),.int .i64 (mk:Int),.bool false,.map r.io,.map r.co,.map r.lo] 104/\Blk w6 w5.heap.size #[.int .i64 (r.a:Int),.int .i64 (mk:Int),.bool false,.map (some ib),.map (some cb),.map (some lb)] 104/\Blk w6 w.heap.size #[.int .i64 0,.int .i64 0,.bool false,.map none,.map none,.map none] 104):=⟨hb6,h36,kw,ks,kr⟩
  have hwb:Below w6.heap.size w6 w6:=Below.refl _ w6
  have HC:Hid (∀ wx,Below w6.heap.size w6 wx->(wx.cell? ⟨w1.heap.size,0,none⟩=some (.int .i64 (r.a:Int))/\wx.cell? ⟨w1.heap.size,1,none⟩=some (.int .i64 (mk:Int))/\wx.cell? ⟨w1.heap.size,2,none⟩=some (.bool false)/\wx.cell? ⟨w1.heap.size,3,none⟩=some (.map r.io)/\wx.cell? ⟨w1.heap.size,4,none⟩=some (.map r.co)/\wx.cell? ⟨w1.heap.size,5,none⟩=some (.map r.lo))/\(wx.cell? ⟨w5.heap.size,0,none⟩=some (.int .i64 (r.a:Int))/\wx.cell? ⟨w5.heap.size,1,none⟩=some (.int .i64 (mk:Int))/\wx.cell? ⟨w5.heap.size,2,none⟩=some (.bool false)/\wx.cell? ⟨w5.heap.size,3,none⟩=some (.map (some ib))/\wx.cell? ⟨w5.heap.size,4,none⟩=some (.map (some cb))/\wx.cell? ⟨w5.heap.size,5,none⟩=some (.map (some lb)))):=fun wx hb=>by
   have k1:=H6.out.2.2.1.below hb
   have k2:=H6.out.2.2.2.1.below hb
   exact ⟨⟨(k1.cell 0).trans rfl,(k1.cell 1).trans rfl,(k1.cell 2).trans rfl,(k1.cell 3).trans rfl,(k1.cell 4).trans rfl,(k1.cell 5).trans rfl⟩,(k2.cell 0).trans rfl,(k2.cell 1).trans rfl,(k2.cell 2).trans rfl,(k2.cell 3).trans rfl,(k2.cell 4).trans rfl,(k2.cell 5).trans rfl⟩
  have HY:Hid (∀ wx io co lo S C,Below w6.heap.size w6 wx->((io=some ib/\co=some cb/\lo=some lb/\S=(fun n=>∃ s∈lackL j (r.A j) r.ps,s.S n)/\C=C')\/(io=r.io/\co=r.co/\lo=r.lo/\S=fst r.K/\C=r.C))->Calls Tryz.prog 97 #[.agg #[.int .i64 (r.a:Int),.int .i64 (mk:Int),.bool false,.map io,.map co,.map lo]] wx fun e w'=>∃ s,e=.returned (.string s)/\s.size<=700000/\Hid (ByOf r s S C)/\Below w6.heap.size w6 w'):=fun wx io co lo S C hb hc=>by
   rcases hc with ⟨rfl,rfl,rfl,rfl,rfl⟩ | ⟨rfl,rfl,rfl,rfl,rfl⟩
   ·refine Calls.mono (HBy.out wx _ _ _ _ _ (H6.out.1.trans (hb.mono H6.out.1.size)) (HstS.out wx (H6.out.2.1.trans (hb.mono H6.out.2.1.size)))) ?_
    rintro e w' ⟨s,rfl,h1,h3,_,h2⟩
    exact ⟨s,rfl,h1,h3,hb.trans (h2.mono hb.size)⟩
   ·refine Calls.mono (HBy.out wx _ _ _ _ _ (H6.out.1.trans (hb.mono H6.out.1.size)) (HSt.out wx (H6.out.1.trans (hb.mono H6.out.1.size)))) ?_
    rintro e w' ⟨s,rfl,h1,h3,_,h2⟩
    exact ⟨s,rfl,h1,h3,hb.trans (h2.mono hb.size)⟩
  have m0:=(HC.out w6 hwb).1.1
  have m1:=(HC.out w6 hwb).1.2.1
  have m2:=(HC.out w6 hwb).1.2.2.1
  have m3:=(HC.out w6 hwb).1.2.2.2.1
  have m4:=(HC.out w6 hwb).1.2.2.2.2.1
  have m5:=(HC.out w6 hwb).1.2.2.2.2.2
  have n0:=(HC.out w6 hwb).2.1
  have n1:=(HC.out w6 hwb).2.2.1
  have n2:=(HC.out w6 hwb).2.2.2.1
  have n3:=(HC.out w6 hwb).2.2.2.2.1
  have n4:=(HC.out w6 hwb).2.2.2.2.2.1
  have n5:=(HC.out w6 hwb).2.2.2.2.2.2
  clear hw6 hb4 h34 h35 h36 hb45 hb5 hb6 kw ks kr k03 k13 H3 c0 c1 c2 HBr HBy hb3
  go_wp2_with fail
  rw[<- Hw6.out]
  go_cut [36] from 30 to 35 (fun v36 wx=>∃ b:Bool,v36=.bool b/\(b=true->Shorter r j)/\Below w6.heap.size w6 wx)
  case first =>
   go_region_with (go_at_call 97;refine Calls.mono (HY.out _ _ _ _ _ _ (by (repeat' (first | assumption | apply Below.drew))) (by first | exact Or.inl ⟨rfl,rfl,rfl,rfl,rfl⟩ | exact Or.inr ⟨rfl,rfl,rfl,rfl,rfl⟩)) ?_;rintro e w7 ⟨s7,rfl,hz7,HE7,hb7⟩;have g:=HC.out _ hb7;obtain ⟨⟨g0,g1,g2,g3,g4,g5⟩,⟨f0,f1,f2,f3,f4,f5⟩⟩:=g)
   all_goals
    go_wp2_with fail
    go_meet
    refine ⟨_,rfl,fun h=>⟨_,_,_,_,Hss.out,Hid.out ‹Hid (ByOf r _ (fun n=>∃ s∈lackL j (r.A j) r.ps,s.S n) C')›,Hid.out ‹Hid (ByOf r _ (fst r.K) r.C)›, ?_⟩,hb7⟩
    have:=of_decide_eq_true h
    omega
  case rest =>
  obtain ⟨b,rfl,hsh,hbc⟩:=hcut
  have Hsh:Hid (b=true->Shorter r j):=hsh
  clear hsh
  have HK:Hid (Blk wc w.heap.size #[.int .i64 0,.int .i64 0,.bool false,.map none,.map none,.map none] 104/\Below w.heap.size w wc/\Below w6.heap.size w6 wc):=⟨H6.out.2.2.2.2.below hbc,H6.out.1.trans (hbc.mono H6.out.1.size),hbc⟩
  have Hs3:Hid (StC wc (some ib) (some cb) (some lb) (fun n=>∃ s∈lackL j (r.A j) r.ps,s.S n) C'):=HstS.out wc (H6.out.2.1.trans (hbc.mono H6.out.2.1.size))
  have b0:=(HK.out.1.cell 0).trans rfl
  have b1:=(HK.out.1.cell 1).trans rfl
  have b2:=(HK.out.1.cell 2).trans rfl
  have b3:=(HK.out.1.cell 3).trans rfl
  have b4:=(HK.out.1.cell 4).trans rfl
  have b5:=(HK.out.1.cell 5).trans rfl
  have bf:=HK.out.1.frozen
  clear hbc m0 m1 m2 m3 m4 m5 n0 n1 n2 n3 n4 n5 HY hwb
  cases b with
  | true =>
   have Hsh2:Hid (Shorter r j):=Hsh.out rfl
   clear Hsh
   have a0:=(HC.out wc HK.out.2.2).1.1
   have a1:=(HC.out wc HK.out.2.2).1.2.1
   have a2:=(HC.out wc HK.out.2.2).1.2.2.1
   have a3:=(HC.out wc HK.out.2.2).1.2.2.2.1
   have a4:=(HC.out wc HK.out.2.2).1.2.2.2.2.1
   have a5:=(HC.out wc HK.out.2.2).1.2.2.2.2.2
   go_wp2_with fail
   have hfa:=fr_all (u0:=.int .i64 (r.a:Int)) (u1:=.int .i64 (mk:Int)) (u2:=.bool false) (u3:=.map r.io) (u4:=.map r.co) (u5:=.map r.lo) HK.out.1 HK.out.2.1
   have hstf:=HSt.out _ hfa.2.1
   clear a0 a1 a2 a3 a4 a5 b0 b1 b2 b3 b4 b5 bf
   generalize (((((((wc.setCell ⟨w.heap.size,0,none⟩ (.int .i64 (r.a:Int))).setCell ⟨w.heap.size,1,none⟩ (.int .i64 (mk:Int))).setCell ⟨w.heap.size,2,none⟩ (.bool false)).setCell ⟨w.heap.size,3,none⟩ (.map r.io)).setCell ⟨w.heap.size,4,none⟩ (.map r.co)).setCell ⟨w.heap.size,5,none⟩ (.map r.lo)))=wz at *
   have d0:=(hfa.1.cell 0).trans rfl
   have d1:=(hfa.1.cell 1).trans rfl
   have d2:=(hfa.1.cell 2).trans rfl
   have d3:=(hfa.1.cell 3).trans rfl
   have d4:=(hfa.1.cell 4).trans rfl
   have d5:=(hfa.1.cell 5).trans rfl
   exact bodyPost_ret (v:=.agg #[.int .i64 (r.a:Int),.int .i64 (mk:Int),.bool false,.map r.io,.map r.co,.map r.lo]) (by simp[results,Tryz.results54,go_sem,d0,d1,d2,d3,d4,d5]) rfl ⟨r.io,r.co,r.lo,_,_,rfl,hstf,Or.inl ⟨rfl,rfl,fun _=>Hsh2.out⟩,hfa.2.1⟩
  | false =>
   have a0:=(HC.out wc HK.out.2.2).2.1
   have a1:=(HC.out wc HK.out.2.2).2.2.1
   have a2:=(HC.out wc HK.out.2.2).2.2.2.1
   have a3:=(HC.out wc HK.out.2.2).2.2.2.2.1
   have a4:=(HC.out wc HK.out.2.2).2.2.2.2.2.1
   have a5:=(HC.out wc HK.out.2.2).2.2.2.2.2.2
   go_wp2_with fail
   have hfa:=fr_all (u0:=.int .i64 (r.a:Int)) (u1:=.int .i64 (mk:Int)) (u2:=.bool false) (u3:=.map (some ib)) (u4:=.map (some cb)) (u5:=.map (some lb)) HK.out.1 HK.out.2.1
   have hstf:=(⟨Hs3.out.r.chg hfa.2.2 (fun k hk e=>by subst e;exact Hs3.out.r.noCells (by rcases hk with h | h | h <;> simp only[Value.map.injEq] at h <;> simp[h]) HK.out.1),Hs3.out.b⟩:StC _ (some ib) (some cb) (some lb) (fun n=>∃ s∈lackL j (r.A j) r.ps,s.S n) C')
   clear a0 a1 a2 a3 a4 a5 b0 b1 b2 b3 b4 b5 bf
   generalize (((((((wc.setCell ⟨w.heap.size,0,none⟩ (.int .i64 (r.a:Int))).setCell ⟨w.heap.size,1,none⟩ (.int .i64 (mk:Int))).setCell ⟨w.heap.size,2,none⟩ (.bool false)).setCell ⟨w.heap.size,3,none⟩ (.map (some ib))).setCell ⟨w.heap.size,4,none⟩ (.map (some cb))).setCell ⟨w.heap.size,5,none⟩ (.map (some lb))))=wz at *
   have d0:=(hfa.1.cell 0).trans rfl
   have d1:=(hfa.1.cell 1).trans rfl
   have d2:=(hfa.1.cell 2).trans rfl
   have d3:=(hfa.1.cell 3).trans rfl
   have d4:=(hfa.1.cell 4).trans rfl
   have d5:=(hfa.1.cell 5).trans rfl
   exact bodyPost_ret (v:=.agg #[.int .i64 (r.a:Int),.int .i64 (mk:Int),.bool false,.map (some ib),.map (some cb),.map (some lb)]) (by simp[results,Tryz.results54,go_sem,d0,d1,d2,d3,d4,d5]) rfl ⟨(some ib),(some cb),(some lb),_,_,rfl,hstf,Or.inr Hss.out,hfa.2.1⟩
end Go.Proofs.YtfmmllpjgkgeaaaGreatDoor

