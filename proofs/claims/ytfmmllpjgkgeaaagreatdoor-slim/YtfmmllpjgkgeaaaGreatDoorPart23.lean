import Derived.Test.YtfmmllpjgkgeaaaGreatDoorPart22
set_option linter.unusedVariables false
set_option linter.unusedSimpArgs false
set_option maxHeartbeats 16000000
set_option maxRecDepth 100000
namespace Go.Proofs.YtfmmllpjgkgeaaaGreatDoor
open Go.RowKit Go.Maps Go.WideMaps Go.Shelf

theorem RepF.kept' {w w':World} {r:RD} {M:Nat->Prop} {pv:Value} {dr:Nat} {A:Nat->Nat} {ps:List PcD} (h:RepF w r) (hc:Chg M w w') (hM:∀ k,M k->k=r.kb\/r.pv.ownBlock=some k\/k=r.ab) (hk:KeptP w' r.kb r.room pv dr r.ab r.nb A ps):RepF w' { r with pv:=pv,dr:=dr,A:=A,ps:=ps }:=by
 have hne:=h.db_ne
 obtain ⟨rs,its,h1,h2⟩:=h.dsk
 obtain ⟨N,hN⟩:=h.kept.ack
 have hst:∀ k,r.io=some k\/r.co=some k\/r.lo=some k->¬M k:=fun k hk m=>by
  rcases hM k m with rfl | e | e
  ·exact h.st.r.noCells hk h.kept.blk
  ·obtain ⟨_,⟨g1,_⟩ | ⟨g',cap',cur,g1,g2,g3,_⟩⟩:=h.kept.row
   ·rw[g1] at e;cases e
   ·rw[g1] at e;cases e;exact h.st.r.noCells hk g3
  ·subst e;exact h.apart hk
 refine ⟨h.blk.chg hc (fun m=>?_),⟨h.st.r.chg hc (fun b hb=>hst b (by rcases hb with h | h | h <;> simp only[Value.map.injEq] at h <;> simp[h])),h.st.b⟩,hk,⟨rs,its,h1.chg hc (fun m=>?_),h2⟩,h.apart,h.k500,h.a5,h.n⟩
 ·rcases hM _ m with e | e | e
  ·exact hne.2.2.2.2.1 e
  ·exact hne.2.2.2.2.2.1 e
  ·exact hne.2.2.2.2.2.2 e
 ·rcases hM _ m with e | e | e
  ·exact hne.2.1 e
  ·exact hne.2.2.1 e
  ·exact hne.2.2.2.1 e

theorem IsDown_any (w:World) (r:RD) (h:RepF w r):Calls Tryz.prog 62 #[.pointer (some ⟨r.rb,0,none⟩)] w fun e w'=>e=.returned (.bool false)/\w'=w:=by
 have q6:=(h.blk.cell 6).trans rfl
 clear h
 go_enter Tryz.func62,Tryz.ntmps62
 go_wp2
 go_ret
 exact ⟨rfl,rfl⟩
theorem rWaiting_any (w:World) (r:RD) (h:RepF w r):Calls Tryz.prog 66 #[.pointer (some ⟨r.rb,0,none⟩)] w fun e w'=>e=.returned (.int .i64 (r.ps.length:Int))/\w'=w:=by
 have q4:=(h.blk.cell 4).trans rfl
 have H:Hid (_):=Waiting_any h.kept
 clear h
 go_enter Tryz.func66,Tryz.ntmps66
 go_wp2_with fail
 refine Calls.mono H.out ?_
 rintro e w1 ⟨rfl,rfl⟩
 go_wp2
 go_ret
 exact ⟨rfl,rfl⟩
theorem rTick_any (w:World) (r:RD) (h:RepF w r):Calls Tryz.prog 65 #[.pointer (some ⟨r.rb,0,none⟩)] w fun e w'=>e=.returned (.tuple #[])/\∃ pv,pv.ownBlock=r.pv.ownBlock/\RepF w' { r with pv:=pv,dr:=tickD r.nb r.A r.dr r.ps,A:=r.A,ps:=tickP r.nb r.A r.ps }/\Chg r.own w w':=by
 have q4:=(h.blk.cell 4).trans rfl
 have H:Hid (Calls Tryz.prog 105 #[.pointer (some ⟨r.kb,0,none⟩)] w fun e w'=>e=.returned (.tuple #[])/\∃ pv,pv.ownBlock=r.pv.ownBlock/\RepF w' { r with pv:=pv,dr:=tickD r.nb r.A r.dr r.ps,A:=r.A,ps:=tickP r.nb r.A r.ps }/\Chg r.own w w'):=by
  refine Calls.mono (kTick_any w r.kb r.room r.pv r.dr r.ab r.nb r.A r.ps h.kept) ?_
  rintro e w' ⟨rfl,pv,h1,h2,h3⟩
  exact ⟨rfl,pv,h2,h.kept' h3 (fun k hk=>by rcases hk with e | e;exact Or.inl e;exact Or.inr (Or.inl e)) h1,h3.mono (fun k _ e=>Or.inr (Or.inr (Or.inl (by rcases e with e | e;exact Or.inl e;exact Or.inr (Or.inl e)))))⟩
 clear h
 go_enter Tryz.func65,Tryz.ntmps65
 go_wp2_with fail
 refine Calls.mono H.out ?_
 rintro e w1 ⟨rfl,hX⟩
 have HX:Hid (∃ pv,pv.ownBlock=r.pv.ownBlock/\RepF w1 { r with pv:=pv,dr:=tickD r.nb r.A r.dr r.ps,A:=r.A,ps:=tickP r.nb r.A r.ps }/\Chg r.own w w1):=hX
 clear hX H
 go_wp2
 exact bodyPost_end (results_none rfl _ _ _) rfl ⟨rfl,HX.out⟩
theorem rAck_any (w:World) (r:RD) (h:RepF w r) (j mark:Nat) (x3 x4 x5:Option Nat) (ak:Bool) (hj:j∈r.nb) (hm:mark<=100000):Calls Tryz.prog 102 #[.pointer (some ⟨r.rb,0,none⟩),.agg #[.int .i64 (j:Int),.int .i64 (mark:Int),.bool ak,.map x3,.map x4,.map x5]] w fun e w'=>e=.returned (.tuple #[])/\RepF w' { r with pv:=r.pv,dr:=r.dr,A:=(fun x=>if x=j then max (r.A j) mark else r.A x),ps:=r.ps }/\Chg r.own w w':=by
 have hF:=h
 have q4:∀ o,(w.alloc o).drew.cell? ⟨r.rb,4,none⟩=some (.pointer (some ⟨r.kb,0,none⟩)):=fun o=>((h.blk.alloc o).cell 4).trans rfl
 have kf:=Blk.new w #[.int .i64 (j:Int),.int .i64 (mark:Int),.bool ak,.map x3,.map x4,.map x5] 104
 have z0:(w.alloc (.cells #[.int .i64 (j:Int),.int .i64 (mark:Int),.bool ak,.map x3,.map x4,.map x5] 104)).drew.cell? ⟨w.heap.size,0,none⟩=some (.int .i64 (j:Int)):=(kf.cell 0).trans rfl
 have z1:(w.alloc (.cells #[.int .i64 (j:Int),.int .i64 (mark:Int),.bool ak,.map x3,.map x4,.map x5] 104)).drew.cell? ⟨w.heap.size,1,none⟩=some (.int .i64 (mark:Int)):=(kf.cell 1).trans rfl
 have H:Hid (∀ wx,Below w.heap.size w wx->Calls Tryz.prog 169 #[.pointer (some ⟨r.kb,0,none⟩),.int .i64 (j:Int),.int .i64 (mark:Int)] wx fun e w'=>e=.returned (.tuple #[])/\RepF w' { r with pv:=r.pv,dr:=r.dr,A:=(fun x=>if x=j then max (r.A j) mark else r.A x),ps:=r.ps }/\Chg r.own w w'):=fun wx hb=>by
  refine Calls.mono (kAck_any wx r.kb r.room r.pv r.dr r.ab r.nb r.A r.ps j mark (hF.below hb).kept hm hj) ?_
  rintro e w' ⟨rfl,h1,h3⟩
  exact ⟨rfl,(hF.below hb).kept' h3 (fun k hk=>Or.inr (Or.inr hk)) h1,(Chg.of_below hb).trans (h3.mono (fun k _ e=>Or.inr (Or.inr (Or.inl (Or.inr (Or.inr (Or.inl e)))))))⟩
 have hb0:Below w.heap.size w (w.alloc (.cells #[.int .i64 (j:Int),.int .i64 (mark:Int),.bool ak,.map x3,.map x4,.map x5] 104)).drew:=((Below.refl _ w).alloc (Nat.le_refl _) _).drew
 clear h hF kf
 go_enter Tryz.func102,Tryz.ntmps102
 go_wp2_with fail
 go_region_with (first | (go_at_call 169;refine Calls.mono (H.out _ hb0) ?_;rintro e w1 ⟨rfl,hX⟩))
 all_goals
  go_wp2_with fail
  exact bodyPost_end (results_none rfl _ _ _) rfl ⟨rfl,hX⟩
theorem bringing_any (w:World) (r:RD) (h:RepF w r) (x y z:Option Nat):Calls Tryz.prog 98 #[.pointer (some ⟨r.rb,0,none⟩),.agg #[.map x,.map y,.map z]] w fun e w'=>e=.returned (.agg #[.int .i64 (r.a:Int),.int .i64 (sizeK r.K:Int),.bool false,.map x,.map y,.map z])/\Below w.heap.size w w':=by
 have hF:=h
 have hrl:=h.blk.lt
 obtain ⟨W0,hW0⟩:∃ W0,W0=(w.alloc (.cells #[.map x,.map y,.map z] 102)).alloc (.cells #[.int .i64 0,.int .i64 0,.bool false,.map none,.map none,.map none] 104):=⟨_,rfl⟩
 have hb0:Below w.heap.size w W0:=by rw[hW0];exact ((Below.refl _ w).alloc (Nat.le_refl _) _).alloc (by simp) _
 have k0:Blk W0 w.heap.size #[.map x,.map y,.map z] 102:=by rw[hW0];exact (Blk.new w _ _).alloc _
 have k1:Blk W0 (w.heap.size+1) #[.int .i64 0,.int .i64 0,.bool false,.map none,.map none,.map none] 104:=by
  rw[hW0]
  have:=Blk.new (w.alloc (.cells #[.map x,.map y,.map z] 102)) #[.int .i64 0,.int .i64 0,.bool false,.map none,.map none,.map none] 104
  rwa [World.size_alloc] at this
 have q0:W0.cell? ⟨r.rb,0,none⟩=some (.int .i64 (r.a:Int)):=((h.blk.below hb0).cell 0).trans rfl
 have s0:=(k0.cell 0).trans rfl
 have s1:=(k0.cell 1).trans rfl
 have s2:=(k0.cell 2).trans rfl
 have HK:Hid (∀ wx,wx.heap=W0.heap->wx.os=W0.os->wx.tape=W0.tape->wx.output=W0.output->Calls Tryz.prog 46 #[.pointer (some ⟨r.rb,0,none⟩)] wx fun e w'=>e=.returned (.int .i64 (sizeK r.K:Int))/\(Below w.heap.size w w'/\Blk w' (w.heap.size+1) #[.int .i64 0,.int .i64 0,.bool false,.map none,.map none,.map none] 104)/\w'.cell? ⟨r.rb,0,none⟩=some (.int .i64 (r.a:Int))/\w'.cell? ⟨w.heap.size,0,none⟩=some (.map x)/\w'.cell? ⟨w.heap.size,1,none⟩=some (.map y)/\w'.cell? ⟨w.heap.size,2,none⟩=some (.map z)/\w'.cell? ⟨w.heap.size+1,0,none⟩=some (.int .i64 0)/\w'.cell? ⟨w.heap.size+1,1,none⟩=some (.int .i64 0)/\w'.cell? ⟨w.heap.size+1,2,none⟩=some (.bool false)/\w'.cell? ⟨w.heap.size+1,3,none⟩=some (.map none)/\w'.cell? ⟨w.heap.size+1,4,none⟩=some (.map none)/\w'.cell? ⟨w.heap.size+1,5,none⟩=some (.map none)/\∀ i,w'.frozen? ⟨w.heap.size+1,i,none⟩=false):=fun wx hx ho ht hp=>by
  have hbx:Below W0.heap.size W0 wx:=⟨ho,ht,hp,by rw[hx];exact Nat.le_refl _,fun k _=>by rw[hx]⟩
  have hbw:=hb0.trans (hbx.mono hb0.size)
  refine Calls.mono (RepKnows_any wx r.rb r.a r.io r.co r.lo r.K r.C (hF.below hbw).rep) ?_
  rintro e w' ⟨rfl,h1⟩
  have h2:=hbx.trans (h1.mono hbx.size)
  have h3:=hbw.trans (h1.mono hbw.size)
  have k0':=k0.below h2
  have k1':=k1.below h2
  exact ⟨rfl,⟨h3,k1'⟩,((hF.blk.below h3).cell 0).trans rfl,(k0'.cell 0).trans rfl,(k0'.cell 1).trans rfl,(k0'.cell 2).trans rfl,(k1'.cell 0).trans rfl,(k1'.cell 1).trans rfl,(k1'.cell 2).trans rfl,(k1'.cell 3).trans rfl,(k1'.cell 4).trans rfl,(k1'.cell 5).trans rfl,k1'.frozen⟩
 have HW0:Hid (W0=(w.alloc (.cells #[.map x,.map y,.map z] 102)).alloc (.cells #[.int .i64 0,.int .i64 0,.bool false,.map none,.map none,.map none] 104)):=hW0
 clear h hF k0 k1 hb0 hW0
 go_enter Tryz.func98,Tryz.ntmps98
 go_wp2_with fail
 rw[<- HW0.out]
 go_region_with (first | (go_at_call 46;refine Calls.mono (HK.out _ rfl rfl rfl rfl) ?_;rintro e w1 ⟨rfl,hX,g0,g1,g2,g3,e0,e1,e2,e3,e4,e5,ef⟩))
 all_goals
  go_wp2_with fail
  have kz:Blk ((((((w1.setCell ⟨w.heap.size+1,0,none⟩ (.int .i64 (r.a:Int))).setCell ⟨w.heap.size+1,1,none⟩ (.int .i64 (sizeK r.K:Int))).setCell ⟨w.heap.size+1,2,none⟩ (.bool false)).setCell ⟨w.heap.size+1,3,none⟩ (.map x)).setCell ⟨w.heap.size+1,4,none⟩ (.map y)).setCell ⟨w.heap.size+1,5,none⟩ (.map z)) (w.heap.size+1) #[.int .i64 (r.a:Int),.int .i64 (sizeK r.K:Int),.bool false,.map x,.map y,.map z] 104:=by
   have:=hX.2
   unfold Blk at this ⊢
   simp[World.setCell,Array.getElem?_modify,this]
  have hbz:Below w.heap.size w ((((((w1.setCell ⟨w.heap.size+1,0,none⟩ (.int .i64 (r.a:Int))).setCell ⟨w.heap.size+1,1,none⟩ (.int .i64 (sizeK r.K:Int))).setCell ⟨w.heap.size+1,2,none⟩ (.bool false)).setCell ⟨w.heap.size+1,3,none⟩ (.map x)).setCell ⟨w.heap.size+1,4,none⟩ (.map y)).setCell ⟨w.heap.size+1,5,none⟩ (.map z)):=by
   have hq:w.heap.size<=w.heap.size+1:=Nat.le_succ _
   exact (((((hX.1.setCell (p:=⟨w.heap.size+1,0,none⟩) hq _).setCell (p:=⟨w.heap.size+1,1,none⟩) hq _).setCell (p:=⟨w.heap.size+1,2,none⟩) hq _).setCell (p:=⟨w.heap.size+1,3,none⟩) hq _).setCell (p:=⟨w.heap.size+1,4,none⟩) hq _).setCell (p:=⟨w.heap.size+1,5,none⟩) hq _
  clear e0 e1 e2 e3 e4 e5 ef g0 g1 g2 g3 hX
  generalize ((((((w1.setCell ⟨w.heap.size+1,0,none⟩ (.int .i64 (r.a:Int))).setCell ⟨w.heap.size+1,1,none⟩ (.int .i64 (sizeK r.K:Int))).setCell ⟨w.heap.size+1,2,none⟩ (.bool false)).setCell ⟨w.heap.size+1,3,none⟩ (.map x)).setCell ⟨w.heap.size+1,4,none⟩ (.map y)).setCell ⟨w.heap.size+1,5,none⟩ (.map z))=wz at *
  have d0:=(kz.cell 0).trans rfl
  have d1:=(kz.cell 1).trans rfl
  have d2:=(kz.cell 2).trans rfl
  have d3:=(kz.cell 3).trans rfl
  have d4:=(kz.cell 4).trans rfl
  have d5:=(kz.cell 5).trans rfl
  exact bodyPost_ret (v:=.agg #[.int .i64 (r.a:Int),.int .i64 (sizeK r.K:Int),.bool false,.map x,.map y,.map z]) (by simp[results,Tryz.results98,go_sem,d0,d1,d2,d3,d4,d5]) rfl ⟨rfl,hbz⟩
end Go.Proofs.YtfmmllpjgkgeaaaGreatDoor

