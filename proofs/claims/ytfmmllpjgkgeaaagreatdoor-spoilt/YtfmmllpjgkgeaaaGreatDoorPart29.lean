import Derived.Deep.RegionHeld3
import Derived.Test.YtfmmllpjgkgeaaaGreatDoorPart19
import Derived.Test.YtfmmllpjgkgeaaaGreatDoorPart28
set_option linter.unusedVariables false
set_option linter.unusedSimpArgs false
namespace Go.Proofs.YtfmmllpjgkgeaaaGreatDoor
open Go.RowKit Go.Maps Go.WideMaps Go.MuLone Go.Deep

theorem blk_types {w:World} {b:Nat} {cs cs':Array Value} {t t':TypeId} (h:Blk w b cs t) (h':Blk w b cs' t'):cs=cs'/\t=t':=by
 have e2:some (Obj.cells _ _ _)=some (Obj.cells _ _ _):=(show w.heap[b]? = _ from h).symm.trans h'
 injection e2 with e2
 injection e2 with e1 e3
 exact ⟨e1,e3⟩
theorem blk_tag {w:World} {b:Nat} {cs:Array Value} {t t':TypeId} (h:Blk w b cs t) (ht:Tagged w b t'):t'=t:=by
 obtain ⟨cur,h3⟩:=ht
 exact (blk_types h h3).2.symm
section
variable {w w':World} {x q cap:Nat} {fv:Value} {st:Int} {ds:List RepD} {bs:List (Nat × ByteArray)}
theorem RepF.tag {w:World} {r:RD} (h:RepF w r) {k:Nat} (ho:r.own k) {t:TypeId} (ht:Tagged w k t):t=125\/t=220\/t=222\/t=229:=by
 obtain ⟨cur,hcur⟩:=ht
 refine Classical.byContradiction fun hn=>?_
 refine h.not_own (cs:=cur) (t:=t) hcur (fun e=>hn (Or.inl e)) (fun e=>hn (Or.inr (Or.inl e))) (fun e=>hn (Or.inr (Or.inr (Or.inl e)))) (fun e=>hn (Or.inr (Or.inr (Or.inr e)))) ho
theorem CluP.repTag (h:CluP w x q cap fv st ds bs) (j:Nat) (hj:j<ds.length) {k:Nat} (ho:ds[j].own k) {t:TypeId} (ht:Tagged w k t):t=125\/t=220\/t=222\/t=229:=(h.rep j hj).tag ho ht
theorem CluP.more {w6:World} (h:CluP w x q cap fv st ds bs) (hc:Chg (fun k=>fv.ownBlock=some k) w w6) {dn:Nat} {s:ByteArray} {g c:Nat} (hb:bs.length+1<=500)
  (ho:w6.ownsRow 0 109 2 (.slice (some ⟨g,0,none⟩) (bs.length+1) c) (bs.length+1) (frV bs ++ [.int .i64 (dn:Int),.string s])) :
  CluP (w6.setCell ⟨x,3,none⟩ (.slice (some ⟨g,0,none⟩) (bs.length+1) c)) x q cap (.slice (some ⟨g,0,none⟩) (bs.length+1) c) st ds (bs ++ [(dn,s)]):=by
 have hno:∀ {k:Nat} {t:TypeId},Tagged w k t->t≠109->¬fv.ownBlock=some k:=fun ht hne hk=>Tagged.ne ht (h.frT _ hk) hne rfl
 have hx:¬fv.ownBlock=some x:=hno ⟨_,h.blk⟩ (by decide)
 obtain ⟨cs,r1,r2⟩:=h.row
 have hq:¬fv.ownBlock=some q:=hno ⟨_,r1⟩ (by decide)
 have hb6:=h.blk.chg hc hx
 have hcx:Chg (fun k=>k=x) w6 (w6.setCell ⟨x,3,none⟩ (.slice (some ⟨g,0,none⟩) (bs.length+1) c)):=(Chg.refl (fun k=>k=x) w6).setCell (p:=⟨x,3,none⟩) rfl _
 have hgx:g≠x:=fun e=>by
  subst e
  obtain ⟨_,⟨h1,_⟩ | ⟨g',cp,cur,hv,_,hh,_⟩⟩:=ho
  ·cases h1
  ·simp only[Value.slice.injEq,Option.some.injEq,Addr.mk.injEq,true_and,and_true] at hv
   obtain ⟨rfl,rfl⟩:=hv
   exact absurd (blk_types hb6 hh).2 (by decide)
 refine ⟨?_,⟨cs,(r1.chg hc hq).chg hcx (Ne.symm h.xq),r2⟩, ?_,fun j hj=>?_,h.ra,h.apart,h.xr,h.qr,h.len,h.cap,h.x4,by simpa using hb⟩
 ·unfold Blk at hb6 ⊢
  simp[World.setCell,Array.getElem?_modify,hb6]
 ·rw[frV_snoc,List.length_append,List.length_singleton]
  exact ownsRow_setCell_other ho (a:=⟨x,3,none⟩) (fun e=>hgx (by simpa[Value.ownBlock] using e)) _
 ·have hro:∀ k,ds[j].own k->¬fv.ownBlock=some k:=fun k hk hf=>by
   have:=h.repTag j hj hk (h.frT k hf)
   revert this
   decide
  exact ((h.rep j hj).chg hc hro).chg hcx (fun b hb e=>h.xr j hj (e ▸ hb))
theorem CluP.fvS (h:CluP w x q cap fv st ds bs):∃ ao c,fv=.slice ao bs.length c/\bs.length<=c:=by
 obtain ⟨_,⟨h1,h2⟩ | ⟨g,cap,cur,h1,_,_,h3,_⟩⟩:=h.fr
 ·exact ⟨none,0,by rw[h1,h2],by omega⟩
 ·exact ⟨_,cap,h1,h3⟩
end

set_option maxHeartbeats 1000000 in
theorem allSent_any (w:World) (x q cap:Nat) (fv:Value) (st:Int) (ds:List RepD) (bs:List (Nat × ByteArray)) (hC:CluP w x q cap fv st ds bs) :
  Calls Tryz.prog 52 #[.pointer (some ⟨x,0,none⟩)] w fun e w'=>e=.returned (.bool (decide (500<=bs.length)))/\w'=w:=by
 obtain ⟨ao,c,rfl,_⟩:=hC.fvS
 have c3:w.cell? ⟨x,3,none⟩=some (.slice ao bs.length c):=(hC.blk.cell 3).trans rfl
 have hb:=hC.b500
 clear hC
 generalize bs.length=n at *
 by_cases h:500<=n
 ·have e1:decide (500<=n)=true:=decide_eq_true h
  rw[e1]
  clear e1
  go_enter Tryz.func52,Tryz.ntmps52
  go_wp2
  go_ret
  exact ⟨by first | rfl | (simp;omega),rfl⟩
 ·have e1:decide (500<=n)=false:=decide_eq_false h
  rw[e1]
  clear e1
  go_enter Tryz.func52,Tryz.ntmps52
  go_wp2
  go_ret
  exact ⟨by first | rfl | (simp;omega),rfl⟩

set_option maxHeartbeats 1000000 in
theorem isSent_any (w:World) (x q cap:Nat) (fv:Value) (st:Int) (ds:List RepD) (bs:List (Nat × ByteArray)) (hC:CluP w x q cap fv st ds bs) (f:Int) :
  Calls Tryz.prog 55 #[.pointer (some ⟨x,0,none⟩),.int .i64 f] w fun e w'=>e=.returned (.bool (decide (1<=f/\f<=bs.length)))/\w'=w:=by
 obtain ⟨ao,c,rfl,_⟩:=hC.fvS
 have c3:w.cell? ⟨x,3,none⟩=some (.slice ao bs.length c):=(hC.blk.cell 3).trans rfl
 have hb:=hC.b500
 clear hC
 generalize bs.length=n at *
 by_cases h1:1<=f
 ·by_cases h:f<=(n:Int)
  ·have e1:decide (1<=f/\f<=(n:Int))=true:=decide_eq_true ⟨h1,h⟩
   rw[e1]
   clear e1
   go_enter Tryz.func55,Tryz.ntmps55
   go_wp2
   go_ret
   exact ⟨by first | rfl | (simp;omega),rfl⟩
  ·have e1:decide (1<=f/\f<=(n:Int))=false:=decide_eq_false (fun h2=>h h2.2)
   rw[e1]
   clear e1
   go_enter Tryz.func55,Tryz.ntmps55
   go_wp2
   go_ret
   exact ⟨by first | rfl | (simp;omega),rfl⟩
 ·have e1:decide (1<=f/\f<=(n:Int))=false:=decide_eq_false (fun h2=>h1 h2.1)
  rw[e1]
  clear e1
  go_enter Tryz.func55,Tryz.ntmps55
  go_wp2
  go_ret
  exact ⟨by first | rfl | (simp;omega),rfl⟩

theorem Tryz.infoSent:(Tryz.prog.info? 109).map (fun i=>(i.zero,i.size,i.bytes))=some (some (.agg #[.int .i64 0,.string ⟨#[]⟩]),2,24):=by kernel_rfl

set_option maxHeartbeats 8000000 in
set_option maxRecDepth 100000 in
theorem send_any (w:World) (x q cap:Nat) (fv:Value) (st:Int) (ds:List RepD) (bs:List (Nat × ByteArray)) (hC:CluP w x q cap fv st ds bs) (hb:bs.length+1<=500) (dn:Nat) (a mk:Int) (ak:Bool) (io co lo:Option Nat) (P:ByteArray->Prop)
  (hB:∀ wx,Below w.heap.size w wx->Calls Tryz.prog 97 #[.agg #[.int .i64 a,.int .i64 mk,.bool ak,.map io,.map co,.map lo]] wx fun e w'=>∃ s,e=.returned (.string s)/\P s/\Below wx.heap.size wx w') :
  Calls Tryz.prog 53 #[.pointer (some ⟨x,0,none⟩),.int .i64 (dn:Int),.agg #[.int .i64 a,.int .i64 mk,.bool ak,.map io,.map co,.map lo]] w fun e w'=>∃ s fv',e=.returned (.int .i64 ((bs.length+1:Nat):Int))/\P s/\CluP w' x q cap fv' st ds (bs ++ [(dn,s)]) /\
   Chg (fun k=>k=x\/fv.ownBlock=some k) w w'/\(∀ k,fv'.ownBlock=some k->fv.ownBlock=some k\/w.heap.size<=k):=by
 have HC:Hid (CluP w x q cap fv st ds bs):=hC
 obtain ⟨iR,hiR,hzR0,hzR1,hzR2⟩:=info_parts Tryz.infoSent
 obtain ⟨W0,hW0⟩:∃ W0,W0=w.alloc (.cells #[.int .i64 a,.int .i64 mk,.bool ak,.map io,.map co,.map lo] 104):=⟨_,rfl⟩
 have hb0:Below w.heap.size w W0:=by rw[hW0];exact (Below.refl _ w).alloc (Nat.le_refl _) _
 have kf:Blk W0 w.heap.size #[.int .i64 a,.int .i64 mk,.bool ak,.map io,.map co,.map lo] 104:=by rw[hW0];exact Blk.new w _ _
 have HB:Hid (∀ wx,wx.heap=W0.heap->wx.os=W0.os->wx.tape=W0.tape->wx.output=W0.output->Calls Tryz.prog 97 #[.agg #[.int .i64 a,.int .i64 mk,.bool ak,.map io,.map co,.map lo]] wx fun e w'=>∃ s,e=.returned (.string s)/\(P s/\Below w.heap.size w w')/\w'.ownsRow 0 109 2 fv bs.length (frV bs)/\w'.cell? ⟨x,3,none⟩=some fv/\(∀ o,(w'.alloc o).cell? ⟨x,3,none⟩=some fv)/\(∀ j,w'.frozen? ⟨x,j,none⟩=false)/\w'.cell? ⟨w.heap.size,0,none⟩=some (.int .i64 a)/\w'.cell? ⟨w.heap.size,1,none⟩=some (.int .i64 mk)/\w'.cell? ⟨w.heap.size,2,none⟩=some (.bool ak)/\w'.cell? ⟨w.heap.size,3,none⟩=some (.map io)/\w'.cell? ⟨w.heap.size,4,none⟩=some (.map co)/\w'.cell? ⟨w.heap.size,5,none⟩=some (.map lo)):=fun wx hx ho ht hp=>by
  have hbx:Below w.heap.size w wx:=⟨ho.trans hb0.os,ht.trans hb0.tape,hp.trans hb0.output,by rw[hx];exact hb0.size,fun k hk=>by rw[hx];exact hb0.block k hk⟩
  refine Calls.mono (hB wx hbx) ?_
  rintro e w' ⟨s,rfl,hP,hb2⟩
  have hbw:Below w.heap.size w w':=hbx.trans (hb2.mono hbx.size)
  have hC':=hC.below hbw
  have kx:Blk wx w.heap.size #[.int .i64 a,.int .i64 mk,.bool ak,.map io,.map co,.map lo] 104:=by unfold Blk;rw[hx];exact kf
  have k':=kx.below hb2
  exact ⟨s,rfl,⟨hP,hbw⟩,hC'.fr,(hC'.blk.cell 3).trans rfl,fun o=>((hC'.blk.alloc o).cell 3).trans rfl,hC'.blk.frozen,(k'.cell 0).trans rfl,(k'.cell 1).trans rfl,(k'.cell 2).trans rfl,(k'.cell 3).trans rfl,(k'.cell 4).trans rfl,(k'.cell 5).trans rfl⟩
 have hC0:=hC.below hb0
 have c3:W0.cell? ⟨x,3,none⟩=some fv:=(hC0.blk.cell 3).trans rfl
 have d0:=(kf.cell 0).trans rfl
 have d1:=(kf.cell 1).trans rfl
 have d2:=(kf.cell 2).trans rfl
 have d3:=(kf.cell 3).trans rfl
 have d4:=(kf.cell 4).trans rfl
 have d5:=(kf.cell 5).trans rfl
 have Hne:Hid (fv.ownBlock≠some x):=fun e=>Tagged.ne (hC.frT x e) ⟨_,hC.blk⟩ (by decide) rfl
 have hxl:Hid (x<w.heap.size):=hC.blk.lt
 have m1:Hid (bs.length+1<=maxLen):=by unfold Hid maxLen;omega
 have m2:Hid ((bs.length+1)*24<=140737488355328):=by unfold Hid;omega
 have hone:Hid (∀ (s:ByteArray),∀ u∈[Value.int .i64 (dn:Int),.string s],u.oneCell'=true):=by intro s u hu;simp at hu;rcases hu with rfl | rfl <;> rfl
 have HW0:Hid (w.alloc (.cells #[.int .i64 a,.int .i64 mk,.bool ak,.map io,.map co,.map lo] 104)=W0):=hW0.symm
 clear hC hC0 hB hW0 hb0 kf
 go_enter Tryz.func53,Tryz.ntmps53
 go_wp2_with fail
 rw[HW0.out]
 go_cut [] from 7 to 20 (fun wx=>∃ s w6 g6 c6,wx=w6.setCell ⟨x,3,none⟩ (.slice (some ⟨g6,0,none⟩) (bs.length+1) c6)/\P s/\Chg (fun k=>fv.ownBlock=some k) w w6/\w6.ownsRow 0 109 2 (.slice (some ⟨g6,0,none⟩) (bs.length+1) c6) (bs.length+1) (frV bs ++ [.int .i64 (dn:Int),.string s])/\(fv.ownBlock=some g6\/w.heap.size<=g6))
 case first =>
  go_region_law (first | (go_simp;refine Calls.mono (HB.out _ rfl rfl rfl rfl) ?_;rintro e w5 ⟨s5,rfl,hP5,hrow5,e3,e3A,ef,f0,f1,f2,f3,f4,f5⟩) | (refine step_append_row rfl (.tmp 11) (.tmp 16) 77 rfl 109 iR (.agg #[.int .i64 0,.string ⟨#[]⟩]) 2 24 Tryz.underlying77 hiR hzR0 hzR1 hzR2 rfl (by decide) fv bs.length (frV bs) rfl ?_ _ 1 1 [.int .i64 (dn:Int),.string s5] rfl rfl ?_ (hone.out _) m1.out m2.out (Nat.succ_pos _) ?_;(exact hrow5.alloc _);(intro j u hj;match j,hj with | 0,hj=>(cases hj;simp[Addr.add]) | 1,hj=>(cases hj;simp[Addr.add]));intro g6 c6 w6 hown6 hg6 hnew6;have hC6:Chg (fun k=>fv.ownBlock=some k) w5 w6:=Chg.grown (Chg.of_below (by go_grown)) hg6 (fun k hk=>Or.inl hk);have k3:=(World.cell?_of_block (w:=w5) (a:=⟨x,3,none⟩) (hC6.block x (Nat.lt_of_lt_of_le hxl.out hP5.2.size) Hne.out)).trans e3;have kf6:∀ j,w6.frozen? ⟨x,j,none⟩=false:=fun j=>(World.frozen?_of_block (w:=w5) (a:=⟨x,j,none⟩) (hC6.block x (Nat.lt_of_lt_of_le hxl.out hP5.2.size) Hne.out)).trans (ef j)))
  all_goals
   go_wp2_with fail
   go_meet
   refine ⟨s5,w6,g6,c6,rfl,hP5.1,(Chg.of_below hP5.2).trans hC6,hown6, ?_⟩
   rcases hnew6 with h | h
   ·exact Or.inl h
   ·refine Or.inr (Nat.le_trans hP5.2.size ?_)
    simp at h
    omega
 case rest =>
 obtain ⟨s,w6,g6,c6,rfl,hP,hC6,hown6,hnew6⟩:=hcut
 have hM:=HC.out.more hC6 hb hown6
 have HM:Hid (_):=hM
 have r3:=(hM.blk.cell 3).trans rfl
 have HX:Hid (P s/\Chg (fun k=>k=x\/fv.ownBlock=some k) w (w6.setCell ⟨x,3,none⟩ (.slice (some ⟨g6,0,none⟩) (bs.length+1) c6))/\(fv.ownBlock=some g6\/w.heap.size<=g6)):=⟨hP,Chg.setCell (M:=fun k=>k=x\/fv.ownBlock=some k) (p:=⟨x,3,none⟩) (hC6.wide (fun k hk=>Or.inr hk)) (Or.inl rfl) _,hnew6⟩
 clear hP hC6 hown6 hnew6 HB c3 d0 d1 d2 d3 d4 d5 hone m1 m2 hM
 generalize w6.setCell ⟨x,3,none⟩ (.slice (some ⟨g6,0,none⟩) (bs.length+1) c6)=w7 at *
 go_wp2_with fail
 go_ret
 exact ⟨s,_,by first | rfl | go_num,HX.out.1,HM.out,HX.out.2.1,fun k hk=>by cases hk;exact HX.out.2.2⟩

set_option maxHeartbeats 1000000 in
theorem CloneB_any (s:ByteArray) (w:World) (hs:s.size<=1000000000):Calls Tryz.prog 56 #[.string s] w fun e w'=>e=.returned (.string s)/\Below w.heap.size w w':=by
 have Hc:Hid (_):=Tryz.stringslite_Clone s w (by omega)
 go_enter Tryz.func56,Tryz.ntmps56
 go_wp2_with fail
 refine Calls.mono Hc.out ?_
 rintro e w1 ⟨rfl,hb⟩
 go_wp2
 go_ret
 exact ⟨rfl,hb⟩
end Go.Proofs.YtfmmllpjgkgeaaaGreatDoor

