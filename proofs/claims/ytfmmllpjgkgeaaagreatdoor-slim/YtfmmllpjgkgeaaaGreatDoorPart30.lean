import Derived.Test.YtfmmllpjgkgeaaaGreatDoorPart29
set_option linter.unusedVariables false
set_option linter.unusedSimpArgs false
set_option maxHeartbeats 16000000
set_option maxRecDepth 100000
namespace Go.Proofs.YtfmmllpjgkgeaaaGreatDoor
open Go.RowKit Go.Maps Go.WideMaps Go.MuLone Go.Deep

theorem blk_types {w:World} {b:Nat} {cs cs':Array Value} {t t':TypeId} (h:Blk w b cs t) (h':Blk w b cs' t'):cs=cs'/\t=t':=by
 have e2:some (Obj.cells _ _ _)=some (Obj.cells _ _ _):=(show w.heap[b]? = _ from h).symm.trans h'
 injection e2 with e2
 injection e2 with e1 e3
 exact ⟨e1,e3⟩
theorem blk_tag {w:World} {b:Nat} {cs:Array Value} {t t':TypeId} (h:Blk w b cs t) (ht:Tagged w b t'):t'=t:=by
 obtain ⟨cur,h3⟩:=ht
 exact (blk_types h h3).2.symm
section
variable {w w':World} {x q cap:Nat} {fv:Value} {st:Int} {ds:List RepD} {bs:List (Nat × ByteArray)}
theorem RepF.tag {w:World} {r:RD} (h:RepF w r) {k:Nat} (ho:r.own k) {t:TypeId} (ht:Tagged w k t):t=125\/t=220\/t=222\/t=229:=by
 obtain ⟨cur,hcur⟩:=ht
 refine Classical.byContradiction fun hn=>?_
 refine h.not_own (cs:=cur) (t:=t) hcur (fun e=>hn (Or.inl e)) (fun e=>hn (Or.inr (Or.inl e))) (fun e=>hn (Or.inr (Or.inr (Or.inl e)))) (fun e=>hn (Or.inr (Or.inr (Or.inr e)))) ho
theorem CluP.repTag (h:CluP w x q cap fv st ds bs) (j:Nat) (hj:j<ds.length) {k:Nat} (ho:ds[j].own k) {t:TypeId} (ht:Tagged w k t):t=125\/t=220\/t=222\/t=229:=(h.rep j hj).tag ho ht
theorem CluP.more {w6:World} (h:CluP w x q cap fv st ds bs) (hc:Chg (fun k=>fv.ownBlock=some k) w w6) {dn:Nat} {s:ByteArray} {g c:Nat} (hb:bs.length+1<=500)
  (ho:w6.ownsRow 0 109 2 (.slice (some ⟨g,0,none⟩) (bs.length+1) c) (bs.length+1) (frV bs ++ [.int .i64 (dn:Int),.string s])) :
  CluP (w6.setCell ⟨x,3,none⟩ (.slice (some ⟨g,0,none⟩) (bs.length+1) c)) x q cap (.slice (some ⟨g,0,none⟩) (bs.length+1) c) st ds (bs ++ [(dn,s)]):=by
 have hno:∀ {k:Nat} {t:TypeId},Tagged w k t->t≠109->¬fv.ownBlock=some k:=fun ht hne hk=>Tagged.ne ht (h.frT _ hk) hne rfl
 have hx:¬fv.ownBlock=some x:=hno ⟨_,h.blk⟩ (by decide)
 obtain ⟨cs,r1,r2⟩:=h.row
 have hq:¬fv.ownBlock=some q:=hno ⟨_,r1⟩ (by decide)
 have hb6:=h.blk.chg hc hx
 have hcx:Chg (fun k=>k=x) w6 (w6.setCell ⟨x,3,none⟩ (.slice (some ⟨g,0,none⟩) (bs.length+1) c)):=(Chg.refl (fun k=>k=x) w6).setCell (p:=⟨x,3,none⟩) rfl _
 have hgx:g≠x:=fun e=>by
  subst e
  obtain ⟨_,⟨h1,_⟩ | ⟨g',cp,cur,hv,_,hh,_⟩⟩:=ho
  ·cases h1
  ·simp only[Value.slice.injEq,Option.some.injEq,Addr.mk.injEq,true_and,and_true] at hv
   obtain ⟨rfl,rfl⟩:=hv
   exact absurd (blk_types hb6 hh).2 (by decide)
 refine ⟨?_,⟨cs,(r1.chg hc hq).chg hcx (Ne.symm h.xq),r2⟩, ?_,fun j hj=>?_,h.ra,h.apart,h.xr,h.qr,h.len,h.cap,h.x4,by simpa using hb⟩
 ·unfold Blk at hb6 ⊢
  simp[World.setCell,Array.getElem?_modify,hb6]
 ·rw[frV_snoc,List.length_append,List.length_singleton]
  exact ownsRow_setCell_other ho (a:=⟨x,3,none⟩) (fun e=>hgx (by simpa[Value.ownBlock] using e)) _
 ·have hro:∀ k,ds[j].own k->¬fv.ownBlock=some k:=fun k hk hf=>by
   have:=h.repTag j hj hk (h.frT k hf)
   revert this
   decide
  exact ((h.rep j hj).chg hc hro).chg hcx (fun b hb e=>h.xr j hj (e ▸ hb))
theorem CluP.fvS (h:CluP w x q cap fv st ds bs):∃ ao c,fv=.slice ao bs.length c/\bs.length<=c:=by
 obtain ⟨_,⟨h1,h2⟩ | ⟨g,cap,cur,h1,_,_,h3,_⟩⟩:=h.fr
 ·exact ⟨none,0,by rw[h1,h2],by omega⟩
 ·exact ⟨_,cap,h1,h3⟩
end

theorem allSent_any (w:World) (x q cap:Nat) (fv:Value) (st:Int) (ds:List RepD) (bs:List (Nat × ByteArray)) (hC:CluP w x q cap fv st ds bs) :
  Calls Tryz.prog 52 #[.pointer (some ⟨x,0,none⟩)] w fun e w'=>e=.returned (.bool (decide (500<=bs.length)))/\w'=w:=by
 obtain ⟨ao,c,rfl,_⟩:=hC.fvS
 have c3:w.cell? ⟨x,3,none⟩=some (.slice ao bs.length c):=(hC.blk.cell 3).trans rfl
 have hb:=hC.b500
 clear hC
 generalize bs.length=n at *
 by_cases h:500<=n
 ·have e1:decide (500<=n)=true:=decide_eq_true h
  rw[e1]
  clear e1
  go_enter Tryz.func52,Tryz.ntmps52
  go_wp2
  go_ret
  exact ⟨by first | rfl | (simp;omega),rfl⟩
 ·have e1:decide (500<=n)=false:=decide_eq_false h
  rw[e1]
  clear e1
  go_enter Tryz.func52,Tryz.ntmps52
  go_wp2
  go_ret
  exact ⟨by first | rfl | (simp;omega),rfl⟩

theorem isSent_any (w:World) (x q cap:Nat) (fv:Value) (st:Int) (ds:List RepD) (bs:List (Nat × ByteArray)) (hC:CluP w x q cap fv st ds bs) (f:Int) :
  Calls Tryz.prog 55 #[.pointer (some ⟨x,0,none⟩),.int .i64 f] w fun e w'=>e=.returned (.bool (decide (1<=f/\f<=bs.length)))/\w'=w:=by
 obtain ⟨ao,c,rfl,_⟩:=hC.fvS
 have c3:w.cell? ⟨x,3,none⟩=some (.slice ao bs.length c):=(hC.blk.cell 3).trans rfl
 have hb:=hC.b500
 clear hC
 generalize bs.length=n at *
 by_cases h1:1<=f
 ·by_cases h:f<=(n:Int)
  ·have e1:decide (1<=f/\f<=(n:Int))=true:=decide_eq_true ⟨h1,h⟩
   rw[e1]
   clear e1
   go_enter Tryz.func55,Tryz.ntmps55
   go_wp2
   go_ret
   exact ⟨by first | rfl | (simp;omega),rfl⟩
  ·have e1:decide (1<=f/\f<=(n:Int))=false:=decide_eq_false (fun h2=>h h2.2)
   rw[e1]
   clear e1
   go_enter Tryz.func55,Tryz.ntmps55
   go_wp2
   go_ret
   exact ⟨by first | rfl | (simp;omega),rfl⟩
 ·have e1:decide (1<=f/\f<=(n:Int))=false:=decide_eq_false (fun h2=>h1 h2.1)
  rw[e1]
  clear e1
  go_enter Tryz.func55,Tryz.ntmps55
  go_wp2
  go_ret
  exact ⟨by first | rfl | (simp;omega),rfl⟩

theorem Tryz.infoSent:(Tryz.prog.info? 109).map (fun i=>(i.zero,i.size,i.bytes))=some (some (.agg #[.int .i64 0,.string ⟨#[]⟩]),2,24):=by kernel_rfl

theorem send_any (w:World) (x q cap:Nat) (fv:Value) (st:Int) (ds:List RepD) (bs:List (Nat × ByteArray)) (hC:CluP w x q cap fv st ds bs) (hb:bs.length+1<=500) (dn:Nat) (a mk:Int) (ak:Bool) (io co lo:Option Nat) (P:ByteArray->Prop)
  (hB:∀ wx,Below w.heap.size w wx->Calls Tryz.prog 97 #[.agg #[.int .i64 a,.int .i64 mk,.bool ak,.map io,.map co,.map lo]] wx fun e w'=>∃ s,e=.returned (.string s)/\P s/\Below wx.heap.size wx w') :
  Calls Tryz.prog 53 #[.pointer (some ⟨x,0,none⟩),.int .i64 (dn:Int),.agg #[.int .i64 a,.int .i64 mk,.bool ak,.map io,.map co,.map lo]] w fun e w'=>∃ s fv',e=.returned (.int .i64 ((bs.length+1:Nat):Int))/\P s/\CluP w' x q cap fv' st ds (bs ++ [(dn,s)]) /\
   Chg (fun k=>k=x\/fv.ownBlock=some k) w w'/\(∀ k,fv'.ownBlock=some k->fv.ownBlock=some k\/w.heap.size<=k):=by
 have HC:Hid (CluP w x q cap fv st ds bs):=hC
 obtain ⟨iR,hiR,hzR0,hzR1,hzR2⟩:=info_parts Tryz.infoSent
 obtain ⟨W0,hW0⟩:∃ W0,W0=w.alloc (.cells #[.int .i64 a,.int .i64 mk,.bool ak,.map io,.map co,.map lo] 104):=⟨_,rfl⟩
 have hb0:Below w.heap.size w W0:=by rw[hW0];exact (Below.refl _ w).alloc (Nat.le_refl _) _
 have kf:Blk W0 w.heap.size #[.int .i64 a,.int .i64 mk,.bool ak,.map io,.map co,.map lo] 104:=by rw[hW0];exact Blk.new w _ _
 have HB:Hid (∀ wx,wx.heap=W0.heap->wx.os=W0.os->wx.tape=W0.tape->wx.output=W0.output->Calls Tryz.prog 97 #[.agg #[.int .i64 a,.int .i64 mk,.bool ak,.map io,.map co,.map lo]] wx fun e w'=>∃ s,e=.returned (.string s)/\(P s/\Below w.heap.size w w')/\w'.ownsRow 0 109 2 fv bs.length (frV bs)/\w'.cell? ⟨x,3,none⟩=some fv/\(∀ o,(w'.alloc o).cell? ⟨x,3,none⟩=some fv)/\(∀ j,w'.frozen? ⟨x,j,none⟩=false)/\w'.cell? ⟨w.heap.size,0,none⟩=some (.int .i64 a)/\w'.cell? ⟨w.heap.size,1,none⟩=some (.int .i64 mk)/\w'.cell? ⟨w.heap.size,2,none⟩=some (.bool ak)/\w'.cell? ⟨w.heap.size,3,none⟩=some (.map io)/\w'.cell? ⟨w.heap.size,4,none⟩=some (.map co)/\w'.cell? ⟨w.heap.size,5,none⟩=some (.map lo)):=fun wx hx ho ht hp=>by
  have hbx:Below w.heap.size w wx:=⟨ho.trans hb0.os,ht.trans hb0.tape,hp.trans hb0.output,by rw[hx];exact hb0.size,fun k hk=>by rw[hx];exact hb0.block k hk⟩
  refine Calls.mono (hB wx hbx) ?_
  rintro e w' ⟨s,rfl,hP,hb2⟩
  have hbw:Below w.heap.size w w':=hbx.trans (hb2.mono hbx.size)
  have hC':=hC.below hbw
  have kx:Blk wx w.heap.size #[.int .i64 a,.int .i64 mk,.bool ak,.map io,.map co,.map lo] 104:=by unfold Blk;rw[hx];exact kf
  have k':=kx.below hb2
  exact ⟨s,rfl,⟨hP,hbw⟩,hC'.fr,(hC'.blk.cell 3).trans rfl,fun o=>((hC'.blk.alloc o).cell 3).trans rfl,hC'.blk.frozen,(k'.cell 0).trans rfl,(k'.cell 1).trans rfl,(k'.cell 2).trans rfl,(k'.cell 3).trans rfl,(k'.cell 4).trans rfl,(k'.cell 5).trans rfl⟩
 have hC0:=hC.below hb0
 have c3:W0.cell? ⟨x,3,none⟩=some fv:=(hC0.blk.cell 3).trans rfl
 have d0:=(kf.cell 0).trans rfl
 have d1:=(kf.cell 1).trans rfl
 have d2:=(kf.cell 2).trans rfl
 have d3:=(kf.cell 3).trans rfl
 have d4:=(kf.cell 4).trans rfl
 have d5:=(kf.cell 5).trans rfl
 have Hne:Hid (fv.ownBlock≠some x):=fun e=>Tagged.ne (hC.frT x e) ⟨_,hC.blk⟩ (by decide) rfl
 have hxl:Hid (x<w.heap.size):=hC.blk.lt
 have m1:Hid (bs.length+1<=maxLen):=by unfold Hid maxLen;omega
 have m2:Hid ((bs.length+1)*24<=140737488355328):=by unfold Hid;omega
 have hone:Hid (∀ (s:ByteArray),∀ u∈[Value.int .i64 (dn:Int),.string s],u.oneCell'=true):=by intro s u hu;simp at hu;rcases hu with rfl | rfl <;> rfl
 have HW0:Hid (w.alloc (.cells #[.int .i64 a,.int .i64 mk,.bool ak,.map io,.map co,.map lo] 104)=W0):=hW0.symm
 clear hC hC0 hB hW0 hb0 kf
 go_enter Tryz.func53,Tryz.ntmps53
 go_wp2_with fail
 rw[HW0.out]
 go_cut [] from 7 to 20 (fun wx=>∃ s w6 g6 c6,wx=w6.setCell ⟨x,3,none⟩ (.slice (some ⟨g6,0,none⟩) (bs.length+1) c6)/\P s/\Chg (fun k=>fv.ownBlock=some k) w w6/\w6.ownsRow 0 109 2 (.slice (some ⟨g6,0,none⟩) (bs.length+1) c6) (bs.length+1) (frV bs ++ [.int .i64 (dn:Int),.string s])/\(fv.ownBlock=some g6\/w.heap.size<=g6))
 case first =>
  go_region_law (first | (go_simp;refine Calls.mono (HB.out _ rfl rfl rfl rfl) ?_;rintro e w5 ⟨s5,rfl,hP5,hrow5,e3,e3A,ef,f0,f1,f2,f3,f4,f5⟩) | (refine step_append_row rfl (.tmp 11) (.tmp 16) 77 rfl 109 iR (.agg #[.int .i64 0,.string ⟨#[]⟩]) 2 24 Tryz.underlying77 hiR hzR0 hzR1 hzR2 rfl (by decide) fv bs.length (frV bs) rfl ?_ _ 1 1 [.int .i64 (dn:Int),.string s5] rfl rfl ?_ (hone.out _) m1.out m2.out (Nat.succ_pos _) ?_;(exact hrow5.alloc _);(intro j u hj;match j,hj with | 0,hj=>(cases hj;simp[Addr.add]) | 1,hj=>(cases hj;simp[Addr.add]));intro g6 c6 w6 hown6 hg6 hnew6;have hC6:Chg (fun k=>fv.ownBlock=some k) w5 w6:=Chg.grown (Chg.of_below (by go_grown)) hg6 (fun k hk=>Or.inl hk);have k3:=(World.cell?_of_block (w:=w5) (a:=⟨x,3,none⟩) (hC6.block x (Nat.lt_of_lt_of_le hxl.out hP5.2.size) Hne.out)).trans e3;have kf6:∀ j,w6.frozen? ⟨x,j,none⟩=false:=fun j=>(World.frozen?_of_block (w:=w5) (a:=⟨x,j,none⟩) (hC6.block x (Nat.lt_of_lt_of_le hxl.out hP5.2.size) Hne.out)).trans (ef j)))
  all_goals
   go_wp2_with fail
   go_meet
   refine ⟨s5,w6,g6,c6,rfl,hP5.1,(Chg.of_below hP5.2).trans hC6,hown6, ?_⟩
   rcases hnew6 with h | h
   ·exact Or.inl h
   ·refine Or.inr (Nat.le_trans hP5.2.size ?_)
    simp at h
    omega
 case rest =>
 obtain ⟨s,w6,g6,c6,rfl,hP,hC6,hown6,hnew6⟩:=hcut
 have hM:=HC.out.more hC6 hb hown6
 have HM:Hid (_):=hM
 have r3:=(hM.blk.cell 3).trans rfl
 have HX:Hid (P s/\Chg (fun k=>k=x\/fv.ownBlock=some k) w (w6.setCell ⟨x,3,none⟩ (.slice (some ⟨g6,0,none⟩) (bs.length+1) c6))/\(fv.ownBlock=some g6\/w.heap.size<=g6)):=⟨hP,Chg.setCell (M:=fun k=>k=x\/fv.ownBlock=some k) (p:=⟨x,3,none⟩) (hC6.wide (fun k hk=>Or.inr hk)) (Or.inl rfl) _,hnew6⟩
 clear hP hC6 hown6 hnew6 HB c3 d0 d1 d2 d3 d4 d5 hone m1 m2 hM
 generalize w6.setCell ⟨x,3,none⟩ (.slice (some ⟨g6,0,none⟩) (bs.length+1) c6)=w7 at *
 go_wp2_with fail
 go_ret
 exact ⟨s,_,by first | rfl | go_num,HX.out.1,HM.out,HX.out.2.1,fun k hk=>by cases hk;exact HX.out.2.2⟩

theorem CloneB_any (s:ByteArray) (w:World) (hs:s.size<=1000000000):Calls Tryz.prog 56 #[.string s] w fun e w'=>e=.returned (.string s)/\Below w.heap.size w w':=by
 have Hc:Hid (_):=Tryz.stringslite_Clone s w (by omega)
 go_enter Tryz.func56,Tryz.ntmps56
 go_wp2_with fail
 refine Calls.mono Hc.out ?_
 rintro e w1 ⟨rfl,hb⟩
 go_wp2
 go_ret
 exact ⟨rfl,hb⟩

def waitD (ds:List RepD) (i:Int):Int × Int:=if 0<=i/\i<ds.length then (((ds[i.toNat]?.map fun d=>d.ps.length).getD 0:Nat),0) else (0,2)
def LetD (B:Nat) (ds:List RepD) (i:Int) (P:RD->RD->Prop) (ds':List RepD):Prop :=
 (¬(0<=i/\i<ds.length)/\ds'=ds)\/∃ (k:Nat) (hk:k<ds.length) (r':RD),i=(k:Int)/\Renews B ds[k] r'/\P ds[k] r'/\ds'=ds.set k r'
def crashP (r r':RD):Prop:=∃ io co lo:Nat,r' = { r with io:=some io,co:=some co,lo:=some lo,pv:=.slice none 0 0,dr:=sizeK r.K,A:=fun _=>0,ps:=[] }
def tickPP (r r':RD):Prop:=∃ pv,r' = { r with pv:=pv,dr:=tickD r.nb r.A r.dr r.ps,A:=r.A,ps:=tickP r.nb r.A r.ps }
theorem crash_renews {B:Nat} {r:RD} {io co lo:Nat} (h:B<=io/\B<=co/\B<=lo):Renews B r { r with io:=some io,co:=some co,lo:=some lo,pv:=.slice none 0 0,dr:=sizeK r.K,A:=fun _=>0,ps:=[] }:=by
 refine ⟨rfl,rfl,rfl,rfl,fun b hb=>?_⟩
 rcases hb with hb | hb | hb | hb
 ·exact Or.inl (Or.inl hb)
 ·refine Or.inr ?_
  rcases hb with e | e | e <;> (have e':=Option.some.inj e;omega)
 ·rcases hb with hb | hb | hb | ⟨p,hp,hb⟩
  ·exact Or.inl (Or.inr (Or.inr (Or.inl (Or.inl hb))))
  ·cases hb
  ·exact Or.inl (Or.inr (Or.inr (Or.inl (Or.inr (Or.inr (Or.inl hb))))))
  ·exact absurd hp (by show p ∉ ([]:List PcD);simp)
 ·exact Or.inl (Or.inr (Or.inr (Or.inr hb)))
theorem tickP_mem {nb:List Nat} {A:Nat->Nat} : ∀ {ps:List PcD} {p:PcD},p∈tickP nb A ps->p∈ps
 | [],p,h=>h
 | q :: ps,p,h=>by
  unfold tickP at h
  split at h
  ·exact List.mem_cons_of_mem _ (tickP_mem h)
  ·exact h
theorem tick_renews {B:Nat} {r:RD} {pv:Value} (h:pv.ownBlock=r.pv.ownBlock):Renews B r { r with pv:=pv,dr:=tickD r.nb r.A r.dr r.ps,A:=r.A,ps:=tickP r.nb r.A r.ps }:=by
 refine ⟨rfl,rfl,rfl,rfl,fun b hb=>Or.inl ?_⟩
 rcases hb with hb | hb | hb | hb
 ·exact Or.inl hb
 ·exact Or.inr (Or.inl hb)
 ·rcases hb with hb | hb | hb | ⟨p,hp,hb⟩
  ·exact Or.inr (Or.inr (Or.inl (Or.inl hb)))
  ·exact Or.inr (Or.inr (Or.inl (Or.inr (Or.inl (by rw[<- h];exact hb)))))
  ·exact Or.inr (Or.inr (Or.inl (Or.inr (Or.inr (Or.inl hb)))))
  ·exact Or.inr (Or.inr (Or.inl (Or.inr (Or.inr (Or.inr ⟨p,tickP_mem hp,hb⟩)))))
 ·exact Or.inr (Or.inr (Or.inr hb))

theorem CWaiting_any (w:World) (x q cap:Nat) (fv:Value) (ds:List RepD) (bs:List (Nat × ByteArray)) (hC:CluP w x q cap fv 0 ds bs) (i:Int) :
  Calls Tryz.prog 37 #[.pointer (some ⟨x,0,none⟩),.int .i64 i] w fun e w'=>e=.returned (.tuple #[.int .i64 (waitD ds i).1,.int .i64 (waitD ds i).2])/\CluP w' x q cap fv 0 ds bs/\Chg (fun k=>k=x) w w':=by
 have HC:Hid (CluP w x q cap fv 0 ds bs):=hC
 have k0:w.cell? ⟨x,0,none⟩=some (.int .i32 0):=(hC.blk.cell 0).trans rfl
 have z0:w.frozen? ⟨x,0,none⟩=false:=hC.blk.frozen 0
 have HC1:Hid (CluP (w.setCell ⟨x,0,none⟩ (.int .i32 1)) x q cap fv 1 ds bs):=hC.turn 1
 have hxl:=hC.blk.lt
 clear hC
 go_enter_defers Tryz.func37,Tryz.ntmps37
 go_wp2_with (go_at_call 43;refine (lock_free muLib ⟨x,0,none⟩ _ k0 z0).mono ?_;rintro e w' ⟨rfl,rfl⟩)
 have h1b:Below (w.setCell ⟨x,0,none⟩ (.int .i32 1)).heap.size (w.setCell ⟨x,0,none⟩ (.int .i32 1)) ((w.setCell ⟨x,0,none⟩ (.int .i32 1)).alloc (.cells #[.int .i64 i] 3)):=(Below.refl _ _).alloc (Nat.le_refl _) _
 have hgc:((w.setCell ⟨x,0,none⟩ (.int .i32 1)).alloc (.cells #[.int .i64 i] 3)).cell? ⟨w.heap.size,0,none⟩=some (.int .i64 i):=by
  have:=(Blk.new (w.setCell ⟨x,0,none⟩ (.int .i32 1)) #[.int .i64 i] 3).cell 0
  simpa using this
 have hch:Chg (fun k=>k=x) w ((w.setCell ⟨x,0,none⟩ (.int .i32 1)).alloc (.cells #[.int .i64 i] 3)):=(chg_turn (M:=fun k=>k=x) rfl _).below h1b
 have HB:=HC1.out.below h1b
 refine Calls.mono (named_any _ x q cap fv 1 ds bs HB w.heap.size i hgc) ?_
 rintro e w1 ⟨rfl,hw1⟩
 rw[<- hw1] at HB hch
 clear hgc h1b hw1 HC1 k0 z0 hxl
 have HC1:Hid (CluP w1 x q cap fv 1 ds bs):=HB
 have Hch:Hid (Chg (fun k=>k=x) w w1):=hch
 clear HB hch HC
 by_cases hi:0<=i/\i<ds.length
 ·obtain ⟨k,rfl⟩:=Int.eq_ofNat_of_zero_le hi.1
  have hk:k<ds.length:=by omega
  have hn:namedR ds.length (k:Int)=0:=by unfold namedR;rw[if_pos hi]
  have hkd:Hid (waitD ds (k:Int)=((ds[k].ps.length:Int),0)):=by unfold Hid waitD;rw[if_pos hi];simp[hk]
  rw[hn]
  have c2:w1.cell? ⟨x,2,none⟩=some (.slice (some ⟨q,0,none⟩) ds.length cap):=(HC1.out.blk.cell 2).trans rfl
  have cq:=HC1.out.cell k hk
  have HK:Hid (_):=rWaiting_any w1 ds[k] (HC1.out.rep k hk)
  clear hn hi
  go_wp2_with fail
  refine Calls.mono HK.out ?_
  rintro e w2 ⟨rfl,rfl⟩
  have HC2:Hid (CluP w2 x q cap fv 1 ds bs):=HC1.out
  have Hch2:Hid (Chg (fun k=>k=x) w w2):=Hch.out
  clear HK HC1 Hch c2 cq
  go_wp2_with fail
  refine leaves_cons (f:=44) (args:=#[.pointer (some ⟨x,0,none⟩)]) (by simp) (by simp[go_sem]) ?_
  refine (unlock_deferred muLib ⟨x,0,none⟩ .returning _ ((HC2.out.blk.cell 0).trans rfl) (HC2.out.blk.frozen 0)).mono ?_
  rintro e u' w3 ⟨rfl,rfl,rfl⟩
  exact ⟨_,results_tmp2 rfl _ _ _,by rw[hkd.out];rfl,HC2.out.turn 0,Chg.setCell (M:=fun k=>k=x) (p:=⟨x,0,none⟩) Hch2.out rfl _⟩
 ·have hn:namedR ds.length i=2:=by unfold namedR;rw[if_neg hi]
  have hkd:Hid (waitD ds i=(0,2)):=by unfold Hid waitD;rw[if_neg hi]
  rw[hn]
  clear hn hi
  go_wp2_with fail
  refine leaves_cons (f:=44) (args:=#[.pointer (some ⟨x,0,none⟩)]) (by simp) (by simp[go_sem]) ?_
  refine (unlock_deferred muLib ⟨x,0,none⟩ .returning _ ((HC1.out.blk.cell 0).trans rfl) (HC1.out.blk.frozen 0)).mono ?_
  rintro e u' w3 ⟨rfl,rfl,rfl⟩
  exact ⟨_,results_tmp2 rfl _ _ _,by rw[hkd.out];rfl,HC1.out.turn 0,Chg.setCell (M:=fun k=>k=x) (p:=⟨x,0,none⟩) Hch.out rfl _⟩

theorem let_crash (w:World) (hG:Glob w) (x q cap:Nat) (fv:Value) (ds:List RepD) (bs:List (Nat × ByteArray)) (hC:CluP w x q cap fv 0 ds bs) (i:Int) :
  Calls Tryz.prog 64 #[.pointer (some ⟨x,0,none⟩),.int .i64 i,.func (.func 76) #[] #[]] w fun e w'=>∃ ds',e=.returned (.int .i64 (namedR ds.length i))/\LetD w.heap.size ds i crashP ds'/\CluP w' x q cap fv 0 ds' bs/\Chg (cluOwn x ds) w w':=by
 have HC:Hid (CluP w x q cap fv 0 ds bs):=hC
 have k0:w.cell? ⟨x,0,none⟩=some (.int .i32 0):=(hC.blk.cell 0).trans rfl
 have z0:w.frozen? ⟨x,0,none⟩=false:=hC.blk.frozen 0
 have HC1:Hid (CluP (w.setCell ⟨x,0,none⟩ (.int .i32 1)) x q cap fv 1 ds bs):=hC.turn 1
 have HG:Hid (Glob w):=hG
 clear hC hG
 go_enter_defers Tryz.func64,Tryz.ntmps64
 go_wp2_with (go_at_call 43;refine (lock_free muLib ⟨x,0,none⟩ _ k0 z0).mono ?_;rintro e w' ⟨rfl,rfl⟩)
 have h1b:Below (w.setCell ⟨x,0,none⟩ (.int .i32 1)).heap.size (w.setCell ⟨x,0,none⟩ (.int .i32 1)) ((w.setCell ⟨x,0,none⟩ (.int .i32 1)).alloc (.cells #[.int .i64 i] 3)):=(Below.refl _ _).alloc (Nat.le_refl _) _
 have hgc:((w.setCell ⟨x,0,none⟩ (.int .i32 1)).alloc (.cells #[.int .i64 i] 3)).cell? ⟨w.heap.size,0,none⟩=some (.int .i64 i):=by
  have:=(Blk.new (w.setCell ⟨x,0,none⟩ (.int .i32 1)) #[.int .i64 i] 3).cell 0
  simpa using this
 have hch:Chg (fun k=>k=x) w ((w.setCell ⟨x,0,none⟩ (.int .i32 1)).alloc (.cells #[.int .i64 i] 3)):=(chg_turn (M:=fun k=>k=x) rfl _).below h1b
 have HB:=HC1.out.below h1b
 refine Calls.mono (named_any _ x q cap fv 1 ds bs HB w.heap.size i hgc) ?_
 rintro e w1 ⟨rfl,hw1⟩
 rw[<- hw1] at HB hch
 clear hgc h1b hw1 HC1 k0 z0
 have HC1:Hid (CluP w1 x q cap fv 1 ds bs):=HB
 have Hch:Hid (Chg (fun k=>k=x) w w1):=hch
 have G1:Hid (Glob w1):=HG.out.chg4 hch (fun k e=>by subst e;exact HC.out.x4)
 clear HB hch HC HG
 by_cases hi:0<=i/\i<ds.length
 ·obtain ⟨k,rfl⟩:=Int.eq_ofNat_of_zero_le hi.1
  have hk:k<ds.length:=by omega
  have hn:namedR ds.length (k:Int)=0:=by unfold namedR;rw[if_pos hi]
  have Hn:Hid (namedR ds.length (k:Int)=0):=hn
  rw[hn]
  have c2:w1.cell? ⟨x,2,none⟩=some (.slice (some ⟨q,0,none⟩) ds.length cap):=(HC1.out.blk.cell 2).trans rfl
  have cq:=HC1.out.cell k hk
  have HK:Hid (Calls Tryz.prog 76 #[.pointer (some ⟨ds[k].rb,0,none⟩)] w1 fun e w'=>e=.returned (.tuple #[])/\∃ r',LetD w.heap.size ds (k:Int) crashP (ds.set k r')/\CluP w' x q cap fv 1 (ds.set k r') bs/\Chg (cluOwn x ds) w w'):=by
   have hz:=Hch.out.size
   refine Calls.mono (Crash_any w1 G1.out ds[k] (HC1.out.rep k hk)) ?_
   rintro e w' ⟨rfl,io,co,lo,h1,h2,h3⟩
   refine ⟨rfl,_,Or.inr ⟨k,hk,_,rfl,crash_renews (by omega),⟨io,co,lo,rfl⟩,rfl⟩,HC1.out.renew k hk h1 (crash_renews h2) h3,(Hch.out.wide (fun _ e=>Or.inl e)).then (h3.wide (fun _ e=>Or.inr ⟨k,hk,e⟩))⟩
  clear hn hi
  go_wp2_with fail
  refine Calls.mono HK.out ?_
  rintro e w2 ⟨rfl,r',h1,h2,h3⟩
  have HC2:Hid (CluP w2 x q cap fv 1 (ds.set k r') bs):=h2
  have H2:Hid (LetD w.heap.size ds (k:Int) crashP (ds.set k r')/\Chg (cluOwn x ds) w w2):=⟨h1,h3⟩
  clear HK HC1 Hch c2 cq h1 h2 h3
  go_wp2_with fail
  refine leaves_cons (f:=44) (args:=#[.pointer (some ⟨x,0,none⟩)]) (by simp) (by simp[go_sem]) ?_
  refine (unlock_deferred muLib ⟨x,0,none⟩ .returning _ ((HC2.out.blk.cell 0).trans rfl) (HC2.out.blk.frozen 0)).mono ?_
  rintro e u' w3 ⟨rfl,rfl,rfl⟩
  exact ⟨_,results_tmp rfl _ _ _,ds.set k r',by rw[Hn.out];rfl,H2.out.1,HC2.out.turn 0,Chg.setCell (M:=cluOwn x ds) (p:=⟨x,0,none⟩) H2.out.2 (Or.inl rfl) _⟩
 ·have hn:namedR ds.length i=2:=by unfold namedR;rw[if_neg hi]
  have HL:Hid (LetD w.heap.size ds i crashP ds):=Or.inl ⟨hi,rfl⟩
  have Hn:Hid (namedR ds.length i=2):=hn
  rw[hn]
  clear hn hi
  go_wp2_with fail
  refine leaves_cons (f:=44) (args:=#[.pointer (some ⟨x,0,none⟩)]) (by simp) (by simp[go_sem]) ?_
  refine (unlock_deferred muLib ⟨x,0,none⟩ .returning _ ((HC1.out.blk.cell 0).trans rfl) (HC1.out.blk.frozen 0)).mono ?_
  rintro e u' w3 ⟨rfl,rfl,rfl⟩
  exact ⟨_,results_tmp rfl _ _ _,ds,by rw[Hn.out];rfl,HL.out,HC1.out.turn 0,Chg.setCell (M:=cluOwn x ds) (p:=⟨x,0,none⟩) (Hch.out.wide (fun k e=>Or.inl e)) (Or.inl rfl) _⟩
theorem CCrash_any (w:World) (hG:Glob w) (x q cap:Nat) (fv:Value) (ds:List RepD) (bs:List (Nat × ByteArray)) (hC:CluP w x q cap fv 0 ds bs) (i:Int) :
  Calls Tryz.prog 41 #[.pointer (some ⟨x,0,none⟩),.int .i64 i] w fun e w'=>∃ ds',e=.returned (.int .i64 (namedR ds.length i))/\LetD w.heap.size ds i crashP ds'/\CluP w' x q cap fv 0 ds' bs/\Chg (cluOwn x ds) w w':=by
 have HL:Hid (_):=let_crash w hG x q cap fv ds bs hC i
 clear hG hC
 go_enter Tryz.func41,Tryz.ntmps41
 go_wp2_with fail
 refine Calls.mono HL.out ?_
 rintro e w1 ⟨ds',rfl,h1⟩
 have H1:Hid (LetD w.heap.size ds i crashP ds'/\CluP w1 x q cap fv 0 ds' bs/\Chg (cluOwn x ds) w w1):=h1
 clear h1 HL
 go_wp2
 go_ret
 exact ⟨ds',rfl,H1.out⟩

theorem let_tick (w:World) (hG:Glob w) (x q cap:Nat) (fv:Value) (ds:List RepD) (bs:List (Nat × ByteArray)) (hC:CluP w x q cap fv 0 ds bs) (i:Int) :
  Calls Tryz.prog 64 #[.pointer (some ⟨x,0,none⟩),.int .i64 i,.func (.func 65) #[] #[]] w fun e w'=>∃ ds',e=.returned (.int .i64 (namedR ds.length i))/\LetD w.heap.size ds i tickPP ds'/\CluP w' x q cap fv 0 ds' bs/\Chg (cluOwn x ds) w w':=by
 have HC:Hid (CluP w x q cap fv 0 ds bs):=hC
 have k0:w.cell? ⟨x,0,none⟩=some (.int .i32 0):=(hC.blk.cell 0).trans rfl
 have z0:w.frozen? ⟨x,0,none⟩=false:=hC.blk.frozen 0
 have HC1:Hid (CluP (w.setCell ⟨x,0,none⟩ (.int .i32 1)) x q cap fv 1 ds bs):=hC.turn 1
 have HG:Hid (Glob w):=hG
 clear hC hG
 go_enter_defers Tryz.func64,Tryz.ntmps64
 go_wp2_with (go_at_call 43;refine (lock_free muLib ⟨x,0,none⟩ _ k0 z0).mono ?_;rintro e w' ⟨rfl,rfl⟩)
 have h1b:Below (w.setCell ⟨x,0,none⟩ (.int .i32 1)).heap.size (w.setCell ⟨x,0,none⟩ (.int .i32 1)) ((w.setCell ⟨x,0,none⟩ (.int .i32 1)).alloc (.cells #[.int .i64 i] 3)):=(Below.refl _ _).alloc (Nat.le_refl _) _
 have hgc:((w.setCell ⟨x,0,none⟩ (.int .i32 1)).alloc (.cells #[.int .i64 i] 3)).cell? ⟨w.heap.size,0,none⟩=some (.int .i64 i):=by
  have:=(Blk.new (w.setCell ⟨x,0,none⟩ (.int .i32 1)) #[.int .i64 i] 3).cell 0
  simpa using this
 have hch:Chg (fun k=>k=x) w ((w.setCell ⟨x,0,none⟩ (.int .i32 1)).alloc (.cells #[.int .i64 i] 3)):=(chg_turn (M:=fun k=>k=x) rfl _).below h1b
 have HB:=HC1.out.below h1b
 refine Calls.mono (named_any _ x q cap fv 1 ds bs HB w.heap.size i hgc) ?_
 rintro e w1 ⟨rfl,hw1⟩
 rw[<- hw1] at HB hch
 clear hgc h1b hw1 HC1 k0 z0
 have HC1:Hid (CluP w1 x q cap fv 1 ds bs):=HB
 have Hch:Hid (Chg (fun k=>k=x) w w1):=hch
 have G1:Hid (Glob w1):=HG.out.chg4 hch (fun k e=>by subst e;exact HC.out.x4)
 clear HB hch HC HG
 by_cases hi:0<=i/\i<ds.length
 ·obtain ⟨k,rfl⟩:=Int.eq_ofNat_of_zero_le hi.1
  have hk:k<ds.length:=by omega
  have hn:namedR ds.length (k:Int)=0:=by unfold namedR;rw[if_pos hi]
  have Hn:Hid (namedR ds.length (k:Int)=0):=hn
  rw[hn]
  have c2:w1.cell? ⟨x,2,none⟩=some (.slice (some ⟨q,0,none⟩) ds.length cap):=(HC1.out.blk.cell 2).trans rfl
  have cq:=HC1.out.cell k hk
  have HK:Hid (Calls Tryz.prog 65 #[.pointer (some ⟨ds[k].rb,0,none⟩)] w1 fun e w'=>e=.returned (.tuple #[])/\∃ r',LetD w.heap.size ds (k:Int) tickPP (ds.set k r')/\CluP w' x q cap fv 1 (ds.set k r') bs/\Chg (cluOwn x ds) w w'):=by
   have hz:=Hch.out.size
   refine Calls.mono (rTick_any w1 ds[k] (HC1.out.rep k hk)) ?_
   rintro e w' ⟨rfl,pv,h1,h2,h3⟩
   refine ⟨rfl,_,Or.inr ⟨k,hk,_,rfl,tick_renews h1,⟨pv,rfl⟩,rfl⟩,HC1.out.renew k hk h2 (tick_renews h1) h3,(Hch.out.wide (fun _ e=>Or.inl e)).then (h3.wide (fun _ e=>Or.inr ⟨k,hk,e⟩))⟩
  clear hn hi
  go_wp2_with fail
  refine Calls.mono HK.out ?_
  rintro e w2 ⟨rfl,r',h1,h2,h3⟩
  have HC2:Hid (CluP w2 x q cap fv 1 (ds.set k r') bs):=h2
  have H2:Hid (LetD w.heap.size ds (k:Int) tickPP (ds.set k r')/\Chg (cluOwn x ds) w w2):=⟨h1,h3⟩
  clear HK HC1 Hch c2 cq h1 h2 h3
  go_wp2_with fail
  refine leaves_cons (f:=44) (args:=#[.pointer (some ⟨x,0,none⟩)]) (by simp) (by simp[go_sem]) ?_
  refine (unlock_deferred muLib ⟨x,0,none⟩ .returning _ ((HC2.out.blk.cell 0).trans rfl) (HC2.out.blk.frozen 0)).mono ?_
  rintro e u' w3 ⟨rfl,rfl,rfl⟩
  exact ⟨_,results_tmp rfl _ _ _,ds.set k r',by rw[Hn.out];rfl,H2.out.1,HC2.out.turn 0,Chg.setCell (M:=cluOwn x ds) (p:=⟨x,0,none⟩) H2.out.2 (Or.inl rfl) _⟩
 ·have hn:namedR ds.length i=2:=by unfold namedR;rw[if_neg hi]
  have HL:Hid (LetD w.heap.size ds i tickPP ds):=Or.inl ⟨hi,rfl⟩
  have Hn:Hid (namedR ds.length i=2):=hn
  rw[hn]
  clear hn hi
  go_wp2_with fail
  refine leaves_cons (f:=44) (args:=#[.pointer (some ⟨x,0,none⟩)]) (by simp) (by simp[go_sem]) ?_
  refine (unlock_deferred muLib ⟨x,0,none⟩ .returning _ ((HC1.out.blk.cell 0).trans rfl) (HC1.out.blk.frozen 0)).mono ?_
  rintro e u' w3 ⟨rfl,rfl,rfl⟩
  exact ⟨_,results_tmp rfl _ _ _,ds,by rw[Hn.out];rfl,HL.out,HC1.out.turn 0,Chg.setCell (M:=cluOwn x ds) (p:=⟨x,0,none⟩) (Hch.out.wide (fun k e=>Or.inl e)) (Or.inl rfl) _⟩
theorem CTick_any (w:World) (hG:Glob w) (x q cap:Nat) (fv:Value) (ds:List RepD) (bs:List (Nat × ByteArray)) (hC:CluP w x q cap fv 0 ds bs) (i:Int) :
  Calls Tryz.prog 36 #[.pointer (some ⟨x,0,none⟩),.int .i64 i] w fun e w'=>∃ ds',e=.returned (.int .i64 (namedR ds.length i))/\LetD w.heap.size ds i tickPP ds'/\CluP w' x q cap fv 0 ds' bs/\Chg (cluOwn x ds) w w':=by
 have HL:Hid (_):=let_tick w hG x q cap fv ds bs hC i
 clear hG hC
 go_enter Tryz.func36,Tryz.ntmps36
 go_wp2_with fail
 refine Calls.mono HL.out ?_
 rintro e w1 ⟨ds',rfl,h1⟩
 have H1:Hid (LetD w.heap.size ds i tickPP ds'/\CluP w1 x q cap fv 0 ds' bs/\Chg (cluOwn x ds) w w1):=h1
 clear h1 HL
 go_wp2
 go_ret
 exact ⟨ds',rfl,H1.out⟩

def FrBy (s:ByteArray) (r:RD) (j:Nat):Prop:=∃ S C rs its,SendS r j S C/\StoB S C/\toL s=sealL (encFm r.a (sizeK r.K) rs its)/\EncOf S C rs its/\s.size<=700000

def SendD (ds:List RepD) (bs:List (Nat × ByteArray)) (i j:Int) (n r:Int) (bs':List (Nat × ByteArray)):Prop :=
 (¬((0<=i/\i<ds.length)/\(0<=j/\j<ds.length))/\n=0/\r=2/\bs'=bs) \/
 (((0<=i/\i<ds.length)/\(0<=j/\j<ds.length))/\i=j/\n=0/\r=1/\bs'=bs) \/
 (((0<=i/\i<ds.length)/\(0<=j/\j<ds.length))/\¬i=j/\500<=bs.length/\n=0/\r=7/\bs'=bs) \/
 ∃ (k k':Nat) (hk:k<ds.length) (s:ByteArray),i=(k:Int)/\j=(k':Int)/\k'<ds.length/\¬i=j/\bs.length<500/\n=((bs.length+1:Nat):Int)/\r=0/\bs'=bs ++ [(k',s)]/\FrBy s ds[k] k'

theorem CSend_any (w:World) (hG:Glob w) (x q cap:Nat) (fv:Value) (ds:List RepD) (bs:List (Nat × ByteArray)) (hC:CluP w x q cap fv 0 ds bs) (hB:∀ j (h:j<ds.length),PcOK ds[j]/\sizeK ds[j].K<=505) (i j:Int) :
  Calls Tryz.prog 27 #[.pointer (some ⟨x,0,none⟩),.int .i64 i,.int .i64 j] w fun e w'=>∃ n r bs' fv',e=.returned (.tuple #[.int .i64 n,.int .i64 r])/\SendD ds bs i j n r bs'/\CluP w' x q cap fv' 0 ds bs' /\
   Chg (fun k=>k=x\/fv.ownBlock=some k) w w'/\(∀ k,fv'.ownBlock=some k->fv.ownBlock=some k\/w.heap.size<=k):=by
 have HB:Hid (∀ j (h:j<ds.length),PcOK ds[j]/\sizeK ds[j].K<=505):=hB
 clear hB
 have HC:Hid (CluP w x q cap fv 0 ds bs):=hC
 have k0:w.cell? ⟨x,0,none⟩=some (.int .i32 0):=(hC.blk.cell 0).trans rfl
 have z0:w.frozen? ⟨x,0,none⟩=false:=hC.blk.frozen 0
 have HC1:Hid (CluP (w.setCell ⟨x,0,none⟩ (.int .i32 1)) x q cap fv 1 ds bs):=hC.turn 1
 have HG:Hid (Glob w):=hG
 clear hC hG
 go_enter_defers Tryz.func27,Tryz.ntmps27
 go_wp2_with (go_at_call 43;refine (lock_free muLib ⟨x,0,none⟩ _ k0 z0).mono ?_;rintro e w' ⟨rfl,rfl⟩)
 have h1b:Below (w.setCell ⟨x,0,none⟩ (.int .i32 1)).heap.size (w.setCell ⟨x,0,none⟩ (.int .i32 1)) ((w.setCell ⟨x,0,none⟩ (.int .i32 1)).alloc (.cells #[.int .i64 i,.int .i64 j] 3)):=(Below.refl _ _).alloc (Nat.le_refl _) _
 have hgc:((w.setCell ⟨x,0,none⟩ (.int .i32 1)).alloc (.cells #[.int .i64 i,.int .i64 j] 3)).cell? ⟨w.heap.size,0,none⟩=some (.int .i64 i):=by
  have:=(Blk.new (w.setCell ⟨x,0,none⟩ (.int .i32 1)) #[.int .i64 i,.int .i64 j] 3).cell 0
  simpa using this
 have hgd:((w.setCell ⟨x,0,none⟩ (.int .i32 1)).alloc (.cells #[.int .i64 i,.int .i64 j] 3)).cell? ⟨w.heap.size,1,none⟩=some (.int .i64 j):=by
  have:=(Blk.new (w.setCell ⟨x,0,none⟩ (.int .i32 1)) #[.int .i64 i,.int .i64 j] 3).cell 1
  simpa using this
 have hch:Chg (fun k=>k=x) w ((w.setCell ⟨x,0,none⟩ (.int .i32 1)).alloc (.cells #[.int .i64 i,.int .i64 j] 3)):=(chg_turn (M:=fun k=>k=x) rfl _).below h1b
 have HB1:=HC1.out.below h1b
 refine Calls.mono (named_two _ x q cap fv 1 ds bs HB1 w.heap.size i j hgc hgd) ?_
 rintro e w1 ⟨rfl,hw1⟩
 rw[<- hw1] at HB1 hch
 clear hgc hgd h1b hw1 HC1 k0 z0
 have G1:Hid (Glob w1):=HG.out.chg4 hch (fun k e=>by subst e;exact HC.out.x4)
 have HC1:Hid (CluP w1 x q cap fv 1 ds bs):=HB1
 have Hch:Hid (Chg (fun k=>k=x) w w1):=hch
 clear HB1 hch HG
 have HT:Hid (CluP (w1.setCell ⟨x,0,none⟩ (.int .i32 0)) x q cap fv 0 ds bs/\Chg (fun k=>k=x\/fv.ownBlock=some k) w (w1.setCell ⟨x,0,none⟩ (.int .i32 0))/\(∀ k,fv.ownBlock=some k->fv.ownBlock=some k\/w.heap.size<=k)) :=
  ⟨HC1.out.turn 0,Chg.setCell (M:=fun k=>k=x\/fv.ownBlock=some k) (p:=⟨x,0,none⟩) (Hch.out.wide (fun k e=>Or.inl e)) (Or.inl rfl) _,fun k hk=>Or.inl hk⟩
 rw[namedL_2]
 by_cases hi:(0<=i/\i<ds.length)/\(0<=j/\j<ds.length)
 ·rw[if_pos hi]
  by_cases hij:i=j
  ·have HD:Hid (SendD ds bs i j 0 1 bs):=(Or.inr (Or.inl ⟨hi,hij,rfl,rfl,rfl⟩))
   clear hi
   subst hij
   go_wp2_with fail
   refine leaves_cons (f:=44) (args:=#[.pointer (some ⟨x,0,none⟩)]) (by simp) (by simp[go_sem]) ?_
   refine (unlock_deferred muLib ⟨x,0,none⟩ .returning _ ((HC1.out.blk.cell 0).trans rfl) (HC1.out.blk.frozen 0)).mono ?_
   rintro e u' w9 ⟨rfl,rfl,rfl⟩
   exact ⟨_,results_tmp2 rfl _ _ _,_,_,bs,fv,rfl,HD.out,HT.out⟩
  ·obtain ⟨k,rfl⟩:=Int.eq_ofNat_of_zero_le hi.1.1
   obtain ⟨k',rfl⟩:=Int.eq_ofNat_of_zero_le hi.2.1
   have hk:k<ds.length:=by omega
   have hk':k'<ds.length:=by omega
   by_cases h5:500<=bs.length
   ·have HD:Hid (SendD ds bs (k:Int) (k':Int) 0 7 bs):=(Or.inr (Or.inr (Or.inl ⟨hi,hij,h5,rfl,rfl,rfl⟩)))
    have HS:Hid (∀ wx,CluP wx x q cap fv 1 ds bs->Calls Tryz.prog 52 #[.pointer (some ⟨x,0,none⟩)] wx fun e w'=>e=.returned (.bool true)/\w'=wx):=fun wx hx=>by
     have:=allSent_any wx x q cap fv 1 ds bs hx
     rw[decide_eq_true h5] at this;exact this
    have hne:(((k:Int)) == ((k':Int)))=false:=beq_eq_false_iff_ne.2 hij
    clear hi
    go_wp2_with fail
    refine Calls.mono (HS.out _ HC1.out) ?_
    rintro e w2 ⟨rfl,rfl⟩
    go_wp2_with fail
    refine leaves_cons (f:=44) (args:=#[.pointer (some ⟨x,0,none⟩)]) (by simp) (by simp[go_sem]) ?_
    refine (unlock_deferred muLib ⟨x,0,none⟩ .returning _ ((HC1.out.blk.cell 0).trans rfl) (HC1.out.blk.frozen 0)).mono ?_
    rintro e u' w9 ⟨rfl,rfl,rfl⟩
    exact ⟨_,results_tmp2 rfl _ _ _,_,_,bs,fv,rfl,HD.out,HT.out⟩
   ·have HS:Hid (∀ wx,CluP wx x q cap fv 1 ds bs->Calls Tryz.prog 52 #[.pointer (some ⟨x,0,none⟩)] wx fun e w'=>e=.returned (.bool false)/\w'=wx):=fun wx hx=>by
     have:=allSent_any wx x q cap fv 1 ds bs hx
     rw[decide_eq_false h5] at this;exact this
    have hne:(((k:Int)) == ((k':Int)))=false:=beq_eq_false_iff_ne.2 hij
    have c2:w1.cell? ⟨x,2,none⟩=some (.slice (some ⟨q,0,none⟩) ds.length cap):=(HC1.out.blk.cell 2).trans rfl
    have cq:=HC1.out.cell k hk
    have hra:=HC1.out.ra k hk
    have HR:Hid (_):=rSend_any w1 G1.out ds[k] (HC1.out.rep k hk) (HB.out k hk).1 k' ((hra.2 k').2 ⟨hk',fun e=>hij (by omega)⟩) (HB.out k hk).2
    clear hra
    have Hij:Hid (_):=hij
    have H5:Hid (_):=h5
    clear hi
    go_wp2_with fail
    refine Calls.mono (HS.out _ HC1.out) ?_
    rintro e w2 ⟨rfl,rfl⟩
    go_wp2_with fail
    refine Calls.mono HR.out ?_
    rintro e w3 ⟨fi,fc,fl,S,C,rfl,hst3,hss3,hb3⟩
    have HC3:Hid (CluP w3 x q cap fv 1 ds bs):=HC1.out.below hb3
    have G3:Hid (Glob w3):=G1.out.mono hb3
    have Hch3:Hid (Chg (fun k=>k=x) w w3):=Hch.out.below hb3
    have ha5:=(HC3.out.rep k hk).a5
    have HZ:Hid (_):=send_any w3 x q cap fv 1 ds bs HC3.out (by have:=H5.out;omega) k' (ds[k].a:Int) (sizeK ds[k].K:Int) false fi fc fl (fun s=>FrBy s ds[k] k') (fun wx hx=>by
     refine Calls.mono (Bytes_st wx (G3.out.mono hx) ds[k].a (sizeK ds[k].K) ha5 (HB.out k hk).2 fi fc fl S C (hst3.below hx)) ?_
     rintro e w' ⟨s,rs,its,rfl,h1,h2,h3,h4⟩
     exact ⟨s,rfl,⟨S,C,rs,its,hss3,hst3.b,h1,h2,h3⟩,h4⟩)
    clear hst3 hss3 ha5
    clear HR HS hb3 c2 cq G1
    go_wp2_with fail
    refine Calls.mono HZ.out ?_
    rintro e w4 ⟨s,fv',rfl,hP,hC4,hc4,hn4⟩
    have HC4:Hid (CluP w4 x q cap fv' 1 ds (bs ++ [(k',s)])):=hC4
    have HE:Hid (SendD ds bs (k:Int) (k':Int) ((bs.length+1:Nat):Int) 0 (bs ++ [(k',s)])/\Chg (fun k=>k=x\/fv.ownBlock=some k) w w4/\(∀ b,fv'.ownBlock=some b->fv.ownBlock=some b\/w.heap.size<=b)) :=
     ⟨Or.inr (Or.inr (Or.inr ⟨k,k',hk,s,rfl,rfl,hk',Hij.out,by have:=H5.out;omega,rfl,rfl,rfl,hP⟩)),(Hch3.out.wide (fun k e=>Or.inl e)).trans hc4,fun b hb=>(hn4 b hb).imp id (fun h=>Nat.le_trans Hch3.out.size h)⟩
    clear HZ HC3 hP hC4 hc4 hn4 Hch3 G3
    go_wp2_with fail
    refine leaves_cons (f:=44) (args:=#[.pointer (some ⟨x,0,none⟩)]) (by simp) (by simp[go_sem]) ?_
    refine (unlock_deferred muLib ⟨x,0,none⟩ .returning _ ((HC4.out.blk.cell 0).trans rfl) (HC4.out.blk.frozen 0)).mono ?_
    rintro e u' w9 ⟨rfl,rfl,rfl⟩
    exact ⟨_,results_tmp2 rfl _ _ _,_,_,_,fv',rfl,HE.out.1,HC4.out.turn 0,Chg.setCell (M:=fun k=>k=x\/fv.ownBlock=some k) (p:=⟨x,0,none⟩) HE.out.2.1 (Or.inl rfl) _,HE.out.2.2⟩
 ·rw[if_neg hi]
  have HD:Hid (SendD ds bs i j 0 2 bs):=(Or.inl ⟨hi,rfl,rfl,rfl⟩)
  clear hi
  go_wp2_with fail
  refine leaves_cons (f:=44) (args:=#[.pointer (some ⟨x,0,none⟩)]) (by simp) (by simp[go_sem]) ?_
  refine (unlock_deferred muLib ⟨x,0,none⟩ .returning _ ((HC1.out.blk.cell 0).trans rfl) (HC1.out.blk.frozen 0)).mono ?_
  rintro e u' w9 ⟨rfl,rfl,rfl⟩
  exact ⟨_,results_tmp2 rfl _ _ _,_,_,bs,fv,rfl,HD.out,HT.out⟩

def frameD (bs:List (Nat × ByteArray)) (f:Int):ByteArray × Int:=if 1<=f/\f<=bs.length then (((bs[f.toNat-1]?.map Prod.snd).getD ⟨#[]⟩),0) else (⟨#[]⟩,9)

theorem CFrame_any (w:World) (x q cap:Nat) (fv:Value) (ds:List RepD) (bs:List (Nat × ByteArray)) (hC:CluP w x q cap fv 0 ds bs) (hz:∀ p∈bs,p.2.size<=1000000000) (f:Int) :
  Calls Tryz.prog 28 #[.pointer (some ⟨x,0,none⟩),.int .i64 f] w fun e w'=>e=.returned (.tuple #[.string (frameD bs f).1,.int .i64 (frameD bs f).2])/\CluP w' x q cap fv 0 ds bs/\Chg (fun k=>k=x) w w':=by
 have HC:Hid (CluP w x q cap fv 0 ds bs):=hC
 have k0:w.cell? ⟨x,0,none⟩=some (.int .i32 0):=(hC.blk.cell 0).trans rfl
 have z0:w.frozen? ⟨x,0,none⟩=false:=hC.blk.frozen 0
 have HC1:Hid (CluP (w.setCell ⟨x,0,none⟩ (.int .i32 1)) x q cap fv 1 ds bs):=hC.turn 1
 have Hch:Hid (Chg (fun k=>k=x) w (w.setCell ⟨x,0,none⟩ (.int .i32 1))):=chg_turn (M:=fun k=>k=x) rfl _
 have hb5:=hC.b500
 clear hC
 generalize hW1:w.setCell ⟨x,0,none⟩ (.int .i32 1)=W1 at *
 have HW1:Hid (w.setCell ⟨x,0,none⟩ (.int .i32 1)=W1):=hW1
 clear hW1
 by_cases hf:1<=f/\f<=bs.length
 ·obtain ⟨k,rfl⟩:∃ k:Nat,f=(k:Int)+1:=⟨(f-1).toNat,by omega⟩
  have hk:k<bs.length:=by omega
  have HS:Hid (∀ wx,CluP wx x q cap fv 1 ds bs->Calls Tryz.prog 55 #[.pointer (some ⟨x,0,none⟩),.int .i64 ((k:Int)+1)] wx fun e w'=>e=.returned (.bool true)/\w'=wx):=fun wx hx=>by
   have:=isSent_any wx x q cap fv 1 ds bs hx ((k:Int)+1)
   rw[decide_eq_true hf] at this;exact this
  have hfd:Hid (frameD bs ((k:Int)+1)=(bs[k].2,0)):=by
   unfold Hid frameD
   rw[if_pos hf]
   have:((k:Int)+1).toNat-1=k:=by omega
   rw[this];simp[hk]
  have hzk:=hz _ (List.getElem_mem hk)
  obtain ⟨g,c,rfl⟩:=own_some HC1.out.fr (by omega)
  have c3:W1.cell? ⟨x,3,none⟩=some (.slice (some ⟨g,0,none⟩) bs.length c):=(HC1.out.blk.cell 3).trans rfl
  have cs:W1.cell? ⟨g,k*2+1,none⟩=some (.string bs[k].2):=by
   rw[HC1.out.fr.cellAt (k*2+1) (by omega)];exact (frV_at bs k hk).2
  have hcap:bs.length<=c:=by
   obtain ⟨ao,c',e1,e2⟩:=HC1.out.fvS
   simp only[Value.slice.injEq] at e1
   omega
  rw[hfd.out]
  generalize bs[k].2=bt at *
  have HCl:Hid (_):=CloneB_any bt W1 hzk
  clear hf hz hfd
  go_enter_defers Tryz.func28,Tryz.ntmps28
  go_wp2_with (go_at_call 43;refine (lock_free muLib ⟨x,0,none⟩ _ k0 z0).mono ?_;rintro e w' ⟨rfl,rfl⟩)
  rw[HW1.out]
  refine Calls.mono (HS.out _ HC1.out) ?_
  rintro e w2 ⟨rfl,rfl⟩
  clear HS
  go_wp2_with fail
  refine Calls.mono HCl.out ?_
  rintro e w3 ⟨rfl,hb3⟩
  have HC3:Hid (CluP w3 x q cap (.slice (some ⟨g,0,none⟩) bs.length c) 1 ds bs):=HC1.out.below hb3
  have Hch3:Hid (Chg (fun k=>k=x) w w3):=Hch.out.below hb3
  clear HCl hb3 c3 cs
  go_wp2_with fail
  refine leaves_cons (f:=44) (args:=#[.pointer (some ⟨x,0,none⟩)]) (by simp) (by simp[go_sem]) ?_
  refine (unlock_deferred muLib ⟨x,0,none⟩ .returning _ ((HC3.out.blk.cell 0).trans rfl) (HC3.out.blk.frozen 0)).mono ?_
  rintro e u' w9 ⟨rfl,rfl,rfl⟩
  exact ⟨_,results_tmp2 rfl _ _ _,rfl,HC3.out.turn 0,Chg.setCell (M:=fun k=>k=x) (p:=⟨x,0,none⟩) Hch3.out rfl _⟩
 ·have HS:Hid (∀ wx,CluP wx x q cap fv 1 ds bs->Calls Tryz.prog 55 #[.pointer (some ⟨x,0,none⟩),.int .i64 f] wx fun e w'=>e=.returned (.bool false)/\w'=wx):=fun wx hx=>by
   have:=isSent_any wx x q cap fv 1 ds bs hx f
   rw[decide_eq_false hf] at this;exact this
  have hfd:frameD bs f=(⟨#[]⟩,9):=by unfold frameD;rw[if_neg hf]
  rw[hfd]
  clear hf hz hfd
  go_enter_defers Tryz.func28,Tryz.ntmps28
  go_wp2_with (go_at_call 43;refine (lock_free muLib ⟨x,0,none⟩ _ k0 z0).mono ?_;rintro e w' ⟨rfl,rfl⟩)
  rw[HW1.out]
  refine Calls.mono (HS.out _ HC1.out) ?_
  rintro e w2 ⟨rfl,rfl⟩
  clear HS
  go_wp2_with fail
  refine leaves_cons (f:=44) (args:=#[.pointer (some ⟨x,0,none⟩)]) (by simp) (by simp[go_sem]) ?_
  refine (unlock_deferred muLib ⟨x,0,none⟩ .returning _ ((HC1.out.blk.cell 0).trans rfl) (HC1.out.blk.frozen 0)).mono ?_
  rintro e u' w9 ⟨rfl,rfl,rfl⟩
  exact ⟨_,results_tmp2 rfl _ _ _,rfl,HC1.out.turn 0,Chg.setCell (M:=fun k=>k=x) (p:=⟨x,0,none⟩) Hch.out rfl _⟩

theorem CDel_bad (w:World) (x q cap:Nat) (fv:Value) (ds:List RepD) (bs:List (Nat × ByteArray)) (hC:CluP w x q cap fv 0 ds bs) (f:Int) (hf:¬(1<=f/\f<=bs.length)) :
  Calls Tryz.prog 31 #[.pointer (some ⟨x,0,none⟩),.int .i64 f] w fun e w'=>e=.returned (.tuple #[.int .i64 0,.int .i64 9])/\CluP w' x q cap fv 0 ds bs/\Chg (fun k=>k=x) w w':=by
 have k0:w.cell? ⟨x,0,none⟩=some (.int .i32 0):=(hC.blk.cell 0).trans rfl
 have z0:w.frozen? ⟨x,0,none⟩=false:=hC.blk.frozen 0
 have HC1:Hid (CluP (w.setCell ⟨x,0,none⟩ (.int .i32 1)) x q cap fv 1 ds bs):=hC.turn 1
 have Hch:Hid (Chg (fun k=>k=x) w (w.setCell ⟨x,0,none⟩ (.int .i32 1))):=chg_turn (M:=fun k=>k=x) rfl _
 clear hC
 generalize hW1:w.setCell ⟨x,0,none⟩ (.int .i32 1)=W1 at *
 have HW1:Hid (w.setCell ⟨x,0,none⟩ (.int .i32 1)=W1):=hW1
 clear hW1
 have HS:Hid (∀ wx,CluP wx x q cap fv 1 ds bs->Calls Tryz.prog 55 #[.pointer (some ⟨x,0,none⟩),.int .i64 f] wx fun e w'=>e=.returned (.bool false)/\w'=wx):=fun wx hx=>by
  have:=isSent_any wx x q cap fv 1 ds bs hx f
  rw[decide_eq_false hf] at this;exact this
 clear hf
 go_enter_defers Tryz.func31,Tryz.ntmps31
 go_wp2_with (go_at_call 43;refine (lock_free muLib ⟨x,0,none⟩ _ k0 z0).mono ?_;rintro e w' ⟨rfl,rfl⟩)
 rw[HW1.out]
 refine Calls.mono (HS.out _ HC1.out) ?_
 rintro e w2 ⟨rfl,rfl⟩
 clear HS
 go_wp2_with fail
 refine leaves_cons (f:=44) (args:=#[.pointer (some ⟨x,0,none⟩)]) (by simp) (by simp[go_sem]) ?_
 refine (unlock_deferred muLib ⟨x,0,none⟩ .returning _ ((HC1.out.blk.cell 0).trans rfl) (HC1.out.blk.frozen 0)).mono ?_
 rintro e u' w9 ⟨rfl,rfl,rfl⟩
 exact ⟨_,results_tmp2 rfl _ _ _,rfl,HC1.out.turn 0,Chg.setCell (M:=fun k=>k=x) (p:=⟨x,0,none⟩) Hch.out rfl _⟩

theorem CDel_of (w:World) (x q cap:Nat) (fv:Value) (ds:List RepD) (bs:List (Nat × ByteArray)) (hC:CluP w x q cap fv 0 ds bs) (k:Nat) (hk:k<bs.length) (M:Nat->Prop) (hM:M x) (Q:Int->Int->World->Prop)
  (hcome:∀ wx,CluP wx x q cap fv 1 ds bs->Chg (fun k=>k=x) w wx->Calls Tryz.prog 57 #[.pointer (some ⟨x,0,none⟩),.int .i64 (bs[k].1:Int),.string bs[k].2] wx fun e w'=>∃ n r fv' ds' bs',e=.returned (.tuple #[.int .i64 n,.int .i64 r])/\CluP w' x q cap fv' 1 ds' bs'/\(CluP (w'.setCell ⟨x,0,none⟩ (.int .i32 0)) x q cap fv' 0 ds' bs'->Chg M w (w'.setCell ⟨x,0,none⟩ (.int .i32 0))->Q n r (w'.setCell ⟨x,0,none⟩ (.int .i32 0)))/\Chg M w w') :
  Calls Tryz.prog 31 #[.pointer (some ⟨x,0,none⟩),.int .i64 ((k:Int)+1)] w fun e w'=>∃ n r,e=.returned (.tuple #[.int .i64 n,.int .i64 r])/\Q n r w':=by
 have k0:w.cell? ⟨x,0,none⟩=some (.int .i32 0):=(hC.blk.cell 0).trans rfl
 have z0:w.frozen? ⟨x,0,none⟩=false:=hC.blk.frozen 0
 have HC1:Hid (CluP (w.setCell ⟨x,0,none⟩ (.int .i32 1)) x q cap fv 1 ds bs):=hC.turn 1
 have Hch:Hid (Chg (fun k=>k=x) w (w.setCell ⟨x,0,none⟩ (.int .i32 1))):=chg_turn (M:=fun k=>k=x) rfl _
 have hb5:=hC.b500
 clear hC
 generalize hW1:w.setCell ⟨x,0,none⟩ (.int .i32 1)=W1 at *
 have HW1:Hid (w.setCell ⟨x,0,none⟩ (.int .i32 1)=W1):=hW1
 clear hW1
 have HS:Hid (∀ wx,CluP wx x q cap fv 1 ds bs->Calls Tryz.prog 55 #[.pointer (some ⟨x,0,none⟩),.int .i64 ((k:Int)+1)] wx fun e w'=>e=.returned (.bool true)/\w'=wx):=fun wx hx=>by
  have:=isSent_any wx x q cap fv 1 ds bs hx ((k:Int)+1)
  rw[decide_eq_true (by omega)] at this;exact this
 obtain ⟨g,c,hfv⟩:=own_some HC1.out.fr (by omega)
 have c3:W1.cell? ⟨x,3,none⟩=some (.slice (some ⟨g,0,none⟩) bs.length c):=by rw[<- hfv];exact (HC1.out.blk.cell 3).trans rfl
 have cs0:W1.cell? ⟨g,k*2,none⟩=some (.int .i64 (bs[k].1:Int)):=by
  have:=HC1.out.fr
  rw[hfv] at this
  rw[this.cellAt (k*2) (by omega)];exact (frV_at bs k hk).1
 have cs1:W1.cell? ⟨g,k*2+1,none⟩=some (.string bs[k].2):=by
  have:=HC1.out.fr
  rw[hfv] at this
  rw[this.cellAt (k*2+1) (by omega)];exact (frV_at bs k hk).2
 have hidx:IntKind.i64.wrap (k:Int)=(k:Int):=wrap_in _ (by omega) (by omega)
 have hk0:(0:Int)<=(k:Int):=by omega
 have hkI:(k:Int)<(bs.length:Int):=by omega
 have hcap:bs.length<=c:=by
  obtain ⟨ao,c',e1,e2⟩:=HC1.out.fvS
  rw[hfv] at e1
  simp only[Value.slice.injEq] at e1
  omega
 have HK:Hid (∀ wx,wx.heap=W1.heap->wx.os=W1.os->wx.tape=W1.tape->wx.output=W1.output->Calls Tryz.prog 57 #[.pointer (some ⟨x,0,none⟩),.int .i64 (bs[k].1:Int),.string bs[k].2] wx fun e w'=>∃ n r fv' ds' bs',e=.returned (.tuple #[.int .i64 n,.int .i64 r])/\CluP w' x q cap fv' 1 ds' bs'/\(CluP (w'.setCell ⟨x,0,none⟩ (.int .i32 0)) x q cap fv' 0 ds' bs'->Chg M w (w'.setCell ⟨x,0,none⟩ (.int .i32 0))->Q n r (w'.setCell ⟨x,0,none⟩ (.int .i32 0)))/\Chg M w w'):=fun wx hx ho ht hp=>by
  have hbx:Below W1.heap.size W1 wx:=⟨ho,ht,hp,by rw[hx];exact Nat.le_refl _,fun k _=>by rw[hx]⟩
  exact hcome wx (HC1.out.below hbx) (Hch.out.below hbx)
 have hM':Hid (M x):=hM
 clear hcome hfv hM
 generalize bs[k].1=dn at *
 generalize bs[k].2=bt at *
 go_enter_defers Tryz.func31,Tryz.ntmps31
 go_wp2_with (go_at_call 43;refine (lock_free muLib ⟨x,0,none⟩ _ k0 z0).mono ?_;rintro e w' ⟨rfl,rfl⟩)
 rw[HW1.out]
 refine Calls.mono (HS.out _ HC1.out) ?_
 rintro e w2 ⟨rfl,rfl⟩
 clear HS k0 z0
 go_wp2_with fail
 refine wp_region_noPanic ?_
 go_region_law (go_simp;refine Calls.mono (HK.out _ rfl rfl rfl rfl) ?_;rintro e w3 ⟨n,r,fv',ds',bs',rfl,hC3,hQ3,hc3⟩)
 all_goals
  refine NoPanic.normal ?_
  have HC3:Hid (CluP w3 x q cap fv' 1 ds' bs'):=hC3
  have HQ3:Hid (CluP (w3.setCell ⟨x,0,none⟩ (.int .i32 0)) x q cap fv' 0 ds' bs'->Chg M w (w3.setCell ⟨x,0,none⟩ (.int .i32 0))->Q n r (w3.setCell ⟨x,0,none⟩ (.int .i32 0))):=hQ3
  have Hc3:Hid (Chg M w w3):=hc3
  clear HK c3 cs0 cs1 hC3 hQ3 hc3
  go_wp2_with fail
  refine leaves_cons (f:=44) (args:=#[.pointer (some ⟨x,0,none⟩)]) (by simp) (by simp[go_sem]) ?_
  refine (unlock_deferred muLib ⟨x,0,none⟩ .returning _ ((HC3.out.blk.cell 0).trans rfl) (HC3.out.blk.frozen 0)).mono ?_
  rintro e u' w9 ⟨rfl,rfl,rfl⟩
  exact ⟨_,results_tmp2 rfl _ _ _,n,r,rfl,HQ3.out (HC3.out.turn 0) (Hc3.out.setCell (p:=⟨x,0,none⟩) hM'.out _)⟩

theorem come_up {w:World} {x q cap:Nat} {fv:Value} {st:Int} {ds:List RepD} {bs:List (Nat × ByteArray)} (hC:CluP w x q cap fv st ds bs) {k:Nat} (hk:k<ds.length) :
  Calls Tryz.prog 45 #[.pointer (some ⟨x,0,none⟩),.slice (some ⟨w.heap.size,0,none⟩) 1 1] (w.alloc (.cells #[.int .i64 (k:Int)] 3)) fun e w'=>e=.returned (.int .i64 0)/\Below w.heap.size w w':=by
 have hb:Below w.heap.size w (w.alloc (.cells #[.int .i64 (k:Int)] 3)):=(Below.refl _ w).alloc (Nat.le_refl _) _
 have hn:namedR ds.length (k:Int)=0:=by unfold namedR;rw[if_pos (by omega)]
 have:=named_any (w.alloc (.cells #[.int .i64 (k:Int)] 3)) x q cap fv st ds bs (hC.below hb) w.heap.size (k:Int) (((Blk.new w #[.int .i64 (k:Int)] 3).cell 0).trans rfl)
 rw[hn] at this
 refine Calls.mono this ?_
 rintro e w' ⟨rfl,rfl⟩
 exact ⟨rfl,hb⟩

def RD.ack (r:RD) (j m:Nat):RD:={ r with pv:=r.pv,dr:=r.dr,A:=(fun x=>if x=j then max (r.A j) m else r.A x),ps:=r.ps }
theorem ack_renews (B:Nat) (r:RD) (j m:Nat):Renews B r (r.ack j m):=⟨rfl,rfl,rfl,rfl,fun b hb=>Or.inl hb⟩

theorem come_ack (w:World) (x q cap:Nat) (fv:Value) (ds:List RepD) (bs:List (Nat × ByteArray)) (hC:CluP w x q cap fv 1 ds bs) (k:Nat) (hk:k<ds.length) (s:ByteArray) (a m:Nat) (ha:a<ds.length) (hak:a≠k) (hm:m<=505) (hs:toL s=sealL (encAm a m)) :
  Calls Tryz.prog 57 #[.pointer (some ⟨x,0,none⟩),.int .i64 (k:Int),.string s] w fun e w'=>e=.returned (.tuple #[.int .i64 0,.int .i64 0])/\CluP w' x q cap fv 1 (ds.set k (ds[k].ack a m)) bs/\Chg ds[k].own w w':=by
 have HU:Hid (_):=come_up hC hk
 have ha5:a<=5:=by have:=hC.len;omega
 have hnb:a∈ds[k].nb:=((hC.ra k hk).2 a).2 ⟨ha,hak⟩
 have HC:Hid (CluP w x q cap fv 1 ds bs):=hC
 have HR:Hid (∀ wx,Below w.heap.size w wx->Calls Tryz.prog 101 #[.string s] wx fun e w'=>e=.returned (.tuple #[.agg #[.int .i64 (a:Int),.int .i64 (m:Int),.bool true,.map none,.map none,.map none],.bool true])/\Below w.heap.size w w'):=fun wx hb=>by
  refine Calls.mono (fRead_ack wx s a m ha5 hm hs) ?_
  rintro e w' ⟨rfl,h1⟩
  exact ⟨rfl,hb.trans (h1.mono hb.size)⟩
 clear hC hs
 go_enter Tryz.func57,Tryz.ntmps57
 go_wp2_with fail
 refine Calls.mono HU.out ?_
 rintro e w1 ⟨rfl,hb1⟩
 go_wp2_with fail
 refine Calls.mono (HR.out _ hb1) ?_
 rintro e w2 ⟨rfl,hb2⟩
 obtain ⟨W,hW⟩:∃ W,W=w2.alloc (.cells #[.int .i64 (a:Int),.int .i64 (m:Int),.bool true,.map none,.map none,.map none] 104):=⟨_,rfl⟩
 have hbW:Below w.heap.size w W:=by rw[hW];exact hb2.alloc hb2.size _
 have kf:Blk W w2.heap.size #[.int .i64 (a:Int),.int .i64 (m:Int),.bool true,.map none,.map none,.map none] 104:=by rw[hW];exact Blk.new w2 _ _
 have hCW:=HC.out.below hbW
 have c2:W.cell? ⟨x,2,none⟩=some (.slice (some ⟨q,0,none⟩) ds.length cap):=(hCW.blk.cell 2).trans rfl
 have cq:=hCW.cell k hk
 have f0:=(kf.cell 0).trans rfl
 have f1:=(kf.cell 1).trans rfl
 have f2:=(kf.cell 2).trans rfl
 have f3:=(kf.cell 3).trans rfl
 have f4:=(kf.cell 4).trans rfl
 have f5:=(kf.cell 5).trans rfl
 have hkc:=hCW.cap
 have HA:Hid (∀ wx,wx.heap=W.heap->wx.os=W.os->wx.tape=W.tape->wx.output=W.output->Calls Tryz.prog 102 #[.pointer (some ⟨ds[k].rb,0,none⟩),.agg #[.int .i64 (a:Int),.int .i64 (m:Int),.bool true,.map none,.map none,.map none]] wx fun e w'=>e=.returned (.tuple #[])/\(CluP w' x q cap fv 1 (ds.set k (ds[k].ack a m)) bs/\Chg ds[k].own w w')):=fun wx hx ho ht hp=>by
  have hbx:Below W.heap.size W wx:=⟨ho,ht,hp,by rw[hx];exact Nat.le_refl _,fun k _=>by rw[hx]⟩
  have hcl:=hCW.below hbx
  refine Calls.mono (rAck_any wx ds[k] (hcl.rep k hk) a m none none none true hnb (by omega)) ?_
  rintro e w' ⟨rfl,h1,h2⟩
  exact ⟨rfl,hcl.renew k hk h1 (ack_renews _ _ _ _) h2,(Chg.of_below (hbW.trans (hbx.mono hbW.size))).trans h2⟩
 have HW:Hid (W=w2.alloc (.cells #[.int .i64 (a:Int),.int .i64 (m:Int),.bool true,.map none,.map none,.map none] 104)):=hW
 have hkI:(k:Int)<(ds.length:Int):=by omega
 generalize ds[k].rb=rbk at *
 clear HR HU hb1 hb2 hW hbW kf hCW HC hnb ha hak
 go_wp2_with fail
 rw[<- HW.out]
 go_region_with (first | (go_at_call 102;refine Calls.mono (HA.out _ rfl rfl rfl rfl) ?_;rintro e w4 ⟨rfl,h4⟩))
 all_goals
  go_wp2_with fail
  go_ret2
  exact ⟨rfl,h4⟩

def RecD (B:Nat) (ds:List RepD) (k:Nat) (hk:k<ds.length) (fr:Nat) (K:Nat->Nat) (C:Nat->Option Thk.Ch) (ds':List RepD):Prop :=
 ((∀ d,1<=nth d->¬newD ds[k] K C d)/\ds'=ds)\/((∃ d,1<=nth d/\newD ds[k] K C d)/\∃ r',MoreD B ds[k] fr K C r'/\ds'=ds.set k r')

theorem come_full (w:World) (hG:Glob w) (x q cap:Nat) (fv:Value) (ds:List RepD) (bs:List (Nat × ByteArray)) (hC:CluP w x q cap fv 1 ds bs) (k:Nat) (hk:k<ds.length) (s:ByteArray) (a m:Nat) (ha:a<=5) (hm:m<=505) (S2:Nat->Prop) (C2:Nat->Option Thk.Ch) (rs:List (Nat × Nat)) (its:List (Nat × Thk.Bs)) (hs:toL s=sealL (encFm a m rs its)) (he:EncOf S2 C2 rs its) (hsz:s.size<=900000) (h5:500<=bs.length) :
  Calls Tryz.prog 57 #[.pointer (some ⟨x,0,none⟩),.int .i64 (k:Int),.string s] w fun e w'=>e=.returned (.tuple #[.int .i64 0,.int .i64 7])/\Below w.heap.size w w':=by
 have HU:Hid (_):=come_up hC hk
 have HC:Hid (CluP w x q cap fv 1 ds bs):=hC
 have HR:Hid (∀ wx,Below w.heap.size w wx->Calls Tryz.prog 101 #[.string s] wx fun e w'=>∃ ib cb lb,e=.returned (.tuple #[.agg #[.int .i64 (a:Int),.int .i64 (m:Int),.bool false,.map (some ib),.map (some cb),.map (some lb)],.bool true])/\Below w.heap.size w w'):=fun wx hb=>by
  refine Calls.mono (fRead_brings wx (hG.mono hb) s a m ha hm rs its hs hsz he.r505 he.ro he.i505 he.io) ?_
  rintro e w' ⟨ib,cb,lb,rfl,_,_,h1⟩
  exact ⟨ib,cb,lb,rfl,hb.trans (h1.mono hb.size)⟩
 have HS:Hid (∀ wx,CluP wx x q cap fv 1 ds bs->Calls Tryz.prog 52 #[.pointer (some ⟨x,0,none⟩)] wx fun e w'=>e=.returned (.bool true)/\w'=wx):=fun wx hx=>by
  have:=allSent_any wx x q cap fv 1 ds bs hx
  rw[decide_eq_true h5] at this;exact this
 clear hC hs he h5 hG
 go_enter Tryz.func57,Tryz.ntmps57
 go_wp2_with fail
 refine Calls.mono HU.out ?_
 rintro e w0 ⟨rfl,hb0⟩
 go_wp2_with fail
 refine Calls.mono (HR.out _ hb0) ?_
 rintro e w1 ⟨ib,cb,lb,rfl,hb1⟩
 have HB:Hid (∀ ob,Below w.heap.size w (w1.alloc ob)):=fun ob=>hb1.alloc hb1.size ob
 clear HR HU hb0 hb1
 go_wp2_with fail
 refine Calls.mono (HS.out _ (HC.out.below (HB.out _))) ?_
 rintro e w2 ⟨rfl,rfl⟩
 go_wp2_with fail
 go_ret2
 exact ⟨rfl,HB.out _⟩

end Go.Proofs.YtfmmllpjgkgeaaaGreatDoor

