import Derived.Test.YtfmmllpjgkgeaaaGreatDoorPartM03
set_option linter.unusedVariables false
set_option linter.unusedSimpArgs false
set_option maxHeartbeats 16000000
set_option maxRecDepth 100000
namespace Go.Proofs.YtfmmllpjgkgeaaaGreatDoor
open Go.Proofs.Tryz Go.RowKit
theorem write_any(w:World)(c rb:Nat)(bU fv:Value)(av:Nat->Value)(room:Nat)(es:List Ev)(acc most:Nat)(au:List (List Bool))(h:bC w c rb bU fv av room es acc most au)(k:Nat)(hk:k<au.length)(mv:Value)(more:List Bool)(hmv:aF 4 w mv (bools more))(hml:more.length<=es.length)(pq:most+1<=1000)(own:Bool):Calls prog 177 #[.pointer (some ⟨c,0,none⟩),.int .i64 k,mv,.bool own] w λe w'=>e=.returned (.bool true)/\bC w' c rb bU fv av room es acc (most+1) (au.set k more)/\ay (· = rb) w w':=by
 obtain⟨cap,f1,hcap⟩:=h.f1;have f0:=h.f0;have hne:c≠rb:=h.tc.ne h.ng (by decide);obtain⟨⟨kv,a0,b0⟩,a1,a7,⟨m9,a9,b9⟩,⟨kp,kl,a10,b10,d10⟩,⟨m12,a12,b12⟩,_⟩:=h.oW k hk;have hfr:∀j,w.frozen? ⟨rb,j,none⟩=false:=h.ng.frozen;have h6:=h.n6;have Tz:=h.LQ;obtain⟨mo,mc,rfl,hmc⟩:=hmv.shape;have H:Hid (bC w c rb bU fv av room es acc most au):=h;have Hmv:Hid (aF 4 w (.slice mo (bools more).length mc) (bools more)):=hmv;have Yy:Hid (aF 3 w kp (ints kl)):=b10;clear h hmv b10 b0;obtain⟨i0,hi,hz0,hz1,hz2⟩:=info_parts Tryz.info3;go_enter func177,ntmps177;go_wp2_with fail;have wX:ay (· = rb) w ((w.setCell ⟨rb,k*13,none⟩ (.slice mo (bools more).length mc)).setCell ⟨rb,k*13+9,none⟩ (.int .i64 ((m9:Int)+1))):=ay.setCell (p:=⟨rb,k*13+9,none⟩) (ay.setCell (p:=⟨rb,k*13,none⟩) (ay.refl (λx=>x=rb) w) rfl _) rfl _;have q0:((w.setCell ⟨rb,k*13,none⟩ (.slice mo (bools more).length mc)).setCell ⟨rb,k*13+9,none⟩ (.int .i64 ((m9:Int)+1))).cell? ⟨rb,k*13,none⟩=some (.slice mo (bools more).length mc):=by exact(aK (Or.inr (by omega))).trans (bQ a0)
 have q9:((w.setCell ⟨rb,k*13,none⟩ (.slice mo (bools more).length mc)).setCell ⟨rb,k*13+9,none⟩ (.int .i64 ((m9:Int)+1))).cell? ⟨rb,k*13+9,none⟩=some (.int .i64 ((m9:Int)+1)):=bQ ((aK (Or.inr (by omega))).trans a9);have qo:∀o,o≠k*13->o≠k*13+9->((w.setCell ⟨rb,k*13,none⟩ (.slice mo (bools more).length mc)).setCell ⟨rb,k*13+9,none⟩ (.int .i64 ((m9:Int)+1))).cell? ⟨rb,o,none⟩=w.cell? ⟨rb,o,none⟩:=λo h1 h2=>by exact(aK (Or.inr (by omega))).trans (aK (Or.inr (by omega)))
 have qt:Tagged ((w.setCell ⟨rb,k*13,none⟩ (.slice mo (bools more).length mc)).setCell ⟨rb,k*13+9,none⟩ (.int .i64 ((m9:Int)+1))) rb 165:=(H.out.ng.setCell _ _).setCell _ _;have qc:∀i,((w.setCell ⟨rb,k*13,none⟩ (.slice mo (bools more).length mc)).setCell ⟨rb,k*13+9,none⟩ (.int .i64 ((m9:Int)+1))).cell? ⟨c,i,none⟩=w.cell? ⟨c,i,none⟩:=λi=>World.cell?_of_block (w:=w) (wX.block c H.out.tc.lt hne);generalize ((w.setCell ⟨rb,k*13,none⟩ (.slice mo (bools more).length mc)).setCell ⟨rb,k*13+9,none⟩ (.int .i64 ((m9:Int)+1)))=WB at *;have q10:=(qo (k*13+10) (by omega) (by omega)).trans a10;have q12:=(qo (k*13+12) (by omega) (by omega)).trans a12;have g0:=(qc 0).trans f0;have qf:=qt.frozen;have Hqo:Hid (∀o,o≠k*13->o≠k*13+9->WB.cell? ⟨rb,o,none⟩=w.cell? ⟨rb,o,none⟩):=qo;have hcw:=H.out.tc.lt;have hcB:c<WB.heap.size:=Nat.lt_of_lt_of_le hcw wX.size;have Pv:rb<WB.heap.size:=qt.lt;have Hkp:Hid (aF 3 WB kp (ints kl)):=Yy.out.Aj wX H.out.ng (by decide);have ad5:(ints kl).length=kl.length:=by simp[ints]
 clear qo qc f0 f1 a0 a7 a9 a10 a12 hfr Yy;go_cut []from 80 to 94 (λwx=>∃w2 v,wx=w2.setCell ⟨rb,k*13+10,none⟩ v/\Below WB.heap.size WB w2/\w2.ownsRow WB.heap.size 3 1 v (kl.length+1) (ints kl++[.int .i64 ((m9:Int)+1)]))
 case first =>
  rcases Hkp.out with⟨rfl,hnil⟩|⟨pb,po,pc,rfl,hpc,hpt,nJ⟩
  ·have hkn:kl=[]:=by simpa[ints]using hnil
   subst hkn;have Py:Hid (∀u∈[Value.int .i64 ((m9:Int)+1)],u.oneCell'=true):=by intro u hu;simp at hu;subst hu;rfl
   have e1:Hid (0+1<=maxLen):=by unfold Hid maxLen;omega
   have e2:Hid ((0+1)*8<=140737488355328):=by unfold Hid;omega
   go_region_law (first|(refine o9 rfl (.tmp 81) (.tmp 85) 42 rfl WB.heap.size 3 i0 1 underlying42 hi (.slice (some ⟨_,0,none⟩) 0 0) 0 [] rfl ?_ rfl ?_;(first|(refine fA _ _ ?_ ?_<;>(simp;done))|(refine World.ownsRow.alloc (fA _ _ ?_ ?_) _<;>(simp;done))|(refine fA _ _ ?_ ?_<;>(simp<;>omega))|(refine World.ownsRow.alloc (fA _ _ ?_ ?_) _<;>(simp<;>omega))))|(refine oD rfl (.tmp 86) (.tmp 91) 42 rfl WB.heap.size 3 i0 (.int .i64 0) 1 8 underlying42 hi hz0 hz1 hz2 rfl (by decide) (.slice (some ⟨_,0,none⟩) 0 0) 0 [] rfl ?_ _ 1 1 [.int .i64 ((m9:Int)+1)] rfl rfl ?_ Py.out e1.out e2.out Nat.one_pos WB ?_ (Nat.le_refl _) ?_;(first|(refine fA _ _ ?_ ?_<;>(simp;done))|(refine World.ownsRow.alloc (fA _ _ ?_ ?_) _<;>(simp;done))|(refine fA _ _ ?_ ?_<;>(simp<;>omega))|(refine World.ownsRow.alloc (fA _ _ ?_ ?_) _<;>(simp<;>omega)));(intro j u hj;match j,hj with|0,hj=>(cases hj;first|rfl|(simp[Addr.add];done)|(simp[Addr.add];refine(VR _ 0 ?_ ?_).trans ?_;(first|(simp only[World.size_drew,World.size_alloc];omega)|omega);(simp[Value.ownBlock]);(first|rfl|(simp;done)|(simp[go_sem];done)))));(go_grown);intro g6 c6 w6 hown6 KL;have s10:=(KL.cell (p:=⟨rb,k*13+10,none⟩) Pv).trans q10;have sf:=λj=>(KL.frozen (p:=⟨rb,j,none⟩) Pv).trans (qf j)))
   all_goals go_wp2_with fail
   all_goals go_meet
   all_goals exact⟨_,_,rfl,KL,hown6⟩
  ·have hW:Hid (∀wx,Below WB.heap.size WB wx->∀j u,(ints kl)[j]?=some u->wx.cell? ((⟨pb,po,none⟩:Addr).add j)=some u):=by
    intro wx hwx j u hj;have hjl:j<(ints kl).length:=by
     rcases Nat.lt_or_ge j (ints kl).length with h|h
     ·exact h
     ·rw[List.getElem?_eq_none h]at hj;cases hj
    have he:(⟨pb,po,none⟩:Addr).add j=⟨pb,po+j,none⟩:=by unfold Addr.add;split<;>simp_all
    rw[he,hwx.cell (p:=⟨pb,po+j,none⟩) hpt.lt,nJ j hjl];rw[List.getElem?_eq_getElem hjl]at hj;exact hj
   have hone:Hid (∀u∈ints kl,u.oneCell'=true):=by intro u hu;simp[ints]at hu;obtain⟨a,_,rfl⟩:=hu;rfl
   clear nJ;rw[ad5]at *;have Py:Hid (∀u∈[Value.int .i64 ((m9:Int)+1)],u.oneCell'=true):=by intro u hu;simp at hu;subst hu;rfl
   have e1:Hid (0+kl.length<=maxLen):=by unfold Hid maxLen;omega
   have e2:Hid ((0+kl.length)*8<=140737488355328):=by unfold Hid;omega
   have e3:Hid (0+kl.length+1<=maxLen):=by unfold Hid maxLen;omega
   have e4:Hid ((0+kl.length+1)*8<=140737488355328):=by unfold Hid;omega
   have e5:Hid (0<0+kl.length+1):=by unfold Hid;omega
   have e6:Hid ((ints kl).length=kl.length*1):=by unfold Hid;simp[ints]
   go_region_law (first|(refine tK rfl (.tmp 81) (.tmp 85) 42 rfl WB.heap.size 3 i0 (.int .i64 0) 1 8 underlying42 hi hz0 hz1 hz2 rfl (by decide) (.slice (some ⟨_,0,none⟩) 0 0) 0 [] rfl ?_ _ kl.length _ (ints kl) rfl e6.out hone.out e1.out e2.out WB ?_ (Nat.le_refl _) hW.out ?_;(first|(refine fA _ _ ?_ ?_<;>(simp;done))|(refine World.ownsRow.alloc (fA _ _ ?_ ?_) _<;>(simp;done))|(refine fA _ _ ?_ ?_<;>(simp<;>omega))|(refine World.ownsRow.alloc (fA _ _ ?_ ?_) _<;>(simp<;>omega)));(go_grown);intro v5 w5 hown5 xE hsz5 VR;have s9:=(xE.cell (p:=⟨rb,k*13+9,none⟩) Pv).trans q9)|(refine oD rfl (.tmp 86) (.tmp 91) 42 rfl WB.heap.size 3 i0 (.int .i64 0) 1 8 underlying42 hi hz0 hz1 hz2 rfl (by decide) _ (0+kl.length) ([]++ints kl) rfl ?_ _ 1 1 [.int .i64 ((m9:Int)+1)] rfl rfl ?_ Py.out e3.out e4.out e5.out WB ?_ (Nat.le_refl _) ?_;(first|exact hown5|exact hown5.alloc _);(intro j u hj;match j,hj with|0,hj=>(cases hj;first|rfl|(simp[Addr.add];done)|(simp[Addr.add];refine(VR _ 0 ?_ ?_).trans ?_;(first|(simp only[World.size_drew,World.size_alloc];omega)|omega);(simp[Value.ownBlock]);(first|rfl|(simp;done)|(simp[go_sem];done)))));(first|exact xE|exact xE.alloc xE.size _);intro g6 c6 w6 hown6 KL;have s10:=(KL.cell (p:=⟨rb,k*13+10,none⟩) Pv).trans q10;have sf:=λj=>(KL.frozen (p:=⟨rb,j,none⟩) Pv).trans (qf j)))
   all_goals go_wp2_with fail
   all_goals go_meet
   all_goals exact⟨_,_,rfl,KL,by simpa using hown6⟩
 case rest =>
 obtain⟨w2,v,rfl,hb2,hown2⟩:=hcut;obtain⟨g2,c2,rfl⟩:=dL hown2 (by omega);have t10:=(hb2.cell (p:=⟨rb,k*13+10,none⟩) Pv).trans q10;have t12:=(hb2.cell (p:=⟨rb,k*13+12,none⟩) Pv).trans q12;have tc0:=(hb2.cell (p:=⟨c,0,none⟩) hcB).trans g0;have tf:∀j,w2.frozen? ⟨rb,j,none⟩=false:=λj=>(hb2.frozen (p:=⟨rb,j,none⟩) Pv).trans (qf j);have u0:Hid (w2.cell? ⟨rb,k*13,none⟩=some (.slice mo (bools more).length mc)):=(hb2.cell (p:=⟨rb,k*13,none⟩) Pv).trans q0;have u9:Hid (w2.cell? ⟨rb,k*13+9,none⟩=some (.int .i64 ((m9:Int)+1))):=(hb2.cell (p:=⟨rb,k*13+9,none⟩) Pv).trans q9;have uo:Hid (∀o,o≠k*13->o≠k*13+9->w2.cell? ⟨rb,o,none⟩=w.cell? ⟨rb,o,none⟩):=λo h1 h2=>(hb2.cell (p:=⟨rb,o,none⟩) Pv).trans (Hqo.out o h1 h2);have ut:Hid (Tagged w2 rb 165):=qt.below hb2;have TK:Hid (ay (λx=>x=rb) w w2):=wX.below hb2;have us:Hid (aF 3 w2 (.slice (some ⟨g2,0,none⟩) (kl.length+1) c2) (ints (kl++[(m9:Int)+1]))):=by have:=jG hown2;unfold Hid;simpa[ints]using this
 have hc2:kl.length+1<=c2:=by obtain⟨ao,cp,e1,e2⟩:=us.out.shape;simp only[Value.slice.injEq]at e1;obtain⟨_,_,rfl⟩:=e1;simpa[ints]using e2
 have nC:=H.out.nC;clear hb2 hown2 Hqo qt q0 q9 q10 q12 qf g0 wX Hkp;by_cases hgt:room<kl.length+1
 ·have ac5:(w2.setCell ⟨rb,k*13+10,none⟩ (.slice (some ⟨g2,0,none⟩) (kl.length+1) c2)).cell? ⟨rb,k*13+10,none⟩=some (.slice (some ⟨g2,0,none⟩) (kl.length+1) c2):=bQ t10;have h1c:1<=c2:=by omega
  have ak5:m12<=1000:=by omega
  go_wp2_with fail
  go_quiet (fail)
  go_wp2;all_goals
   go_ret;refine⟨rfl, ?_, ?_⟩
   ·refine Bh H.out k hk _ more Hmv.out hml pq ((((TK.out.setCell (p:=⟨rb,k*13+10,none⟩) rfl _).setCell (p:=⟨rb,k*13+10,none⟩) rfl _).setCell (p:=⟨rb,k*13+12,none⟩) rfl _).drewN _) ((((ut.out.setCell _ _).setCell _ _).setCell _ _).drewN _) ?_ m9 b9 ?_ _ (kl++[(m9:Int)+1]).tail ((aK (Or.inr (by omega))).trans (bQ (bQ t10))) ?_ (by simp;omega) (m12+1) (by omega) ?_ ?_
    ·exact(aK (Or.inr (by omega))).trans ((aK (Or.inr (by omega))).trans ((aK (Or.inr (by omega))).trans u0.out))
    ·exact(aK (Or.inr (by omega))).trans ((aK (Or.inr (by omega))).trans ((aK (Or.inr (by omega))).trans u9.out))
    ·refine aF.Aj (b:=rb) (w:=w2) ?_ (((((ay.refl (λx=>x=rb) _).setCell (p:=⟨rb,k*13+10,none⟩) rfl _).setCell (p:=⟨rb,k*13+10,none⟩) rfl _).setCell (p:=⟨rb,k*13+12,none⟩) rfl _).drewN _) ut.out (by decide);rw[show ints (kl++[(m9:Int)+1]).tail=(ints (kl++[(m9:Int)+1])).tail from by cases kl<;>rfl];refine us.out.Yu kl.length _ ?_ ?_ ?_
     ·simp[ints]
     ·first|(right;rfl)|(left;exact⟨rfl,by omega⟩)
     ·omega
    ·refine(bQ ((aK (Or.inr (by omega))).trans ((aK (Or.inr (by omega))).trans t12))).trans ?_;simp
    ·intro o h1 h2 h3 h4;exact(aK (Or.inr (by omega))).trans ((aK (Or.inr (by omega))).trans ((aK (Or.inr (by omega))).trans (uo.out o h1 h2)))
   ·exact(((TK.out.setCell (p:=⟨rb,k*13+10,none⟩) rfl _).setCell (p:=⟨rb,k*13+10,none⟩) rfl _).setCell (p:=⟨rb,k*13+12,none⟩) rfl _).drewN _
 ·go_wp2_with fail
  go_quiet (fail)
  go_wp2;go_ret;refine⟨rfl, ?_, ?_⟩
  ·refine Bh H.out k hk _ more Hmv.out hml pq ((TK.out.setCell (p:=⟨rb,k*13+10,none⟩) rfl _).drewN _) ((ut.out.setCell _ _).drewN _) ?_ m9 b9 ?_ _ (kl++[(m9:Int)+1]) (bQ t10) ?_ (by simp;omega) m12 (by omega) ?_ ?_
   ·exact(aK (Or.inr (by omega))).trans u0.out
   ·exact(aK (Or.inr (by omega))).trans u9.out
   ·exact us.out.Aj (b:=rb) (((ay.refl (λx=>x=rb) _).setCell (p:=⟨rb,k*13+10,none⟩) rfl _).drewN _) ut.out (by decide)
   ·exact(aK (Or.inr (by omega))).trans t12
   ·intro o h1 h2 h3 h4;exact(aK (Or.inr (by omega))).trans (uo.out o h1 h2)
  ·exact(TK.out.setCell (p:=⟨rb,k*13+10,none⟩) rfl _).drewN _
