import Derived.Test.YtfmmllpjgkgeaaaGreatDoorPartM04
set_option linter.unusedVariables false
set_option linter.unusedSimpArgs false
set_option maxHeartbeats 16000000
set_option maxRecDepth 100000
namespace Go.Proofs.YtfmmllpjgkgeaaaGreatDoor
open Go.Proofs.Tryz Go.RowKit
section
variable{es:List Ev}{au:List (List Bool)}{i:Int}{s:Thk.Bs}
end
theorem L6(w:World)(c rb:Nat)(bU fv:Value)(av:Nat->Value)(room:Nat)(es:List Ev)(most:Nat)(pq:most+1<=1000)(au:List (List Bool))(h:bC w c rb bU fv av room es es.length most au)(i:Int)(s:ByteArray)(hs:s.size<=1048576):Calls prog 116 #[.pointer (some ⟨c,0,none⟩),.int .i64 i,.string s] w λe w' => ∃(r:Int)(pz:Value)(es':List Ev)(KN:List (List Bool)),e=.returned (.int .i64 r)/\fE es au i (ah s) r es' KN/\bC w' c rb pz fv av room es' es'.length (most+(es'.length-es.length)) KN /\ ay (λx=>x=c\/x=rb\/bU.ownBlock=some x) w w'/\(pz.ownBlock=bU.ownBlock\/∃g,pz.ownBlock=some g/\w.heap.size<=g):=by
 have H:Hid (bC w c rb bU fv av room es es.length most au):=h;clear h;by_cases hi:0<=i/\i<au.length
 ·obtain⟨k,rfl⟩:=Int.eq_ofNat_of_zero_le hi.1;have hk:k<au.length:=by omega
  go_enter func116,ntmps116;go_wp2_with fail;refine(nG w c rb bU fv av room es _ _ au H.out (k:Int)).mono ?_;rintro e w1⟨rfl,hw1⟩;subst hw1;rw[if_pos hi];go_wp2_with fail;refine(Pj s _ hs).mono ?_;rintro e w2⟨he,hb2⟩;have H2:Hid (bC w2 c rb bU fv av room es es.length most au):=H.out.below hb2;cases hr:Thk.read (ah s) with
  | inl m =>
   rw[hr]at he;have he':e=.returned (.tuple #[kZ,.int .i64 m]):=he;subst he';have hm0:Hid (0<m/\m<=6):=Thk.EK _ _ hr;have hm1:=hm0.out.1;have hm2:=hm0.out.2;have hmb:((m:Int) !=0)=true:=by rw[bne_iff_ne];omega
   have Hr:Hid (_):=hr;clear hr he;go_wp2;go_ret;refine⟨m,bU,es,au,rfl,.bad m hi Hr.out, ?_, ?_,Or.inl rfl⟩
   ·rw[Nat.sub_self,Nat.add_zero];exact H2.out.below ((Below.refl _ _).alloc (Nat.le_refl _) _)
   ·exact ay.of_below (hb2.trans (((Below.refl _ _).alloc (Nat.le_refl _) _).mono hb2.size))
  | inr ch =>
   rw[hr]at he;obtain⟨p,v,rfl,hp,hv⟩:=he;have Hr:Hid (_):=hr;have Ai:Hid (_):=Thk.xG _ _ hr;have Hp:Hid (_):=hp;have Hv:Hid (_):=hv;clear hr hp hv;have f3:=H2.out.f3;obtain⟨cap,f1,hcap⟩:=H2.out.f1;have KI:=H2.out.nD;have h6:=H2.out.n6;have hcl:=H2.out.tc.lt;have hrl:=H2.out.ng.lt;have f3A:∀o,(w2.alloc o).cell? ⟨c,3,none⟩=some (.int .i64 es.length):=λo=>(((Below.refl _ w2).alloc (Nat.le_refl _) o).cell (p:=⟨c,3,none⟩) hcl).trans f3;have f1A:∀o,(w2.alloc o).cell? ⟨c,1,none⟩=some (.slice (some ⟨rb,0,none⟩) au.length cap):=λo=>(((Below.refl _ w2).alloc (Nat.le_refl _) o).cell (p:=⟨c,1,none⟩) hcl).trans f1;by_cases hfull:500<=es.length
   ·go_wp2;go_ret;refine⟨7,bU,es,au,rfl,.full ch hi Hr.out hfull, ?_, ?_,Or.inl rfl⟩
    ·rw[Nat.sub_self,Nat.add_zero];exact H2.out.below ((Below.refl _ _).alloc (Nat.le_refl _) _)
    ·exact ay.of_below (hb2.trans (((Below.refl _ _).alloc (Nat.le_refl _) _).mono hb2.size))
   ·go_upto_region 10 with fail
    have hb3:Hid (Below w2.heap.size w2 (w2.alloc (.cells #[.string p,.int .u8 (ch.act.toNat:Int),.string v,.int .i64 ch.n,.slice none 0 0] 239))):=(Below.refl _ _).alloc (Nat.le_refl _) _;have H3:Hid (bC (w2.alloc (.cells #[.string p,.int .u8 (ch.act.toNat:Int),.string v,.int .i64 ch.n,.slice none 0 0] 239)) c rb bU fv av room es es.length most au):=H2.out.below hb3.out;have hE:Hid (mO w2.heap.size (.string p) (.int .u8 (ch.act.toNat:Int)) (.string v) (.int .i64 ch.n) (.slice none 0 0) (w2.alloc (.cells #[.string p,.int .u8 (ch.act.toNat:Int),.string v,.int .i64 ch.n,.slice none 0 0] 239))):=LX (Below.refl (w2.heap.size+1) _) (by omega);have hTe:Hid (Tagged (w2.alloc (.cells #[.string p,.int .u8 (ch.act.toNat:Int),.string v,.int .i64 ch.n,.slice none 0 0] 239)) w2.heap.size 239):=⟨_,heap_alloc_new w2 _⟩;have hlt3:w2.heap.size<(w2.alloc (.cells #[.string p,.int .u8 (ch.act.toNat:Int),.string v,.int .i64 ch.n,.slice none 0 0] 239)).heap.size:=by simp
    have TL:Hid (ay (λx=>x=c\/x=rb\/bU.ownBlock=some x) w1 (w2.alloc (.cells #[.string p,.int .u8 (ch.act.toNat:Int),.string v,.int .i64 ch.n,.slice none 0 0] 239))):=ay.of_below (hb2.trans (hb3.out.mono hb2.size));have Yz:Hid (∀g,bU.ownBlock=some g->g<w2.heap.size):=λg hg=>(H2.out.Ak g hg).1;have ad6:Hid (w1.heap.size<=(w2.alloc (.cells #[.string p,.int .u8 (ch.act.toNat:Int),.string v,.int .i64 ch.n,.slice none 0 0] 239)).heap.size):=TL.out.size;have ad7:Hid (w1.heap.size<=w2.heap.size):=hb2.size;clear f3 f1 f3A f1A hcl hrl H2 hb3 hb2;generalize w2.alloc (.cells #[.string p,.int .u8 (ch.act.toNat:Int),.string v,.int .i64 ch.n,.slice none 0 0] 239)=W3 at *;generalize w2.heap.size=e0 at *;obtain⟨⟨kv,a0,b0⟩,_⟩:=H3.out.oW k hk;have Hkn:Hid (au.getD k []=au[k]):=by unfold Hid;simp[List.getElem?_eq_getElem hk]
    have hkl:=H3.out.kn _ (List.getElem_mem hk);generalize hkn:au[k]=kn at *;obtain⟨i4,hi4,VT,TM,VU⟩:=info_parts Tryz.info4;have hbl:(bools kn).length=kn.length:=by simp[bools]
    have hfz:=hE.out.f;have hrl3:=H3.out.ng.lt;have ad8:=H3.out.tc.lt;have a0A:∀o,(W3.alloc o).cell? ⟨rb,k*13,none⟩=some kv:=λo=>(((Below.refl _ W3).alloc (Nat.le_refl _) o).cell (p:=⟨rb,k*13,none⟩) hrl3).trans a0;have e4A:∀o,(W3.alloc o).cell? ⟨e0,4,none⟩=some (.slice none 0 0):=λo=>(((Below.refl _ W3).alloc (Nat.le_refl _) o).cell (p:=⟨e0,4,none⟩) hlt3).trans hE.out.c4;have fzA:∀o j,(W3.alloc o).frozen? ⟨e0,j,none⟩=false:=λo j=>(((Below.refl _ W3).alloc (Nat.le_refl _) o).frozen (p:=⟨e0,j,none⟩) hlt3).trans (hfz j);go_cut []from 37 to 43 (λwx=>∃so sc,mO e0 (.string p) (.int .u8 (ch.act.toNat:Int)) (.string v) (.int .i64 ch.n) (.slice so kn.length sc) wx/\ay (λx=>x=e0) W3 wx/\aF 4 wx (.slice so kn.length sc) (bools kn))
    case first =>
     rcases b0 with⟨rfl,hnil⟩|⟨pb,po,pc,rfl,hpc,hpt,nJ⟩
     ·have ad9:kn=[]:=by simpa[bools]using hnil
      subst ad9;have e4:=hE.out.c4;go_wp2_with (at_builtin;refine wpList_append_own_none rfl (.tmp 37) (.tmp 41) 163 rfl W3.heap.size 4 i4 1 underlying163 hi4 (.slice (some ⟨_,0,none⟩) 0 0) 0 [] rfl (fA _ _ rfl (Nat.le_refl _)) rfl ?_);go_meet;rw[<- World.setCell_alloc_past _ e0 4 _ hlt3];have hbA:Below W3.heap.size W3 (W3.alloc (.cells #[] 4)):=(Below.refl _ _).alloc (Nat.le_refl _) _;obtain⟨z1,z2⟩:=Yw hE.out hTe.out hbA (.slice (some ⟨W3.heap.size,0,none⟩) 0 0);exact⟨_,_,z1,z2,aF.Aj (s:=239) (jG (fA (e:=4) (base:=0) W3 _ rfl (Nat.zero_le _))) ((ay.refl (λx=>x=e0) _).setCell (p:=⟨e0,4,none⟩) rfl _) (hTe.out.below hbA) (by decide)⟩
     ·have hsrc:Hid (∀wx,Below W3.heap.size W3 wx->∀j u,(bools kn)[j]?=some u->wx.cell? ((⟨pb,po,none⟩:Addr).add j)=some u):=by
       intro wx hwx j u hj;have hjl:j<(bools kn).length:=by
        rcases Nat.lt_or_ge j (bools kn).length with h|h
        ·exact h
        ·rw[List.getElem?_eq_none h]at hj;cases hj
       have he:(⟨pb,po,none⟩:Addr).add j=⟨pb,po+j,none⟩:=by unfold Addr.add;split<;>simp_all
       rw[he,hwx.cell (p:=⟨pb,po+j,none⟩) hpt.lt,nJ j hjl];rw[List.getElem?_eq_getElem hjl]at hj;exact hj
      have hone:Hid (∀u∈bools kn,u.oneCell'=true):=by intro u hu;simp[bools]at hu;rcases hu with⟨_,rfl⟩|⟨_,rfl⟩<;>rfl
      clear nJ;rw[hbl]at *;go_wp2_with (at_builtin;go_loud (refine wpList_append_own _ rfl (.tmp 37) (.tmp 41) 163 rfl W3.heap.size 4 i4 (.bool false) 1 1 underlying163 hi4 VT TM VU rfl (by decide) (.slice (some ⟨_,0,none⟩) 0 0) 0 [] rfl (fA _ _ rfl (Nat.le_refl _)) ⟨pb,po,none⟩ kn.length pc (bools kn) rfl (by simp[bools]) (hsrc.out _ ((Below.refl _ _).alloc (Nat.le_refl _) _)) hone.out (by unfold maxLen;omega) (by omega) (by simp) ?_;intro v5 w5 hown5 hg5 _;have xE:Below W3.heap.size W3 w5:=((Below.refl _ _).alloc (Nat.le_refl _) _).grown hg5 (by simp) (λkk hkk=>by simp[Value.ownBlock]at hkk;omega);obtain⟨so5,sc5,rfl,_⟩:=(jG hown5).shape;have c45:=(xE.cell (p:=⟨e0,4,none⟩) hlt3).trans hE.out.c4;have f45:=λj=>(xE.frozen (p:=⟨e0,j,none⟩) hlt3).trans (hfz j)));go_meet;have hs5:aF 4 w5 (.slice so5 (bools kn).length sc5) (bools kn):=by have:=jG hown5;simpa using this
      have e:(bools kn).length=kn.length:=by simp[bools]
      obtain⟨z1,z2⟩:=Yw hE.out hTe.out xE (.slice so5 (bools kn).length sc5);have z3:=aF.Aj (s:=239) hs5 ((ay.refl (λx=>x=e0) _).setCell (p:=⟨e0,4,none⟩) rfl (.slice so5 (bools kn).length sc5)) (hTe.out.below xE) (by decide);rw[e]at z1 z2 z3⊢;exact⟨so5,sc5,z1,z2,z3⟩
    case rest =>
    obtain⟨so,sc,hE5,hc5,hs5⟩:=hcut;have hne0:∀g,bU.ownBlock=some g->g≠e0:=λg hg=>Nat.ne_of_lt (Yz.out g hg);have hce:c≠e0:=H3.out.tc.ne hTe.out (by decide);have hre:rb≠e0:=H3.out.ng.ne hTe.out (by decide);have H5:Hid (bC wc c rb bU fv av room es es.length most au):=H3.out.aJ hc5 hce hre hne0 (λb hb=>hb.ne hTe.out (by decide)) (aH.jI hc5 (λb hb=>hb.ne hTe.out (by decide)));have ae0:Hid (mO e0 (.string p) (.int .u8 (ch.act.toNat:Int)) (.string v) (.int .i64 ch.n) (.slice so kn.length sc) wc):=hE5;have YA:Hid (aF 4 wc (.slice so kn.length sc) (bools kn)):=hs5;have hw5:Hid (ay (λx=>x=c\/x=rb\/bU.ownBlock=some x) w1 wc):=TL.out.trans' hc5 (λx hx h=>by subst h;have:=ad7.out;omega);have YB:Hid (w1.heap.size<=wc.heap.size):=hw5.out.size;clear hE hTe hlt3 TL ad6 H3 a0 b0 hfz hrl3 ad8 a0A e4A fzA hc5 hs5 hne0 hbl;generalize wc=W5 at *;obtain⟨jH,hsl,hown,TI⟩:=H5.out.evs;have YC:Hid (∀j(h:j<jH.length)(h':j<es.length),aF 4 W5 jH[j] (bools es[j].xC)):=TI;have yw:Hid (W5.ownsRow 0 239 5 bU es.length (fC es jH)):=hown;have g2:=H5.out.f2;obtain⟨d0,d1,d2,d3,d4,df⟩:=hE5;have htc:=H5.out.tc;have hcf:=htc.frozen;have VW:=htc.lt;have IZ:Hid (∀x,bU.ownBlock=some x->x≠c):=λx hx=>(H5.out.Ak x hx).2.ne htc (by decide);obtain⟨iE,hiE,YD,YE,YF⟩:=info_parts Tryz.infoEv;have U5:Hid (∀u∈[Value.string p,.int .u8 (ch.act.toNat:Int),.string v,.int .i64 ch.n,.slice so kn.length sc],u.oneCell'=true):=by intro u hu;simp at hu;rcases hu with rfl|rfl|rfl|rfl|rfl<;>rfl
    have m1:Hid (es.length+1<=maxLen):=by unfold Hid maxLen;omega
    have m2:Hid ((es.length+1)*72<=140737488355328):=by unfold Hid;omega
    clear TI hown htc;go_wp2_with fail;go_cut []from 44 to 53 (λwx=>∃w6 pz,wx=w6.setCell ⟨c,2,none⟩ pz/\ay (λx=>bU.ownBlock=some x) W5 w6/\w6.ownsRow 0 239 5 pz (es.length+1) (fC es jH++[.string p,.int .u8 (ch.act.toNat:Int),.string v,.int .i64 ch.n,.slice so kn.length sc])/\(pz.ownBlock=bU.ownBlock\/∃g,pz.ownBlock=some g/\W5.heap.size<=g))
    case first =>
     go_region_law (refine fG rfl (.tmp 48) (.tmp 50) 167 rfl 239 iE kZ 5 72 underlying167 hiE YD YE YF rfl (by decide) bU es.length (fC es jH) rfl ?_ _ 1 1 [.string p,.int .u8 (ch.act.toNat:Int),.string v,.int .i64 ch.n,.slice so kn.length sc] rfl rfl ?_ U5.out m1.out m2.out (Nat.succ_pos _) ?_;(exact yw.out.alloc _);(intro j u hj;match j,hj with|0,hj=>(cases hj;simp[Addr.add])|1,hj=>(cases hj;simp[Addr.add])|2,hj=>(cases hj;simp[Addr.add])|3,hj=>(cases hj;simp[Addr.add])|4,hj=>(cases hj;simp[Addr.add]));intro g6 c6 w6 hown6 eG pF;have oO:ay (λx=>bU.ownBlock=some x) W5 w6:=ay.grown (ay.of_below (by go_grown)) eG (λk hk=>Or.inl hk);have k2:=(World.cell?_of_block (w:=W5) (a:=⟨c,2,none⟩) (oO.block c VW (λh=>IZ.out c h rfl))).trans g2;have kf:∀j,w6.frozen? ⟨c,j,none⟩=false:=λj=>(World.frozen?_of_block (w:=W5) (a:=⟨c,j,none⟩) (oO.block c VW (λh=>IZ.out c h rfl))).trans (hcf j))
     all_goals
      go_wp2_with fail;go_meet;refine⟨_,_,rfl,oO,hown6, ?_⟩;rcases pF with h|h
      ·exact Or.inl h.symm
      ·refine Or.inr ⟨g6,rfl, ?_⟩;simp at h;omega
    case rest =>
    obtain⟨w6,pz,rfl,oO,hown6,hnew⟩:=hcut;obtain⟨g6,c6,rfl⟩:=dL hown6 (by omega);have hok:LM ⟨p,ch.act,v,ch.n,kn⟩:=by
     have ho:=Ai.out;have h1:p.size=ch.path.length:=by rw[<- aB,Hp.out]
     have h2:v.size=ch.val.length:=by rw[<- aB,Hv.out]
     exact⟨by simp only[];omega,by simp only[];omega,ho.2.2.1,ho.2.2.2.1,by simp only[];omega⟩
    have H7:Hid (bC (w6.setCell ⟨c,2,none⟩ (.slice (some ⟨g6,0,none⟩) (es.length+1) c6)) c rb (.slice (some ⟨g6,0,none⟩) (es.length+1) c6) fv av room (es++[⟨p,ch.act,v,ch.n,kn⟩]) es.length most au):=H5.out.more oO ⟨p,ch.act,v,ch.n,kn⟩ hok (.slice so kn.length sc) YA.out jH hsl YC.out (by omega) hown6;have hw7:Hid (ay (λx=>x=c\/x=rb\/bU.ownBlock=some x) w1 (w6.setCell ⟨c,2,none⟩ (.slice (some ⟨g6,0,none⟩) (es.length+1) c6))):=(hw5.out.trans' oO (λx _ hx=>Or.inr (Or.inr hx))).setCell (p:=⟨c,2,none⟩) (Or.inl rfl) _;have YG:Hid ((Value.slice (some ⟨g6,0,none⟩) (es.length+1) c6).ownBlock=bU.ownBlock\/∃g,(Value.slice (some ⟨g6,0,none⟩) (es.length+1) c6).ownBlock=some g/\w1.heap.size<=g):=by
     rcases hnew with h|⟨g,h1,h2⟩
     ·exact Or.inl h
     ·exact Or.inr ⟨g,h1,Nat.le_trans YB.out h2⟩
    clear oO hown6 hnew hok H5 ae0 YA hw5 YB YC yw g2 d0 d1 d2 d3 d4 df hcf VW IZ U5 m1 m2 hiE YD YE YF;generalize w6.setCell ⟨c,2,none⟩ (.slice (some ⟨g6,0,none⟩) (es.length+1) c6)=W7 at *;have q2:=H7.out.f2;obtain⟨⟨kv,a0,b0⟩,_⟩:=H7.out.oW k hk;rw[hkn]at b0;have hrl:=H7.out.ng.lt;have hcl:=H7.out.tc.lt;have a0B:∀wx,Below W7.heap.size W7 wx->wx.cell? ⟨rb,k*13,none⟩=some kv:=λwx hx=>(hx.cell (p:=⟨rb,k*13,none⟩) hrl).trans a0;have HaB:Hid (_):=a0B;have Hb0:Hid (aF 4 W7 kv (bools kn)):=b0;obtain⟨ko,kc,rfl,hkc⟩:=b0.shape;clear a0B;have ae1:(bools kn).length=kn.length:=by simp[bools]
    have hsrc:Hid (∀wx,Below W7.heap.size W7 wx->0<(bools kn).length->∃ad,ko=some ad/\∀j u,(bools kn)[j]?=some u->wx.cell? (ad.add j)=some u):=by
     intro wx hwx hpos;rcases Hb0.out with⟨h1,h2⟩|⟨pb,po,pc,h1,hpc,hpt,nJ⟩
     ·rw[h2]at hpos;simp at hpos
     ·simp only[Value.slice.injEq]at h1;refine⟨⟨pb,po,none⟩,h1.1,λj u hj=>?_⟩;have hjl:j<(bools kn).length:=by
       rcases Nat.lt_or_ge j (bools kn).length with h|h
       ·exact h
       ·rw[List.getElem?_eq_none h]at hj;cases hj
      have he:(⟨pb,po,none⟩:Addr).add j=⟨pb,po+j,none⟩:=by unfold Addr.add;split<;>simp_all
      rw[he,hwx.cell (p:=⟨pb,po+j,none⟩) hpt.lt,nJ j hjl];rw[List.getElem?_eq_getElem hjl]at hj;exact hj
    have hone:Hid (∀u∈bools kn,u.oneCell'=true):=by intro u hu;simp[bools]at hu;rcases hu with⟨_,rfl⟩|⟨_,rfl⟩<;>rfl
    have hmin:Hid ((bools kn).length=Nat.min kn.length (es.length+1)):=ae1.trans (Nat.min_eq_left (by omega)).symm;have VX:Hid ((prog.info? 4).map (·.size)=some 1):=by unfold Hid;rw[hi4];simp[TM]
    have hb4:Hid (i4.bytes*(es.length+1)<=281474976710656):=by unfold Hid;rw[VU];omega
    have hm4:Hid (es.length+1<=maxLen):=by unfold Hid maxLen;omega
    have hfit:Hid (0+(bools kn).length<=(List.replicate (es.length+1) (Value.bool false)).length):=by unfold Hid;simp;omega
    go_upto_region 13 with(at_make;(refine wpList_make_full _ rfl (.tmp 58) (.tmp 58) 163 rfl W7.heap.size 4 i4 (.bool false) 1 underlying163 hi4 VT TM .i64 .i64 _ _ (es.length+1) rfl rfl (by first|rfl|omega) (by first|rfl|omega) hb4.out hm4.out (Nat.le_refl _) ?_;intro w8 U6 hg8;have VY:Below W7.heap.size W7 w8:=(Below.refl _ _).grown hg8 (Nat.le_refl _) (λkk hkk=>by cases hkk);have a08:=HaB.out _ VY;have hh8:Hid (w8.heap[W7.heap.size]?=some (.cells (List.replicate (es.length+1) (Value.bool false)).toArray 4 (0,0))):=(by have:=Pn U6;rw[Bj,Nat.mul_one]at this;exact this)))
    go_wp2_with (refine wpList_copy_splice rfl (.tmp 60) (.tmp 64) 163 163 rfl 4 underlying163 VX.out _ _ _ _ _ _ rfl rfl W7.heap.size 0 (List.replicate (es.length+1) (Value.bool false)) 4 hh8.out (bools kn) hmin.out (λhp=>⟨rfl,hsrc.out _ VY hp⟩) hfit.out hone.out W7.heap.size W7 VY (Nat.le_refl _) ?_;intro w9 TN hB9;have hms:=IW hkl TN.out;have hc9:=hms.2;have hT9:Hid (Tagged w9 W7.heap.size 4):=⟨_,TN.out⟩;have hf9:=hT9.out.frozen);have VZ:Below W7.heap.size W7 (w9.setCell ⟨W7.heap.size,es.length,none⟩ (.bool true)):=hB9.setCell (p:=⟨W7.heap.size,es.length,none⟩) (Nat.le_refl _) _;have H10:=H7.out.below VZ;have HW:=write_any _ c rb _ fv av room _ _ _ au H10 k hk _ (dN kn es.length) hms.1 (by rw[iT _ _ hkl];simp) pq true;have YH:Hid (ay (λx=>x=c\/x=rb\/bU.ownBlock=some x) w1 (w9.setCell ⟨W7.heap.size,es.length,none⟩ (.bool true))):=hw7.out.below VZ;clear hms hc9 hf9 hB9 TN H10 hh8 VY a08 a0 q2 hg8 U6;generalize w9.setCell ⟨W7.heap.size,es.length,none⟩ (.bool true)=lN at *;refine Calls.mono HW ?_;clear HW;rintro e Ij⟨rfl,H11,YI⟩;have r3:=H11.f3;have rf:=H11.tc.frozen;have hA:Hid (bC (Ij.setCell ⟨c,3,none⟩ (.int .i64 ((es.length+1:Nat):Int))) c rb (.slice (some ⟨g6,0,none⟩) (es.length+1) c6) fv av room (es++[⟨p,ch.act,v,ch.n,kn⟩]) (es.length+1) (most+1) (au.set k (dN kn es.length))):=H11.accept (es.length+1) (by omega);have ae2:Hid (ay (λx=>x=c\/x=rb\/bU.ownBlock=some x) w1 Ij):=YH.out.trans' YI (λx _ h=>Or.inr (Or.inl h));clear YI H11 YH VZ;go_wp2;go_ret;refine⟨0,_,es++[⟨p,ch.act,v,ch.n,kn⟩],au.set k (dN kn es.length),rfl, ?_, ?_, ?_,YG.out⟩
    ·have hd:=fE.done (es:=es) (au:=au) (i:=(k:Int)) (s:=ah s) ch ⟨p,ch.act,v,ch.n,kn⟩ hi Hr.out (by omega) Hp.out rfl Hv.out rfl (by simp only[Int.toNat_natCast];exact Hkn.out.symm);simp only[Int.toNat_natCast]at hd;rw[Hkn.out]at hd;exact hd
    ·have h1:(es++[(⟨p,ch.act,v,ch.n,kn⟩:Ev)]).length=es.length+1:=by simp
     rw[h1,show es.length+1-es.length=1 by omega];exact hA.out
    ·exact ae2.out.setCell (p:=⟨c,3,none⟩) (Or.inl rfl) _
 ·go_enter func116,ntmps116;go_wp2_with fail;refine(nG w c rb bU fv av room es _ _ au H.out i).mono ?_;rintro e w1⟨rfl,hw1⟩;subst hw1;rw[if_neg hi];go_wp2;go_ret;exact⟨2,bU,es,au,rfl,.rep hi,by rw[Nat.sub_self,Nat.add_zero];exact H.out,ay.refl _ _,Or.inl rfl⟩
