import Derived.Test.YtfmmllpjgkgeaaaGreatDoorPartV04
set_option linter.unusedVariables false
set_option linter.unusedSimpArgs false
set_option maxHeartbeats 16000000
set_option maxRecDepth 100000
namespace Go.Proofs.YtfmmllpjgkgeaaaGreatDoor
open Go.RowKit

section
variable {es:List Ev} {knowns:List (List Bool)} {i:Int} {s:Thk.Bs}
end

theorem RefDo_any (w:World) (c rb:Nat) (evv fv:Value) (av:Nat->Value) (room:Nat) (es:List Ev) (most:Nat) (hmost:most+1<=1000) (knowns:List (List Bool)) (h:RefAt w c rb evv fv av room es es.length most knowns) (i:Int) (s:ByteArray) (hs:s.size<=1048576) :
  Calls Tryz.prog 116 #[.pointer (some ⟨c,0,none⟩),.int .i64 i,.string s] w fun e w' =>
   ∃ (r:Int) (evv':Value) (es':List Ev) (knowns':List (List Bool)),e=.returned (.int .i64 r)/\DoOut es knowns i (toL s) r es' knowns'/\RefAt w' c rb evv' fv av room es' es'.length (most+(es'.length-es.length)) knowns' /\
    Chg (fun x=>x=c\/x=rb\/evv.ownBlock=some x) w w'/\(evv'.ownBlock=evv.ownBlock\/∃ g,evv'.ownBlock=some g/\w.heap.size<=g):=by
 have H:Hid (RefAt w c rb evv fv av room es es.length most knowns):=h
 clear h
 by_cases hi:0<=i/\i<knowns.length
 ·obtain ⟨k,rfl⟩:=Int.eq_ofNat_of_zero_le hi.1
  have hk:k<knowns.length:=by omega
  go_enter Tryz.func116,Tryz.ntmps116
  go_wp2_with fail
  refine (Up_any w c rb evv fv av room es _ _ knowns H.out (k:Int)).mono ?_
  rintro e w1 ⟨rfl,hw1⟩
  subst hw1
  rw[if_pos hi]
  go_wp2_with fail
  refine (Read_any s _ hs).mono ?_
  rintro e w2 ⟨he,hb2⟩
  have H2:Hid (RefAt w2 c rb evv fv av room es es.length most knowns):=H.out.below hb2
  cases hr:Thk.read (toL s) with
  | inl m =>
   rw[hr] at he
   have he':e=.returned (.tuple #[zeroEv,.int .i64 (m:Int)]):=he
   subst he'
   have hm0:Hid (0<m/\m<=6):=Thk.read_err _ _ hr
   have hm1:=hm0.out.1
   have hm2:=hm0.out.2
   have hmb:((m:Int) != 0)=true:=by rw[bne_iff_ne];omega
   have Hr:Hid (_):=hr
   clear hr he
   go_wp2
   go_ret
   refine ⟨m,evv,es,knowns,rfl,.bad m hi Hr.out, ?_, ?_,Or.inl rfl⟩
   ·rw[Nat.sub_self,Nat.add_zero];exact H2.out.below ((Below.refl _ _).alloc (Nat.le_refl _) _)
   ·exact Chg.of_below (hb2.trans (((Below.refl _ _).alloc (Nat.le_refl _) _).mono hb2.size))
  | inr ch =>
   rw[hr] at he
   obtain ⟨p,v,rfl,hp,hv⟩:=he
   have Hr:Hid (_):=hr
   have Hok:Hid (_):=Thk.read_ok _ _ hr
   have Hp:Hid (_):=hp
   have Hv:Hid (_):=hv
   clear hr hp hv
   have f3:=H2.out.f3
   obtain ⟨cap,f1,hcap⟩:=H2.out.f1
   have hn5:=H2.out.n500
   have h6:=H2.out.n6
   have hcl:=H2.out.tc.lt
   have hrl:=H2.out.trb.lt
   have f3A:∀ o,(w2.alloc o).cell? ⟨c,3,none⟩=some (.int .i64 (es.length:Int)):=fun o=>(((Below.refl _ w2).alloc (Nat.le_refl _) o).cell (p:=⟨c,3,none⟩) hcl).trans f3
   have f1A:∀ o,(w2.alloc o).cell? ⟨c,1,none⟩=some (.slice (some ⟨rb,0,none⟩) knowns.length cap):=fun o=>(((Below.refl _ w2).alloc (Nat.le_refl _) o).cell (p:=⟨c,1,none⟩) hcl).trans f1
   by_cases hfull:500<=es.length
   ·go_wp2
    go_ret
    refine ⟨7,evv,es,knowns,rfl,.full ch hi Hr.out hfull, ?_, ?_,Or.inl rfl⟩
    ·rw[Nat.sub_self,Nat.add_zero];exact H2.out.below ((Below.refl _ _).alloc (Nat.le_refl _) _)
    ·exact Chg.of_below (hb2.trans (((Below.refl _ _).alloc (Nat.le_refl _) _).mono hb2.size))
   ·go_upto_region 10 with fail
    have hb3:Hid (Below w2.heap.size w2 (w2.alloc (.cells #[.string p,.int .u8 (ch.act.toNat:Int),.string v,.int .i64 ch.n,.slice none 0 0] 239))):=(Below.refl _ _).alloc (Nat.le_refl _) _
    have H3:Hid (RefAt (w2.alloc (.cells #[.string p,.int .u8 (ch.act.toNat:Int),.string v,.int .i64 ch.n,.slice none 0 0] 239)) c rb evv fv av room es es.length most knowns):=H2.out.below hb3.out
    have hE:Hid (Blk5 w2.heap.size (.string p) (.int .u8 (ch.act.toNat:Int)) (.string v) (.int .i64 ch.n) (.slice none 0 0) (w2.alloc (.cells #[.string p,.int .u8 (ch.act.toNat:Int),.string v,.int .i64 ch.n,.slice none 0 0] 239))):=blk5 (Below.refl (w2.heap.size+1) _) (by omega)
    have hTe:Hid (Tagged (w2.alloc (.cells #[.string p,.int .u8 (ch.act.toNat:Int),.string v,.int .i64 ch.n,.slice none 0 0] 239)) w2.heap.size 239):=⟨_,heap_alloc_new w2 _⟩
    have hlt3:w2.heap.size<(w2.alloc (.cells #[.string p,.int .u8 (ch.act.toNat:Int),.string v,.int .i64 ch.n,.slice none 0 0] 239)).heap.size:=by simp
    have hw23:Hid (Chg (fun x=>x=c\/x=rb\/evv.ownBlock=some x) w1 (w2.alloc (.cells #[.string p,.int .u8 (ch.act.toNat:Int),.string v,.int .i64 ch.n,.slice none 0 0] 239))):=Chg.of_below (hb2.trans (hb3.out.mono hb2.size))
    have hevlt:Hid (∀ g,evv.ownBlock=some g->g<w2.heap.size):=fun g hg=>(H2.out.evLt g hg).1
    have hw1s:Hid (w1.heap.size<=(w2.alloc (.cells #[.string p,.int .u8 (ch.act.toNat:Int),.string v,.int .i64 ch.n,.slice none 0 0] 239)).heap.size):=hw23.out.size
    have hw1e:Hid (w1.heap.size<=w2.heap.size):=hb2.size
    clear f3 f1 f3A f1A hcl hrl H2 hb3 hb2
    generalize w2.alloc (.cells #[.string p,.int .u8 (ch.act.toNat:Int),.string v,.int .i64 ch.n,.slice none 0 0] 239)=W3 at *
    generalize w2.heap.size=e0 at *
    obtain ⟨⟨kv,a0,b0⟩,_⟩:=H3.out.reps k hk
    have Hkn:Hid (knowns.getD k []=knowns[k]):=by unfold Hid;simp[List.getElem?_eq_getElem hk]
    have hkl:=H3.out.kn _ (List.getElem_mem hk)
    generalize hkn:knowns[k]=kn at *
    obtain ⟨i4,hi4,hz40,hz41,hz42⟩:=info_parts Tryz.info4
    have hbl:(bools kn).length=kn.length:=by simp[bools]
    have hfz:=hE.out.f
    have hrl3:=H3.out.trb.lt
    have hcl3:=H3.out.tc.lt
    have a0A:∀ o,(W3.alloc o).cell? ⟨rb,k*13,none⟩=some kv:=fun o=>(((Below.refl _ W3).alloc (Nat.le_refl _) o).cell (p:=⟨rb,k*13,none⟩) hrl3).trans a0
    have e4A:∀ o,(W3.alloc o).cell? ⟨e0,4,none⟩=some (.slice none 0 0):=fun o=>(((Below.refl _ W3).alloc (Nat.le_refl _) o).cell (p:=⟨e0,4,none⟩) hlt3).trans hE.out.c4
    have fzA:∀ o j,(W3.alloc o).frozen? ⟨e0,j,none⟩=false:=fun o j=>(((Below.refl _ W3).alloc (Nat.le_refl _) o).frozen (p:=⟨e0,j,none⟩) hlt3).trans (hfz j)
    go_cut [] from 37 to 43 (fun wx=>∃ so sc,Blk5 e0 (.string p) (.int .u8 (ch.act.toNat:Int)) (.string v) (.int .i64 ch.n) (.slice so kn.length sc) wx/\Chg (fun x=>x=e0) W3 wx/\SliceT 4 wx (.slice so kn.length sc) (bools kn))
    case first =>
     rcases b0 with ⟨rfl,hnil⟩ | ⟨pb,po,pc,rfl,hpc,hpt,hpcells⟩
     ·have hkn0:kn=[]:=by simpa[bools] using hnil
      subst hkn0
      have e4:=hE.out.c4
      go_wp2_with (at_builtin;refine wpList_append_own_none rfl (.tmp 37) (.tmp 41) 163 rfl W3.heap.size 4 i4 1 Tryz.underlying163 hi4 (.slice (some ⟨_,0,none⟩) 0 0) 0 [] rfl (own_lit0 _ _ rfl (Nat.le_refl _)) rfl ?_)
      go_meet
      rw[<- World.setCell_alloc_past _ e0 4 _ hlt3]
      have hbA:Below W3.heap.size W3 (W3.alloc (.cells #[] 4)):=(Below.refl _ _).alloc (Nat.le_refl _) _
      obtain ⟨z1,z2⟩:=setA hE.out hTe.out hbA (.slice (some ⟨W3.heap.size,0,none⟩) 0 0)
      exact ⟨_,_,z1,z2,SliceT.chgT (s:=239) (own_sliceT (own_lit0 (e:=4) (base:=0) W3 _ rfl (Nat.zero_le _))) ((Chg.refl (fun x=>x=e0) _).setCell (p:=⟨e0,4,none⟩) rfl _) (hTe.out.below hbA) (by decide)⟩
     ·have hsrc:Hid (∀ wx,Below W3.heap.size W3 wx->∀ j u,(bools kn)[j]? = some u->wx.cell? ((⟨pb,po,none⟩:Addr).add j)=some u):=by
       intro wx hwx j u hj
       have hjl:j<(bools kn).length:=by
        rcases Nat.lt_or_ge j (bools kn).length with h | h
        ·exact h
        ·rw[List.getElem?_eq_none h] at hj;cases hj
       have he:(⟨pb,po,none⟩:Addr).add j=⟨pb,po+j,none⟩:=by unfold Addr.add;split <;> simp_all
       rw[he,hwx.cell (p:=⟨pb,po+j,none⟩) hpt.lt,hpcells j hjl]
       rw[List.getElem?_eq_getElem hjl] at hj;exact hj
      have hone:Hid (∀ u∈bools kn,u.oneCell'=true):=by intro u hu;simp[bools] at hu;rcases hu with ⟨_,rfl⟩ | ⟨_,rfl⟩ <;> rfl
      clear hpcells
      rw[hbl] at *
      go_wp2_with (at_builtin;go_loud (refine wpList_append_own _ rfl (.tmp 37) (.tmp 41) 163 rfl W3.heap.size 4 i4 (.bool false) 1 1 Tryz.underlying163 hi4 hz40 hz41 hz42 rfl (by decide) (.slice (some ⟨_,0,none⟩) 0 0) 0 [] rfl (own_lit0 _ _ rfl (Nat.le_refl _)) ⟨pb,po,none⟩ kn.length pc (bools kn) rfl (by simp[bools]) (hsrc.out _ ((Below.refl _ _).alloc (Nat.le_refl _) _)) hone.out (by unfold maxLen;omega) (by omega) (by simp) ?_;intro v5 w5 hown5 hg5 _;have hB5:Below W3.heap.size W3 w5:=((Below.refl _ _).alloc (Nat.le_refl _) _).grown hg5 (by simp) (fun kk hkk=>by simp[Value.ownBlock] at hkk;omega);obtain ⟨so5,sc5,rfl,_⟩:=(own_sliceT hown5).shape;have c45:=(hB5.cell (p:=⟨e0,4,none⟩) hlt3).trans hE.out.c4;have f45:=fun j=>(hB5.frozen (p:=⟨e0,j,none⟩) hlt3).trans (hfz j)))
      go_meet
      have hs5:SliceT 4 w5 (.slice so5 (bools kn).length sc5) (bools kn):=by have:=own_sliceT hown5;simpa using this
      have e:(bools kn).length=kn.length:=by simp[bools]
      obtain ⟨z1,z2⟩:=setA hE.out hTe.out hB5 (.slice so5 (bools kn).length sc5)
      have z3:=SliceT.chgT (s:=239) hs5 ((Chg.refl (fun x=>x=e0) _).setCell (p:=⟨e0,4,none⟩) rfl (.slice so5 (bools kn).length sc5)) (hTe.out.below hB5) (by decide)
      rw[e] at z1 z2 z3 ⊢
      exact ⟨so5,sc5,z1,z2,z3⟩
    case rest =>
    obtain ⟨so,sc,hE5,hc5,hs5⟩:=hcut
    have hne0:∀ g,evv.ownBlock=some g->g≠e0:=fun g hg=>Nat.ne_of_lt (hevlt.out g hg)
    have hce:c≠e0:=H3.out.tc.ne hTe.out (by decide)
    have hre:rb≠e0:=H3.out.trb.ne hTe.out (by decide)
    have H5:Hid (RefAt wc c rb evv fv av room es es.length most knowns):=H3.out.chg hc5 hce hre hne0 (fun b hb=>hb.ne hTe.out (by decide)) (IntsKept.of_chg hc5 (fun b hb=>hb.ne hTe.out (by decide)))
    have hE5s:Hid (Blk5 e0 (.string p) (.int .u8 (ch.act.toNat:Int)) (.string v) (.int .i64 ch.n) (.slice so kn.length sc) wc):=hE5
    have hs5s:Hid (SliceT 4 wc (.slice so kn.length sc) (bools kn)):=hs5
    have hw5:Hid (Chg (fun x=>x=c\/x=rb\/evv.ownBlock=some x) w1 wc):=hw23.out.trans' hc5 (fun x hx h=>by subst h;have:=hw1e.out;omega)
    have hw5s:Hid (w1.heap.size<=wc.heap.size):=hw5.out.size
    clear hE hTe hlt3 hw23 hw1s H3 a0 b0 hfz hrl3 hcl3 a0A e4A fzA hc5 hs5 hne0 hbl
    generalize wc=W5 at *
    obtain ⟨svs,hsl,hown,hsvs⟩:=H5.out.evs
    have Hsvs:Hid (∀ j (h:j<svs.length) (h':j<es.length),SliceT 4 W5 svs[j] (bools es[j].saw)):=hsvs
    have Hown:Hid (W5.ownsRow 0 239 5 evv es.length (evCells es svs)):=hown
    have g2:=H5.out.f2
    obtain ⟨d0,d1,d2,d3,d4,df⟩:=hE5
    have htc:=H5.out.tc
    have hcf:=htc.frozen
    have hcl5:=htc.lt
    have Hcdisj:Hid (∀ x,evv.ownBlock=some x->x≠c):=fun x hx=>(H5.out.evLt x hx).2.ne htc (by decide)
    obtain ⟨iE,hiE,hzE0,hzE1,hzE2⟩:=info_parts Tryz.infoEv
    have hone5:Hid (∀ u∈[Value.string p,.int .u8 (ch.act.toNat:Int),.string v,.int .i64 ch.n,.slice so kn.length sc],u.oneCell'=true):=by
     intro u hu;simp at hu;rcases hu with rfl | rfl | rfl | rfl | rfl <;> rfl
    have m1:Hid (es.length+1<=maxLen):=by unfold Hid maxLen;omega
    have m2:Hid ((es.length+1)*72<=140737488355328):=by unfold Hid;omega
    clear hsvs hown htc
    go_wp2_with fail
    go_cut [] from 44 to 53 (fun wx=>∃ w6 evv',wx=w6.setCell ⟨c,2,none⟩ evv'/\Chg (fun x=>evv.ownBlock=some x) W5 w6/\w6.ownsRow 0 239 5 evv' (es.length+1) (evCells es svs ++ [.string p,.int .u8 (ch.act.toNat:Int),.string v,.int .i64 ch.n,.slice so kn.length sc])/\(evv'.ownBlock=evv.ownBlock\/∃ g,evv'.ownBlock=some g/\W5.heap.size<=g))
    case first =>
     go_region_law (refine step_append_row rfl (.tmp 48) (.tmp 50) 167 rfl 239 iE zeroEv 5 72 Tryz.underlying167 hiE hzE0 hzE1 hzE2 rfl (by decide) evv es.length (evCells es svs) rfl ?_ _ 1 1 [.string p,.int .u8 (ch.act.toNat:Int),.string v,.int .i64 ch.n,.slice so kn.length sc] rfl rfl ?_ hone5.out m1.out m2.out (Nat.succ_pos _) ?_;(exact Hown.out.alloc _);(intro j u hj;match j,hj with | 0,hj=>(cases hj;simp[Addr.add]) | 1,hj=>(cases hj;simp[Addr.add]) | 2,hj=>(cases hj;simp[Addr.add]) | 3,hj=>(cases hj;simp[Addr.add]) | 4,hj=>(cases hj;simp[Addr.add]));intro g6 c6 w6 hown6 hg6 hnew6;have hC6:Chg (fun x=>evv.ownBlock=some x) W5 w6:=Chg.grown (Chg.of_below (by go_grown)) hg6 (fun k hk=>Or.inl hk);have k2:=(World.cell?_of_block (w:=W5) (a:=⟨c,2,none⟩) (hC6.block c hcl5 (fun h=>Hcdisj.out c h rfl))).trans g2;have kf:∀ j,w6.frozen? ⟨c,j,none⟩=false:=fun j=>(World.frozen?_of_block (w:=W5) (a:=⟨c,j,none⟩) (hC6.block c hcl5 (fun h=>Hcdisj.out c h rfl))).trans (hcf j))
     all_goals
      go_wp2_with fail
      go_meet
      refine ⟨_,_,rfl,hC6,hown6, ?_⟩
      rcases hnew6 with h | h
      ·exact Or.inl h.symm
      ·refine Or.inr ⟨g6,rfl, ?_⟩
       simp at h;omega
    case rest =>
    obtain ⟨w6,evv',rfl,hC6,hown6,hnew⟩:=hcut
    obtain ⟨g6,c6,rfl⟩:=own_some hown6 (by omega)
    have hok:EvOk ⟨p,ch.act,v,ch.n,kn⟩:=by
     have ho:=Hok.out
     have h1:p.size=ch.path.length:=by rw[<- toL_length,Hp.out]
     have h2:v.size=ch.val.length:=by rw[<- toL_length,Hv.out]
     exact ⟨by simp only[];omega,by simp only[];omega,ho.2.2.1,ho.2.2.2.1,by simp only[];omega⟩
    have H7:Hid (RefAt (w6.setCell ⟨c,2,none⟩ (.slice (some ⟨g6,0,none⟩) (es.length+1) c6)) c rb (.slice (some ⟨g6,0,none⟩) (es.length+1) c6) fv av room (es ++ [⟨p,ch.act,v,ch.n,kn⟩]) es.length most knowns):=H5.out.more hC6 ⟨p,ch.act,v,ch.n,kn⟩ hok (.slice so kn.length sc) hs5s.out svs hsl Hsvs.out (by omega) hown6
    have hw7:Hid (Chg (fun x=>x=c\/x=rb\/evv.ownBlock=some x) w1 (w6.setCell ⟨c,2,none⟩ (.slice (some ⟨g6,0,none⟩) (es.length+1) c6))):=(hw5.out.trans' hC6 (fun x _ hx=>Or.inr (Or.inr hx))).setCell (p:=⟨c,2,none⟩) (Or.inl rfl) _
    have hnew7:Hid ((Value.slice (some ⟨g6,0,none⟩) (es.length+1) c6).ownBlock=evv.ownBlock\/∃ g,(Value.slice (some ⟨g6,0,none⟩) (es.length+1) c6).ownBlock=some g/\w1.heap.size<=g):=by
     rcases hnew with h | ⟨g,h1,h2⟩
     ·exact Or.inl h
     ·exact Or.inr ⟨g,h1,Nat.le_trans hw5s.out h2⟩
    clear hC6 hown6 hnew hok H5 hE5s hs5s hw5 hw5s Hsvs Hown g2 d0 d1 d2 d3 d4 df hcf hcl5 Hcdisj hone5 m1 m2 hiE hzE0 hzE1 hzE2
    generalize w6.setCell ⟨c,2,none⟩ (.slice (some ⟨g6,0,none⟩) (es.length+1) c6)=W7 at *
    have q2:=H7.out.f2
    obtain ⟨⟨kv,a0,b0⟩,_⟩:=H7.out.reps k hk
    rw[hkn] at b0
    have hrl:=H7.out.trb.lt
    have hcl:=H7.out.tc.lt
    have a0B:∀ wx,Below W7.heap.size W7 wx->wx.cell? ⟨rb,k*13,none⟩=some kv:=fun wx hx=>(hx.cell (p:=⟨rb,k*13,none⟩) hrl).trans a0
    have HaB:Hid (_):=a0B
    have Hb0:Hid (SliceT 4 W7 kv (bools kn)):=b0
    obtain ⟨ko,kc,rfl,hkc⟩:=b0.shape
    clear a0B
    have hcsl:(bools kn).length=kn.length:=by simp[bools]
    have hsrc:Hid (∀ wx,Below W7.heap.size W7 wx->0<(bools kn).length->∃ ad,ko=some ad/\∀ j u,(bools kn)[j]? = some u->wx.cell? (ad.add j)=some u):=by
     intro wx hwx hpos
     rcases Hb0.out with ⟨h1,h2⟩ | ⟨pb,po,pc,h1,hpc,hpt,hpcells⟩
     ·rw[h2] at hpos;simp at hpos
     ·simp only[Value.slice.injEq] at h1
      refine ⟨⟨pb,po,none⟩,h1.1,fun j u hj=>?_⟩
      have hjl:j<(bools kn).length:=by
       rcases Nat.lt_or_ge j (bools kn).length with h | h
       ·exact h
       ·rw[List.getElem?_eq_none h] at hj;cases hj
      have he:(⟨pb,po,none⟩:Addr).add j=⟨pb,po+j,none⟩:=by unfold Addr.add;split <;> simp_all
      rw[he,hwx.cell (p:=⟨pb,po+j,none⟩) hpt.lt,hpcells j hjl]
      rw[List.getElem?_eq_getElem hjl] at hj;exact hj
    have hone:Hid (∀ u∈bools kn,u.oneCell'=true):=by intro u hu;simp[bools] at hu;rcases hu with ⟨_,rfl⟩ | ⟨_,rfl⟩ <;> rfl
    have hmin:Hid ((bools kn).length=Nat.min kn.length (es.length+1)):=hcsl.trans (Nat.min_eq_left (by omega)).symm
    have hsz4:Hid ((Tryz.prog.info? 4).map (·.size)=some 1):=by unfold Hid;rw[hi4];simp[hz41]
    have hb4:Hid (i4.bytes*(es.length+1)<=281474976710656):=by unfold Hid;rw[hz42];omega
    have hm4:Hid (es.length+1<=maxLen):=by unfold Hid maxLen;omega
    have hfit:Hid (0+(bools kn).length<=(List.replicate (es.length+1) (Value.bool false)).length):=by unfold Hid;simp;omega
    go_upto_region 13 with (at_make;(refine wpList_make_full _ rfl (.tmp 58) (.tmp 58) 163 rfl W7.heap.size 4 i4 (.bool false) 1 Tryz.underlying163 hi4 hz40 hz41 .i64 .i64 _ _ (es.length+1) rfl rfl (by first | rfl | omega) (by first | rfl | omega) hb4.out hm4.out (Nat.le_refl _) ?_;intro w8 hown8 hg8;have hB8:Below W7.heap.size W7 w8:=(Below.refl _ _).grown hg8 (Nat.le_refl _) (fun kk hkk=>by cases hkk);have a08:=HaB.out _ hB8;have hh8:Hid (w8.heap[W7.heap.size]? = some (.cells (List.replicate (es.length+1) (Value.bool false)).toArray 4 (0,0))):=(by have:=own_full hown8;rw[made_bool,Nat.mul_one] at this;exact this)))
    go_wp2_with (refine wpList_copy_splice rfl (.tmp 60) (.tmp 64) 163 163 rfl 4 Tryz.underlying163 hsz4.out _ _ _ _ _ _ rfl rfl W7.heap.size 0 (List.replicate (es.length+1) (Value.bool false)) 4 hh8.out (bools kn) hmin.out (fun hp=>⟨rfl,hsrc.out _ hB8 hp⟩) hfit.out hone.out W7.heap.size W7 hB8 (Nat.le_refl _) ?_;intro w9 hg9 hB9;have hms:=more_slice hkl hg9.out;have hc9:=hms.2;have hT9:Hid (Tagged w9 W7.heap.size 4):=⟨_,hg9.out⟩;have hf9:=hT9.out.frozen)
    have hB10:Below W7.heap.size W7 (w9.setCell ⟨W7.heap.size,es.length,none⟩ (.bool true)):=hB9.setCell (p:=⟨W7.heap.size,es.length,none⟩) (Nat.le_refl _) _
    have H10:=H7.out.below hB10
    have HW:=write_any _ c rb _ fv av room _ _ _ knowns H10 k hk _ (moreOf kn es.length) hms.1 (by rw[moreOf_length _ _ hkl];simp) hmost true
    have hw10:Hid (Chg (fun x=>x=c\/x=rb\/evv.ownBlock=some x) w1 (w9.setCell ⟨W7.heap.size,es.length,none⟩ (.bool true))):=hw7.out.below hB10
    clear hms hc9 hf9 hB9 hg9 H10 hh8 hB8 a08 a0 q2 hg8 hown8
    generalize w9.setCell ⟨W7.heap.size,es.length,none⟩ (.bool true)=W10 at *
    refine Calls.mono HW ?_
    clear HW
    rintro e w11 ⟨rfl,H11,hc11⟩
    have r3:=H11.f3
    have rf:=H11.tc.frozen
    have hA:Hid (RefAt (w11.setCell ⟨c,3,none⟩ (.int .i64 ((es.length+1:Nat):Int))) c rb (.slice (some ⟨g6,0,none⟩) (es.length+1) c6) fv av room (es ++ [⟨p,ch.act,v,ch.n,kn⟩]) (es.length+1) (most+1) (knowns.set k (moreOf kn es.length))):=H11.accept (es.length+1) (by omega)
    have hW11:Hid (Chg (fun x=>x=c\/x=rb\/evv.ownBlock=some x) w1 w11):=hw10.out.trans' hc11 (fun x _ h=>Or.inr (Or.inl h))
    clear hc11 H11 hw10 hB10
    go_wp2
    go_ret
    refine ⟨0,_,es ++ [⟨p,ch.act,v,ch.n,kn⟩],knowns.set k (moreOf kn es.length),rfl, ?_, ?_, ?_,hnew7.out⟩
    ·have hd:=DoOut.done (es:=es) (knowns:=knowns) (i:=(k:Int)) (s:=toL s) ch ⟨p,ch.act,v,ch.n,kn⟩ hi Hr.out (by omega) Hp.out rfl Hv.out rfl (by simp only[Int.toNat_natCast];exact Hkn.out.symm)
     simp only[Int.toNat_natCast] at hd
     rw[Hkn.out] at hd
     exact hd
    ·have h1:(es ++ [(⟨p,ch.act,v,ch.n,kn⟩:Ev)]).length=es.length+1:=by simp
     rw[h1,show es.length+1-es.length=1 by omega];exact hA.out
    ·exact hW11.out.setCell (p:=⟨c,3,none⟩) (Or.inl rfl) _
 ·go_enter Tryz.func116,Tryz.ntmps116
  go_wp2_with fail
  refine (Up_any w c rb evv fv av room es _ _ knowns H.out i).mono ?_
  rintro e w1 ⟨rfl,hw1⟩
  subst hw1
  rw[if_neg hi]
  go_wp2
  go_ret
  exact ⟨2,evv,es,knowns,rfl,.rep hi,by rw[Nat.sub_self,Nat.add_zero];exact H.out,Chg.refl _ _,Or.inl rfl⟩

end Go.Proofs.YtfmmllpjgkgeaaaGreatDoor

