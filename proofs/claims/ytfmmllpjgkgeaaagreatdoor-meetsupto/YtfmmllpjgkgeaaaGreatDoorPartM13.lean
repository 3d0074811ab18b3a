import Derived.Test.YtfmmllpjgkgeaaaGreatDoorPartM12
set_option linter.unusedVariables false
set_option linter.unusedSimpArgs false
set_option maxHeartbeats 16000000
set_option maxRecDepth 100000
namespace Go.Proofs.YtfmmllpjgkgeaaaGreatDoor
open Go.RowKit Go.Deep
theorem Qa{w:World}{b:Nat}{x0 x1 x2 x3 x4 x5 x6 x7 x8 u0 u1 u2 u3 u4 u5 u6 u7 u8:Value}{t:TypeId}(h:aA w b #[x0,x1,x2,x3,x4,x5,x6,x7,x8] t):aA (((((((((w.setCell ⟨b,0,none⟩ u0).setCell ⟨b,1,none⟩ u1).setCell ⟨b,2,none⟩ u2).setCell ⟨b,3,none⟩ u3).setCell ⟨b,4,none⟩ u4).setCell ⟨b,5,none⟩ u5).setCell ⟨b,6,none⟩ u6).setCell ⟨b,7,none⟩ u7).setCell ⟨b,8,none⟩ u8) b #[u0,u1,u2,u3,u4,u5,u6,u7,u8] t:=by unfold aA at h⊢;simp[World.setCell,Array.getElem?_modify,h]
theorem WC{w w':World}{u0 u1 u2 u3 u4 u5 u6 u7 u8:Value}(h:Below w.heap.size w w'):Below w.heap.size w (((((((((w'.setCell ⟨w.heap.size,0,none⟩ u0).setCell ⟨w.heap.size,1,none⟩ u1).setCell ⟨w.heap.size,2,none⟩ u2).setCell ⟨w.heap.size,3,none⟩ u3).setCell ⟨w.heap.size,4,none⟩ u4).setCell ⟨w.heap.size,5,none⟩ u5).setCell ⟨w.heap.size,6,none⟩ u6).setCell ⟨w.heap.size,7,none⟩ u7).setCell ⟨w.heap.size,8,none⟩ u8) :=
 ((((((((h.setCell (p:=⟨w.heap.size,0,none⟩) (Nat.le_refl _) _).setCell (p:=⟨w.heap.size,1,none⟩) (Nat.le_refl _) _).setCell (p:=⟨w.heap.size,2,none⟩) (Nat.le_refl _) _).setCell (p:=⟨w.heap.size,3,none⟩) (Nat.le_refl _) _).setCell (p:=⟨w.heap.size,4,none⟩) (Nat.le_refl _) _).setCell (p:=⟨w.heap.size,5,none⟩) (Nat.le_refl _) _).setCell (p:=⟨w.heap.size,6,none⟩) (Nat.le_refl _) _).setCell (p:=⟨w.heap.size,7,none⟩) (Nat.le_refl _) _).setCell (p:=⟨w.heap.size,8,none⟩) (Nat.le_refl _) _
def MS(w:World)(ab o:Nat):Option Int->World
 | some u=>w.setCell ⟨ab,o,none⟩ (.int .i64 u)
 | none=>w
theorem Jt(w:World)(c rb:Nat)(bU fv:Value)(av:Nat->Value)(room:Nat)(es:List Ev)(acc most:Nat)(au:List (List Bool))(h:bC w c rb bU fv av room es acc most au)(fs:List oZ)(hf:gB w fv fs)(k:Nat)(hk:k<fs.length)(hd:fs[k].dst<au.length)(hs:fs[k].src<au.length)(h5:fs.length<=500)(m:Nat)(hm:m<fs.length)(ha:fs[k].ack=m+1)(ab:Nat)(hav:av fs[k].dst=.slice (some ⟨ab,0,none⟩) au.length au.length)(kl:List Int)(hkl:kl.length=au.length)(hsl:aF 3 w (.slice (some ⟨ab,0,none⟩) au.length au.length) (ints kl)):Calls Tryz.prog 114 #[.pointer (some ⟨c,0,none⟩),.int .i64 ((k:Int)+1)] w λe w'=>e=.returned (.tuple #[.int .i64 0,.int .i64 0])/\bC w' c rb bU fv av room es acc most au/\gB w' fv fs/\ay (λx=>x=ab\/fv.ownBlock=some x) w w'/\aH w w':=by
 obtain⟨fb,cap,fc,ko,kc,made,ho,hn,hc,lost,had,mo,hfv,hfc,hcap,D⟩:=WA h hf k hk hd;obtain⟨c1,c4,dn,r0,r1,r2,r3,r4,r5,r6,r7,r8,_⟩:=D;have hdm:fs[m].dst<au.length\/¬fs[m].dst<au.length:=Classical.em _;have h6:=h.n6;have hcl:=h.tc.lt;have hrl:=h.ng.lt;have a11:=h.a11 _ hd;rw[hav]at a11;obtain⟨ab',off',cap',he,hle',hcm⟩:=hsl.P6 (a:=fs[k].src) (by omega);simp only[Value.slice.injEq,Option.some.injEq,Addr.mk.injEq]at he;obtain⟨⟨rfl,rfl,-⟩,-,rfl⟩:=he;rw[Nat.zero_add]at hcm;generalize kl[fs[k].src]'(by omega)=KX at hcm;have FK:Tagged w ab 3:=by
  rcases hsl with⟨e1,_⟩|⟨b,off,cap,e1,_,e3,_⟩
  ·cases e1
  ·simp only[Value.slice.injEq,Option.some.injEq,Addr.mk.injEq]at e1;obtain⟨⟨rfl,_⟩,_⟩:=e1;exact e3
 -- the frame that is DI
 obtain⟨xs,x1,x2,x3⟩:=hf;have hm':m<xs.length:=by omega
 rw[hfv]at x2;have hce:∀j,j<9->w.cell? ⟨fb,m*9+j,none⟩=(jW fs[m] xs[m])[j]?:=λj hj=>by rw[x2.cellAt (m*9+j) (by omega),lq fs xs m hm hm' j hj]
 obtain⟨WE,WG,hmk,_⟩:=(x3 m hm hm').kn.shape;obtain⟨l2,l2a,_⟩:=(x3 m hm hm').al;obtain⟨WH,WI,Zq,_⟩:=l2a.shape;have y0:w.cell? ⟨fb,m*9,none⟩=some (.int .i64 (fs[m].src)):=hce 0 (by omega);have y1:w.cell? ⟨fb,m*9+1,none⟩=some (.int .i64 (fs[m].dst)):=hce 1 (by omega);have y2:w.cell? ⟨fb,m*9+2,none⟩=some (.int .i64 (fs[m].ack)):=hce 2 (by omega);have y3:w.cell? ⟨fb,m*9+3,none⟩=some (.slice WE (bools fs[m].known).length WG):=by rw[<- hmk];exact hce 3 (by omega)
 have y4:w.cell? ⟨fb,m*9+4,none⟩=some (.int .i64 xs[m].made):=hce 4 (by omega);have y5:w.cell? ⟨fb,m*9+5,none⟩=some (.slice WH (ints l2).length WI):=by rw[<- Zq];exact hce 5 (by omega)
 have y6:w.cell? ⟨fb,m*9+6,none⟩=some (.int .i64 xs[m].lost):=hce 6 (by omega);have y7:w.cell? ⟨fb,m*9+7,none⟩=some (.bool xs[m].had):=hce 7 (by omega);have y8:w.cell? ⟨fb,m*9+8,none⟩=some (.int .i64 (xs[m].most)):=hce 8 (by omega);have XZ:Tagged w fb 233:=nI x2 fb rfl;have hfl:=XZ.lt;have hal:=FK.lt;have haf:ab≠fb:=FK.ne XZ (by decide);have har:ab≠rb:=FK.ne h.ng (by decide);have hfr:fb≠rb:=XZ.ne h.ng (by decide);have hac:ab≠c:=FK.ne h.tc (by decide);have Zr:fb≠c:=XZ.ne h.tc (by decide)
 -- what it leaves
 have HFin:Hid (∀(w2:World)(v:Option Int),Below w.heap.size w w2->bC ((MS w2 ab fs[k].src v).setCell ⟨fb,m*9+7,none⟩ (.bool true)) c rb bU fv av room es acc most au/\gB ((MS w2 ab fs[k].src v).setCell ⟨fb,m*9+7,none⟩ (.bool true)) fv fs/\ay (λx=>x=ab\/fv.ownBlock=some x) w ((MS w2 ab fs[k].src v).setCell ⟨fb,m*9+7,none⟩ (.bool true))/\aH w ((MS w2 ab fs[k].src v).setCell ⟨fb,m*9+7,none⟩ (.bool true))):=λw2 v hb=>by
  obtain⟨W3,hW3⟩:∃W3,W3=(MS w2 ab fs[k].src v):=⟨_,rfl⟩;rw[<- hW3];have hc3:ay (λx=>x=ab) w W3:=by
   rw[hW3];cases v with
   | none=>exact ay.of_below hb
   | some u=>exact(ay.of_below (M:=λx=>x=ab) hb).setCell (p:=⟨ab,fs[k].src,none⟩) rfl _
  have hi3:aH w W3:=by
   rw[hW3];cases v with
   | none=>exact aH.of_below hb
   | some u=>exact(aH.of_below hb).trans (aH.set _ _ _ _)
  have Ub:∀b,Tagged w b 4->¬b=ab:=λb hb e=>Tagged.ne hb FK (by decide) e;have PW:=h.aJ hc3 (Ne.symm hac) (Ne.symm har) (λg hg e=>Tagged.ne (h.Ak g hg).2 FK (by decide) e) Ub hi3;have x23:W3.ownsRow 0 233 9 (.slice (some ⟨fb,0,none⟩) fs.length fc) fs.length (dB fs xs):=aZ x2 hc3 (λg hg e=>by cases hg;exact haf e.symm);have WJ:Tagged W3 fb 233:=nI x23 fb rfl;have hc4:ay (λx=>x=fb) W3 (W3.setCell ⟨fb,m*9+7,none⟩ (.bool true)):=(ay.refl (λx=>x=fb) W3).setCell (p:=⟨fb,m*9+7,none⟩) rfl _;have hi4:aH W3 (W3.setCell ⟨fb,m*9+7,none⟩ (.bool true)):=aH.jI hc4 (λb hb e=>Tagged.ne hb WJ (by decide) e);have Zt:∀b,Tagged W3 b 4->¬b=fb:=λb hb e=>Tagged.ne hb WJ (by decide) e;refine⟨PW.aJ hc4 (Ne.symm Zr) (Ne.symm hfr) (λg hg e=>Tagged.ne (PW.Ak g hg).2 WJ (by decide) e) Zt hi4, ?_, ?_,hi3.trans hi4⟩
  ·rw[hfv];refine⟨xs.set m ⟨xs[m].kv,xs[m].made,xs[m].al,xs[m].lost,true,xs[m].most⟩,by simp[x1], ?_,λj h1 h2=>?_⟩
   ·rw[<- wC fs xs m hm hm' x1];exact Uc x23 _ _
   ·have hj:j<xs.length:=by simpa using h2
    have hok:=((x3 j h1 hj).aJ hc3 Ub hi3).aJ hc4 Zt hi4;rw[List.getElem_set];split
    ·rename_i e9;subst e9;exact⟨hok.kn,hok.kl,hok.al,hok.m1,hok.m2⟩
    ·exact hok
  ·rw[hfv];exact(hc3.mono (λx _ e=>Or.inl e)).trans (hc4.mono (λx _ e=>Or.inr (by rw[e];rfl)))
 have bz:∀o,Below w.heap.size w (w.alloc o):=λo=>(Below.refl _ w).alloc (Nat.le_refl _) o;have HB:Hid (∀o q,Below w.heap.size w ((w.alloc o).drewN q)):=λo q=>below_drewN (bz o) q;rw[ha]at r2;have r2:w.cell? ⟨fb,k*9+2,none⟩=some (.int .i64 ((m:Int)+1)):=r2;have hdI:(fs[k].dst:Int)<(au.length:Int):=by omega
 have hsI:(fs[k].src:Int)<(au.length:Int):=by omega
 have hs0:(0:Int)<=(fs[k].src:Int):=by omega
 have hmI:(m:Int)<(fs.length:Int):=by omega
 have hm0:(0:Int)<=(m:Int):=by omega
 have hfF:=XZ.frozen;have haF:=FK.frozen;clear h x2 x3 hce hfv hsl l2a hmk Zq hav XZ FK hdm ha;generalize fs[k].dst=dst at *;generalize fs[k].src=src at *;generalize fs[m].src=MV at *;generalize fs[m].dst=MW at *;generalize fs[m].ack=MX at *;generalize fs[k].known.length=kl1 at *;generalize (bools fs[m].known).length=Fe at *;generalize (ints l2).length=X0 at *;generalize xs[m].made=made2 at *;generalize xs[m].lost=BI at *;generalize xs[m].had=MZ at *;generalize xs[m].most=BJ at *
 -- the copy of the frame
 obtain⟨W1,hW1⟩:∃W1,W1=w.alloc (.cells #[.int .i64 src,.int .i64 dst,.int .i64 ((m:Int)+1),.slice ko kl1 kc,.int .i64 made,.slice ho hn hc,.int .i64 lost,.bool had,.int .i64 mo] 233):=⟨_,rfl⟩;have kg:aA W1 w.heap.size #[.int .i64 src,.int .i64 dst,.int .i64 ((m:Int)+1),.slice ko kl1 kc,.int .i64 made,.slice ho hn hc,.int .i64 lost,.bool had,.int .i64 mo] 233:=by rw[hW1];exact aA.new w _ _
 have hb1:Below w.heap.size w W1:=by rw[hW1];exact bz _
 have hs1:W1.heap.size=w.heap.size+1:=by rw[hW1];simp
 have rC:Hid (∀wx,Below W1.heap.size W1 wx->wx.cell? ⟨c,1,none⟩=some (.slice (some ⟨rb,0,none⟩) au.length cap)/\wx.cell? ⟨c,4,none⟩=some (.slice (some ⟨fb,0,none⟩) fs.length fc)/\wx.cell? ⟨rb,dst*13+1,none⟩=some (.bool false)/\wx.cell? ⟨rb,dst*13+11,none⟩=some (.slice (some ⟨ab,0,none⟩) au.length au.length)/\wx.cell? ⟨ab,src,none⟩=some (.int .i64 KX)/\wx.cell? ⟨w.heap.size,0,none⟩=some (.int .i64 src)/\wx.cell? ⟨w.heap.size,1,none⟩=some (.int .i64 dst)/\wx.cell? ⟨w.heap.size,2,none⟩=some (.int .i64 ((m:Int)+1))/\wx.cell? ⟨fb,m*9+7,none⟩=some (.bool MZ)/\(∀j,wx.frozen? ⟨fb,j,none⟩=false)/\(∀j,wx.frozen? ⟨ab,j,none⟩=false)/\Below w.heap.size w wx):=λwx hx=>by have hbw:Below w.heap.size w wx:=hb1.trans (hx.mono hb1.size);have kk:=kg.below hx;exact⟨(hbw.cell (p:=⟨c,1,none⟩) hcl).trans c1,(hbw.cell (p:=⟨c,4,none⟩) hcl).trans c4,(hbw.cell (p:=⟨rb,_,none⟩) hrl).trans dn,(hbw.cell (p:=⟨rb,_,none⟩) hrl).trans a11,(hbw.cell (p:=⟨ab,_,none⟩) hal).trans hcm,(kk.cell 0).trans rfl,(kk.cell 1).trans rfl,(kk.cell 2).trans rfl,(hbw.cell (p:=⟨fb,_,none⟩) hfl).trans y7,λj=>(hbw.frozen (p:=⟨fb,j,none⟩) hfl).trans (hfF j),λj=>(hbw.frozen (p:=⟨ab,j,none⟩) hal).trans (haF j),hbw⟩
 have HY:Hid (∀wx,Below W1.heap.size W1 wx->wx.cell? ⟨fb,m*9,none⟩=some (.int .i64 MV)/\wx.cell? ⟨fb,m*9+1,none⟩=some (.int .i64 MW)/\wx.cell? ⟨fb,m*9+2,none⟩=some (.int .i64 MX)/\wx.cell? ⟨fb,m*9+3,none⟩=some (.slice WE Fe WG)/\wx.cell? ⟨fb,m*9+4,none⟩=some (.int .i64 made2)/\wx.cell? ⟨fb,m*9+5,none⟩=some (.slice WH X0 WI)/\wx.cell? ⟨fb,m*9+6,none⟩=some (.int .i64 BI)/\wx.cell? ⟨fb,m*9+8,none⟩=some (.int .i64 BJ)):=λwx hx=>by have hbw:Below w.heap.size w wx:=hb1.trans (hx.mono hb1.size);have hcc:∀i,wx.cell? ⟨fb,i,none⟩=w.cell? ⟨fb,i,none⟩:=λi=>hbw.cell (p:=⟨fb,i,none⟩) hfl;exact⟨(hcc _).trans y0,(hcc _).trans y1,(hcc _).trans y2,(hcc _).trans y3,(hcc _).trans y4,(hcc _).trans y5,(hcc _).trans y6,(hcc _).trans y8⟩
 have HW1:Hid (w.alloc (.cells #[.int .i64 src,.int .i64 dst,.int .i64 ((m:Int)+1),.slice ko kl1 kc,.int .i64 made,.slice ho hn hc,.int .i64 lost,.bool had,.int .i64 mo] 233)=W1):=hW1.symm;have c1A:∀o,(w.alloc o).cell? ⟨c,1,none⟩=some (.slice (some ⟨rb,0,none⟩) au.length cap):=λo=>((bz o).cell (p:=⟨c,1,none⟩) hcl).trans c1;have dnA:∀o,(w.alloc o).cell? ⟨rb,dst*13+1,none⟩=some (.bool false):=λo=>((bz o).cell (p:=⟨rb,_,none⟩) hrl).trans dn;have Jr:Hid (ab≠c/\ab≠w.heap.size/\ab≠fb):=⟨hac,by omega,haf⟩;have WL:Hid (IntKind.i64.wrap (m:Int)=(m:Int)):=wrap_in _ (by omega) (by omega);have al7:=hm;clear bz hW1 kg a11 hcm y0 y1 y2 y3 y4 y5 y6 y7 y8 hfF haF hkl hle' x1 hm' haf har hfr hac Zr hb1 hfl hal hcl hrl;go_enter Tryz.func114,Tryz.ntmps114;go_wp2_with fail;clear c1 c4 dn r0 r1 r2 r3 r4 r5 r6 r7 r8 c1A dnA hs1;rw[HW1.out];obtain⟨d1,_,ddn,_,_,_,g1,_⟩:=rC.out W1 (Below.refl _ _)
 go_quiet (fail)
 clear d1 ddn g1;have hbq:Below W1.heap.size W1 (W1.drewN nq):=below_drewN (Below.refl _ _) _;generalize W1.drewN nq=W2 at *;obtain⟨_,d4,_,_,_,_,_,g2,z7,_⟩:=rC.out _ hbq;have hidx:=WL.out;obtain⟨y0,y1,y2,y3,y4,y5,y6,y8⟩:=HY.out _ hbq;have HQ:Hid (Below W1.heap.size W1 W2):=hbq;clear hbq;have d4A:∀o,(W2.alloc o).cell? ⟨c,4,none⟩=some (.slice (some ⟨fb,0,none⟩) fs.length fc):=λo=>(rC.out (W2.alloc o) (HQ.out.alloc HQ.out.size o)).2.1;have g2A:∀o,(W2.alloc o).cell? ⟨w.heap.size,2,none⟩=some (.int .i64 ((m:Int)+1)):=λo=>(rC.out (W2.alloc o) (HQ.out.alloc HQ.out.size o)).2.2.2.2.2.2.2.1;have z7A:∀o,(W2.alloc o).cell? ⟨fb,m*9+7,none⟩=some (.bool MZ):=λo=>(rC.out (W2.alloc o) (HQ.out.alloc HQ.out.size o)).2.2.2.2.2.2.2.2.1;have y0A:∀o,(W2.alloc o).cell? ⟨fb,m*9,none⟩=some (.int .i64 MV):=λo=>(HY.out (W2.alloc o) (HQ.out.alloc HQ.out.size o)).1;have y1A:∀o,(W2.alloc o).cell? ⟨fb,m*9+1,none⟩=some (.int .i64 MW):=λo=>(HY.out (W2.alloc o) (HQ.out.alloc HQ.out.size o)).2.1;have y2A:∀o,(W2.alloc o).cell? ⟨fb,m*9+2,none⟩=some (.int .i64 MX):=λo=>(HY.out (W2.alloc o) (HQ.out.alloc HQ.out.size o)).2.2.1;have y3A:∀o,(W2.alloc o).cell? ⟨fb,m*9+3,none⟩=some (.slice WE Fe WG):=λo=>(HY.out (W2.alloc o) (HQ.out.alloc HQ.out.size o)).2.2.2.1;have y4A:∀o,(W2.alloc o).cell? ⟨fb,m*9+4,none⟩=some (.int .i64 made2):=λo=>(HY.out (W2.alloc o) (HQ.out.alloc HQ.out.size o)).2.2.2.2.1;have y5A:∀o,(W2.alloc o).cell? ⟨fb,m*9+5,none⟩=some (.slice WH X0 WI):=λo=>(HY.out (W2.alloc o) (HQ.out.alloc HQ.out.size o)).2.2.2.2.2.1;have y6A:∀o,(W2.alloc o).cell? ⟨fb,m*9+6,none⟩=some (.int .i64 BI):=λo=>(HY.out (W2.alloc o) (HQ.out.alloc HQ.out.size o)).2.2.2.2.2.2.1;have y8A:∀o,(W2.alloc o).cell? ⟨fb,m*9+8,none⟩=some (.int .i64 BJ):=λo=>(HY.out (W2.alloc o) (HQ.out.alloc HQ.out.size o)).2.2.2.2.2.2.2;go_wp2_with fail
 -- the copy of the frame that is DI
 go_cut [7]from 42 to 51 (λv7 wx=>v7=.pointer (some ⟨W2.heap.size,0,none⟩)/\aA wx W2.heap.size #[.int .i64 MV,.int .i64 MW,.int .i64 MX,.slice WE Fe WG,.int .i64 made2,.slice WH X0 WI,.int .i64 BI,.bool MZ,.int .i64 BJ] 233/\Below W2.heap.size W2 wx);case first =>
  go_region_law (fail)
  all_goals
   go_wp2_with fail;go_meet;refine⟨rfl, ?_, ?_⟩
   ·first|exact aA.new W2 _ _|exact Qa (aA.new W2 _ _)
   ·first|exact(Below.refl _ W2).alloc (Nat.le_refl _) _|exact((Below.refl _ W2).alloc (Nat.le_refl _) _).drew|exact WC ((Below.refl _ W2).alloc (Nat.le_refl _) _)
 case rest =>
 obtain⟨rfl,ko3,hb3⟩:=hcut;clear d4 g2 z7 y0 y1 y2 y3 y4 y5 y6 y8 d4A g2A z7A y0A y1A y2A y3A y4A y5A y6A y8A hidx;have Qc:Hid (Below W1.heap.size W1 wc):=HQ.out.trans (hb3.mono HQ.out.size);have HK3:Hid (aA wc W2.heap.size #[.int .i64 MV,.int .i64 MW,.int .i64 MX,.slice WE Fe WG,.int .i64 made2,.slice WH X0 WI,.int .i64 BI,.bool MZ,.int .i64 BJ] 233):=ko3;clear ko3 hb3;generalize wc=W3 at *;obtain⟨d1,_,_,_,_,_,g1,_⟩:=rC.out _ Qc.out;go_wp2_with fail
 go_quiet (fail)
 clear d1 g1;have hbq:Below W3.heap.size W3 (W3.drewN nq):=below_drewN (Below.refl _ _) _;have Ud:Hid (Below W1.heap.size W1 (W3.drewN nq)):=Qc.out.trans (hbq.mono Qc.out.size);have DJ:Hid (aA (W3.drewN nq) W2.heap.size #[.int .i64 MV,.int .i64 MW,.int .i64 MX,.slice WE Fe WG,.int .i64 made2,.slice WH X0 WI,.int .i64 BI,.bool MZ,.int .i64 BJ] 233):=HK3.out.below hbq;clear hbq HK3 Qc;generalize W3.drewN nq=W4 at *;obtain⟨_,_,_,d11,dcm,g0,_⟩:=rC.out _ Ud.out;have o4:=(DJ.out.cell 4).trans rfl;by_cases hlt:KX<made2
 ·go_wp2_with fail
  go_quiet (fail)
  clear d11 dcm g0 o4;have hbq:Below W4.heap.size W4 (W4.drewN nq):=below_drewN (Below.refl _ _) _;have HQ5:Hid (Below W1.heap.size W1 (W4.drewN nq)):=Ud.out.trans (hbq.mono Ud.out.size);have WM:Hid (aA (W4.drewN nq) W2.heap.size #[.int .i64 MV,.int .i64 MW,.int .i64 MX,.slice WE Fe WG,.int .i64 made2,.slice WH X0 WI,.int .i64 BI,.bool MZ,.int .i64 BJ] 233):=DJ.out.below hbq;clear hbq DJ Ud;generalize W4.drewN nq=W5 at *;obtain⟨_,_,_,d11,dcm,g0,_,_,_,_,za,FM⟩:=rC.out _ HQ5.out;have o4:=(WM.out.cell 4).trans rfl;have VQ:Hid (Below w.heap.size w W5):=FM;clear FM;go_wp2_with fail;go_cut []from 69 to 78 (λwx=>wx=W5.drew.setCell ⟨ab,src,none⟩ (.int .i64 made2))
  case first =>
   go_region_law (fail)
   all_goals
    go_wp2_with fail;go_meet;rfl
  case rest =>
  subst hcut;clear d11 dcm g0 o4 za;have Vd:Hid (Below w.heap.size w W5.drew):=VQ.out.drew;have HE:Hid (∀i,(W5.drew.setCell ⟨ab,src,none⟩ (.int .i64 made2)).cell? ⟨c,i,none⟩=W5.cell? ⟨c,i,none⟩/\(W5.drew.setCell ⟨ab,src,none⟩ (.int .i64 made2)).cell? ⟨w.heap.size,i,none⟩=W5.cell? ⟨w.heap.size,i,none⟩/\(W5.drew.setCell ⟨ab,src,none⟩ (.int .i64 made2)).cell? ⟨fb,i,none⟩=W5.cell? ⟨fb,i,none⟩/\(W5.drew.setCell ⟨ab,src,none⟩ (.int .i64 made2)).frozen? ⟨fb,i,none⟩=W5.frozen? ⟨fb,i,none⟩):=λi=>⟨(aK (Or.inl Jr.out.1)).trans rfl,(aK (Or.inl Jr.out.2.1)).trans rfl,(aK (Or.inl Jr.out.2.2)).trans rfl,(World.frozen?_setCell _ _ _ _).trans rfl⟩;obtain⟨_,d4,_,_,_,_,_,g2,z7,zf,_,_⟩:=rC.out _ HQ5.out;have e4:=(HE.out 4).1.trans d4;have e2:=(HE.out 2).2.1.trans g2;have e7:=(HE.out (m*9+7)).2.2.1.trans z7;have ef:∀j,(W5.drew.setCell ⟨ab,src,none⟩ (.int .i64 made2)).frozen? ⟨fb,j,none⟩=false:=λj=>(HE.out j).2.2.2.trans (zf j);have HF1:Hid (∀q,Below w.heap.size w ((W5.drew).drewN q)):=λq=>below_drewN Vd.out q;have hidx:=WL.out;have HFS:=HFin;clear d4 g2 z7 zf HE rC HY;generalize hW6:W5.drew.setCell ⟨ab,src,none⟩ (.int .i64 made2)=W6 at *;have HW6:Hid (W6=W5.drew.setCell ⟨ab,src,none⟩ (.int .i64 made2)):=hW6.symm;clear hW6;go_wp2_with fail;go_cut []from 78 to 87 (λwx=>wx=W6.drew.setCell ⟨fb,m*9+7,none⟩ (.bool true))
  case first =>
   go_region_law (fail)
   all_goals
    go_wp2_with fail;go_meet;rfl
  case rest =>
  subst hcut;clear e4 e2 e7 ef hidx;go_wp2_with fail;go_ret2;have hW:W6.drew.setCell ⟨fb,m*9+7,none⟩ (.bool true)=(MS W5.drew.drew ab src (some made2)).setCell ⟨fb,m*9+7,none⟩ (.bool true):=by rw[HW6.out];(first|done|rfl)
  rw[hW];exact⟨rfl,HFin.out W5.drew.drew (some made2) Vd.out.drew⟩
 ·go_wp2_with fail
  go_quiet (fail)
  clear d11 dcm g0 o4;have hbq:Below W4.heap.size W4 (W4.drewN nq):=below_drewN (Below.refl _ _) _;have HQ5:Hid (Below W1.heap.size W1 (W4.drewN nq)):=Ud.out.trans (hbq.mono Ud.out.size);clear hbq DJ Ud;generalize W4.drewN nq=W5 at *;obtain⟨_,d4,_,_,_,_,_,g2,z7,zf,_,FM⟩:=rC.out _ HQ5.out;have VQ:Hid (Below w.heap.size w W5):=FM;have hidx:=WL.out;clear FM;go_wp2_with fail;go_cut []from 78 to 87 (λwx=>wx=W5.drew.setCell ⟨fb,m*9+7,none⟩ (.bool true))
  case first =>
   go_region_law (fail)
   all_goals
    go_wp2_with fail;go_meet;rfl
  case rest =>
  subst hcut;clear d4 g2 z7 zf hidx;go_wp2_with fail;go_ret2;exact⟨rfl,HFin.out W5.drew none VQ.out.drew⟩
