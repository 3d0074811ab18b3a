import Derived.Test.YtfmmllpjgkgeaaaGreatDoorPart48
set_option linter.unusedVariables false
set_option linter.unusedSimpArgs false
set_option maxHeartbeats 16000000
set_option maxRecDepth 100000
namespace Go.Proofs.YtfmmllpjgkgeaaaGreatDoor
open Go.RowKit
variable {F:Stt}

theorem Won_any (hF:ProgOK F) (hP:ProgFrame F) (hT:ProgTick F) (w:World) (hG:Glob w) (r:Int) (hr:i64B r) (v:Value) (l:List ActD) (hv:ActsV w v l) (above:Bool) :
  Calls Tryz.prog 8 #[.int .i64 r,v,.bool above] w fun e w'=>e=.returned (.bool true)/\Below w.heap.size w w':=by
 obtain ⟨⟨ad,cap,rfl,hacts⟩,hok⟩:=hv
 have hn:=sizeN_le r
 have Hs:Hid (Calls Tryz.prog 16 #[.int .i64 r] w fun r' w'=>r'=.returned (.int .i64 (sizeN r:Int))/\w'=w):=ksize_any r w hr
 have Hc:Hid (Calls Tryz.prog 17 #[.int .i64 (sizeN r:Int),.int .i64 20] w fun e w'=>∃ x,e=.returned (.pointer (some ⟨x,0,none⟩))/\Hid (AI F (fun k=>k=w'.heap.size) w x w'.heap.size (sizeN r) 0 (zS (sizeN r)) (w'.alloc (.cells #[.int .i64 0,.int .i64 2] 32)))):=by
  refine Calls.mono (cluster_any hF w hG (sizeN r) 20 hn (by omega)) ?_
  rintro e w' ⟨x,rfl,hk⟩
  exact ⟨x,rfl,AI.start hP hn hk⟩
 have HA:Hid (∀ i (hi:i<l.length),_):=fun i hi=>ActsV.at hacts i hi
 have HPl:Hid (∀ T x tb i s wr (hi:i<l.length),(AI F T w x tb (sizeN r) i s wr/\∀ e∈s.es,EvRd e)->i<=400->Calls Tryz.prog 19 #[.pointer (some ⟨tb,0,none⟩),.pointer (some ⟨x,0,none⟩),.int .i64 (sizeN r:Int),.agg #[.int .i64 l[i].kd,.int .i64 l[i].i,.int .i64 l[i].j,.int .i64 l[i].k,.int .i64 l[i].v]] wr fun e w'=>e=.returned (.bool true)/\∃ s',Hid (AI F T w x tb (sizeN r) (i+1) s' w'/\∀ e∈s'.es,EvRd e)):=fun T x tb i s wr hi h hi4=>by
  refine Calls.mono (h.1.play hF hP hT hi4 (hok _ (List.getElem_mem hi))) ?_
  rintro e w' ⟨rfl,s',hp,h2,_⟩
  exact ⟨rfl,s',h2,hp.rd h.1.ok hi4 h.2⟩
 have D0:Hid (∀ T x s c wr,WP F T w x (sizeN r) c s wr->c<=100->(Calls Tryz.prog 23 #[.pointer (some ⟨x,0,none⟩),.int .i64 0,.string ⟨#[109,97,47,115,97,43,119,105,110]⟩] wr fun e w'=>e=.returned (.int .i64 0)/\Hid (WP F T w x (sizeN r) (c+1) (doE s 0 chA) w'))):=fun T x s c wr h hc=>h.does hF hc (i:=0) (by omega) rA smA (by decide +kernel) (by decide)
 have D1:Hid (∀ T x s c wr,WP F T w x (sizeN r) c s wr->c<=100->(Calls Tryz.prog 23 #[.pointer (some ⟨x,0,none⟩),.int .i64 0,.string ⟨#[109,97,47,109,98,47,102,97,94]⟩] wr fun e w'=>e=.returned (.int .i64 0)/\Hid (WP F T w x (sizeN r) (c+1) (doE s 0 chB) w'))):=fun T x s c wr h hc=>h.does hF hc (i:=0) (by omega) rB smB (by decide +kernel) (by decide)
 have D2:Hid (∀ T x s c wr,WP F T w x (sizeN r) c s wr->c<=100->(Calls Tryz.prog 23 #[.pointer (some ⟨x,0,none⟩),.int .i64 0,.string ⟨#[109,97,47,109,98,47,114,97,61,111,110,101]⟩] wr fun e w'=>e=.returned (.int .i64 0)/\Hid (WP F T w x (sizeN r) (c+1) (doE s 0 chC) w'))):=fun T x s c wr h hc=>h.does hF hc (i:=0) (by omega) rC smC (by decide +kernel) (by decide)
 have D3:Hid (∀ T x s c wr,WP F T w x (sizeN r) c s wr->c<=100->(Calls Tryz.prog 23 #[.pointer (some ⟨x,0,none⟩),.int .i64 1,.string ⟨#[109,97,33]⟩] wr fun e w'=>e=.returned (.int .i64 0)/\Hid (WP F T w x (sizeN r) (c+1) (doE s 1 chD) w'))):=fun T x s c wr h hc=>h.does hF hc (i:=1) (by omega) rD smD (by decide +kernel) (by decide)
 have D4:Hid (∀ T x s c wr,WP F T w x (sizeN r) c s wr->c<=100->(Calls Tryz.prog 23 #[.pointer (some ⟨x,0,none⟩),.int .i64 1,.string ⟨#[109,97,47,115,97,45,119,105,110]⟩] wr fun e w'=>e=.returned (.int .i64 0)/\Hid (WP F T w x (sizeN r) (c+1) (doE s 1 chG) w'))):=fun T x s c wr h hc=>h.does hF hc (i:=1) (by omega) rG smG (by decide +kernel) (by decide)
 have D5:Hid (∀ T x s c wr,WP F T w x (sizeN r) c s wr->c<=100->(Calls Tryz.prog 23 #[.pointer (some ⟨x,0,none⟩),.int .i64 1,.string ⟨#[109,97,47,109,98,47,102,97,95]⟩] wr fun e w'=>e=.returned (.int .i64 0)/\Hid (WP F T w x (sizeN r) (c+1) (doE s 1 chE) w'))):=fun T x s c wr h hc=>h.does hF hc (i:=1) (by omega) rE smE (by decide +kernel) (by decide)
 have D6:Hid (∀ T x s c wr,WP F T w x (sizeN r) c s wr->c<=100->(Calls Tryz.prog 23 #[.pointer (some ⟨x,0,none⟩),.int .i64 1,.string ⟨#[109,97,47,109,98,47,114,97,61,116,119,111]⟩] wr fun e w'=>e=.returned (.int .i64 0)/\Hid (WP F T w x (sizeN r) (c+1) (doE s 1 chF) w'))):=fun T x s c wr h hc=>h.does hF hc (i:=1) (by omega) rF smF (by decide +kernel) (by decide)
 have HR:Hid (∀ T x s0 s c wr,WP F T w x (sizeN r) c s wr->c<=100->WonEs s0 s.es->Calls Tryz.prog 20 #[.pointer (some ⟨x,0,none⟩),.int .i64 (sizeN r:Int)] wr fun e w'=>e=.returned (.bool true)/\∃ t,Hid (WQ F T w x (sizeN r) s0 t w')):=fun T x s0 s c wr h hc hw=>h.round hF hc hw
 have HWe:Hid (∀ (s:St) c,KOk (sizeN r) c s->WonEs s (s6 above s).es):=fun s c h=>won_es h above
 have HT1:Hid (∀ T x s t wr (i:Nat),WQ F T w x (sizeN r) s t wr->i<sizeN r->Calls Tryz.prog 24 #[.pointer (some ⟨x,0,none⟩),.int .i64 (i:Int),.string ⟨#[109,97,47,115,97]⟩] wr fun e w'=>∃ u:ByteArray,e=.returned (.tuple #[.string u,.int .i64 0])/\u.size<=20000/\Hid (InW u winB)/\Hid (WQ F T w x (sizeN r) s t w')):=fun T x s t wr i h hi=>(h.told hF hi).1
 have HT2:Hid (∀ T x s t wr (i:Nat),WQ F T w x (sizeN r) s t wr->i<sizeN r->Calls Tryz.prog 24 #[.pointer (some ⟨x,0,none⟩),.int .i64 (i:Int),.string ⟨#[109,97,47,109,98,47,102,97]⟩] wr fun e w'=>e=.returned (.tuple #[.string ⟨#[49]⟩,.int .i64 0])/\Hid (WQ F T w x (sizeN r) s t w')):=fun T x s t wr i h hi=>(h.told hF hi).2.1
 have HT3:Hid (∀ T x s t wr (i:Nat),WQ F T w x (sizeN r) s t wr->i<sizeN r->Calls Tryz.prog 24 #[.pointer (some ⟨x,0,none⟩),.int .i64 (i:Int),.string ⟨#[109,97,47,109,98,47,114,97]⟩] wr fun e w'=>∃ u:ByteArray,e=.returned (.tuple #[.string u,.int .i64 0])/\u.size<=20000/\Hid (InW u oneB)/\Hid (InW u twoB)/\Hid (WQ F T w x (sizeN r) s t w')):=fun T x s t wr i h hi=>(h.told hF hi).2.2
 have HH1:Hid (∀ (u:ByteArray) wx,u.size<=20000->InW u winB->Calls Tryz.prog 25 #[.string u,.string ⟨#[119,105,110]⟩] wx fun e w'=>e=.returned (.bool true)/\w'=wx):=fun u wx hs hi=>has_yes_any u winB wx hs (by decide) hi
 have HH2:Hid (∀ (u:ByteArray) wx,u.size<=20000->InW u oneB->Calls Tryz.prog 25 #[.string u,.string ⟨#[111,110,101]⟩] wx fun e w'=>e=.returned (.bool true)/\w'=wx):=fun u wx hs hi=>has_yes_any u oneB wx hs (by decide) hi
 have HH3:Hid (∀ (u:ByteArray) wx,u.size<=20000->InW u twoB->Calls Tryz.prog 25 #[.string u,.string ⟨#[116,119,111]⟩] wx fun e w'=>e=.returned (.bool true)/\w'=wx):=fun u wx hs hi=>has_yes_any u twoB wx hs (by decide) hi
 have HH4:Hid (∀ (u:ByteArray) wx,u.size<=20000->¬InW u winB->Calls Tryz.prog 25 #[.string u,.string ⟨#[119,105,110]⟩] wx fun e w'=>e=.returned (.bool false)/\w'=wx):=fun u wx hs hi=>has_no_any u winB wx hs (by decide) hi
 have L1:Hid (∀ T x s t wr,WQ F T w x (sizeN r) s t wr->Calls Tryz.prog 23 #[.pointer (some ⟨x,0,none⟩),.int .i64 ((sizeN r:Int)-1),.string ⟨#[109,97,47,115,97,45,119,105,110]⟩] wr fun e w'=>e=.returned (.int .i64 0)/\Hid (WE F T w x (sizeN r) s t (doE t (sizeN r-1) chG) w')):=fun T x s t wr h=>h.last hF (by omega)
 have L2:Hid (∀ T x s t wr,WE F T w x (sizeN r) s t (doE t (sizeN r-1) chG) wr->Calls Tryz.prog 23 #[.pointer (some ⟨x,0,none⟩),.int .i64 ((sizeN r:Int)-1),.string ⟨#[109,97,47,109,98,47,114,97,61,116,104,114,101,101]⟩] wr fun e w'=>e=.returned (.int .i64 0)/\Hid (WE F T w x (sizeN r) s t (doE (doE t (sizeN r-1) chG) (sizeN r-1) chH) w')):=fun T x s t wr h=>h.last2 hF (by omega)
 have L3:Hid (∀ T x s t wr,WE F T w x (sizeN r) s t (doE (doE t (sizeN r-1) chG) (sizeN r-1) chH) wr->Calls Tryz.prog 24 #[.pointer (some ⟨x,0,none⟩),.int .i64 ((sizeN r:Int)-1),.string ⟨#[109,97,47,115,97]⟩] wr fun e w'=>∃ u:ByteArray,e=.returned (.tuple #[.string u,.int .i64 0])/\u.size<=20000/\Hid (¬InW u winB)/\Hid (WE F T w x (sizeN r) s t (doE (doE t (sizeN r-1) chG) (sizeN r-1) chH) w')):=fun T x s t wr h=>(h.lastA hF (by omega)).1
 have L4:Hid (∀ T x s t wr,WE F T w x (sizeN r) s t (doE (doE t (sizeN r-1) chG) (sizeN r-1) chH) wr->Calls Tryz.prog 24 #[.pointer (some ⟨x,0,none⟩),.int .i64 ((sizeN r:Int)-1),.string ⟨#[109,97,47,109,98,47,114,97]⟩] wr fun e w'=>e=.returned (.tuple #[.string ⟨#[116,104,114,101,101]⟩,.int .i64 0])/\Hid (WE F T w x (sizeN r) s t (doE (doE t (sizeN r-1) chG) (sizeN r-1) chH) w')):=fun T x s t wr h=>(h.lastA hF (by omega)).2
 obtain ⟨hn2,hn4⟩:=hn
 clear hF hP hT hG hr hacts hok
 generalize sizeN r=n at *
 go_enter Tryz.func8,Tryz.ntmps8
 go_wp2_with fail
 refine Calls.mono Hs.out ?_
 rintro e w1 ⟨rfl,h1⟩
 rw[h1]
 clear h1 w1
 go_wp2_with fail
 refine Calls.mono Hc.out ?_
 rintro e w1 ⟨x,rfl,H1⟩
 have H1':Hid (AI F (fun k=>k=w1.heap.size) w x w1.heap.size n 0 (zS n) (w1.alloc (.cells #[.int .i64 0,.int .i64 2] 32))/\∀ e∈(zS n).es,EvRd e):=⟨H1.out,zS_rd n⟩
 clear Hs Hc H1
 go_wp2_with fail
 go_loopw [10] (fun v10 wr=>∃ i:Nat,v10=.int .i64 (i:Int)/\i<=80/\Hid (∃ s,AI F (fun k=>k=w1.heap.size) w x w1.heap.size n i s wr/\∀ e∈s.es,EvRd e)) (fun v10 _=>80-(intOf v10).toNat)
 case atStart=>exact ⟨0,rfl,by omega,_,H1'.out⟩
 case round =>
  clear H1'
  obtain ⟨i,rfl,hi80,HI⟩:=hrel
  obtain ⟨s,HS⟩:∃ s:St,Hid (AI F (fun k=>k=w1.heap.size) w x w1.heap.size n i s wr/\∀ e∈s.es,EvRd e):=HI.out
  clear HI
  by_cases hgo:i<l.length/\i<80
  ·obtain ⟨hi,hi8⟩:=hgo
   obtain ⟨b,off,rfl,hcap,hcell⟩:=HA.out i hi
   obtain ⟨d0,d1,d2,d3,d4⟩:=hcell wr HS.out.1.k.bel
   clear hcell
   have HC:Hid (_):=HPl.out _ x w1.heap.size i s wr hi HS.out (by omega)
   clear HPl HR D0 D1 D2 D3 D4 D5 D6 HWe HT1 HT2 HT3 HH1 HH2 HH3 HH4 L1 L2 L3 L4 HA
   generalize l[i].kd=q0 at *
   generalize l[i].i=q1 at *
   generalize l[i].j=q2 at *
   generalize l[i].k=q3 at *
   generalize l[i].v=q4 at *
   have hiI:(i:Int)<(l.length:Int):=by omega
   have hi8I:(i:Int)<80:=by omega
   go_wp2_with fail
   refine Calls.mono HC.out ?_
   rintro e w2 ⟨rfl,s',H2⟩
   clear HC HS d0 d1 d2 d3 d4
   go_wp2
   go_roundw
   case rel=>exact ⟨i+1,by first | rfl | go_num,by omega,s',H2.out⟩
   case measure=>simp[intOf] <;> omega
  ·have hex:(¬(i:Int)<(l.length:Int))\/((i:Int)<(l.length:Int)/\¬(i:Int)<80):=by omega
   have HW:Hid (WonEs s (s6 above s).es):=HWe.out s i HS.out.1.ok
   have H0:Hid (WP F (fun k=>k=w1.heap.size) w x n i s wr):=⟨HS.out.1.k,HS.out.1.ok,HS.out.2⟩
   clear hgo HPl HA HS HWe
   cases above
   ·rcases hex with hx | ⟨hx,hx2⟩
    all_goals
     go_wp2_with fail
     refine Calls.mono (D0.out _ x s i wr H0.out (by omega)) ?_
     rintro e w2 ⟨rfl,H2⟩
     go_wp2_with fail
     refine Calls.mono (D1.out _ x _ _ w2 H2.out (by omega)) ?_
     rintro e w3 ⟨rfl,H3⟩
     clear H2 D0
     go_wp2_with fail
     refine Calls.mono (D2.out _ x _ _ w3 H3.out (by omega)) ?_
     rintro e w4 ⟨rfl,H4⟩
     clear H3 D1
     go_wp2_with fail
     refine Calls.mono (D4.out _ x _ _ w4 H4.out (by omega)) ?_
     rintro e w5' ⟨rfl,H5⟩
     clear H4 D2
     go_wp2_with fail
     refine Calls.mono (D5.out _ x _ _ w5' H5.out (by omega)) ?_
     rintro e w5 ⟨rfl,H6⟩
     clear H5
     have HM:Hid (WP F (fun k=>k=w1.heap.size) w x n (i+5) (s5 false s) w5):=H6.out
     clear H6
     go_wp2_with fail
     refine Calls.mono (D6.out _ x _ _ w5 HM.out (by omega)) ?_
     rintro e w6 ⟨rfl,H7⟩
     clear HM
     have HC:Hid (_):=HR.out _ x s _ _ w6 H7.out (by omega) HW.out
     clear HR HW H7 D3 D4 D5 D6 H0
     go_wp2_with fail
     refine Calls.mono HC.out ?_
     rintro e w7 ⟨rfl,t,H8⟩
     clear HC
     go_wp2_with fail
     go_loopw [19] (fun v19 wy=>∃ q:Nat,v19=.int .i64 (q:Int)/\q<=n/\Hid (WQ F (fun k=>k=w1.heap.size) w x n s t wy)) (fun v19 _=>n-(intOf v19).toNat)
     case atStart=>exact ⟨0,rfl,by omega,H8⟩
     case round =>
      clear H8
      obtain ⟨q,rfl,hq,H9⟩:=hrel
      by_cases hqn:q<n
      ·have hqI:(q:Int)<(n:Int):=by omega
       clear L1 L2 L3 L4 HH4
       go_wp2_with fail
       refine Calls.mono (HT1.out _ x s t _ q H9.out hqn) ?_
       rintro e a1 ⟨u1,rfl,z1,I1,K1⟩
       clear H9
       go_wp2_with fail
       refine Calls.mono (HT2.out _ x s t _ q K1.out hqn) ?_
       rintro e a2 ⟨rfl,K2⟩
       clear K1
       go_wp2_with fail
       refine Calls.mono (HT3.out _ x s t _ q K2.out hqn) ?_
       rintro e a3 ⟨u3,rfl,z3,I3,I4,K3⟩
       clear K2 HT1 HT2 HT3
       go_wp2_with fail
       refine Calls.mono (HH1.out u1 _ z1 I1.out) ?_
       rintro e a4 ⟨rfl,h4⟩
       rw[h4]
       clear h4 a4 HH1
       go_wp2_with fail
       refine Calls.mono (HH2.out u3 _ z3 I3.out) ?_
       rintro e a4 ⟨rfl,h4⟩
       rw[h4]
       clear h4 a4 HH2
       go_wp2_with fail
       refine Calls.mono (HH3.out u3 _ z3 I4.out) ?_
       rintro e a4 ⟨rfl,h4⟩
       rw[h4]
       clear h4 a4 HH3
       go_wp2
       go_roundw
       case rel=>exact ⟨q+1,by first | rfl | go_num,by omega,K3⟩
       case measure=>simp[intOf] <;> omega
      ·have hqI:¬(q:Int)<(n:Int):=by omega
       clear HT1 HT2 HT3 HH1 HH2 HH3
       go_wp2_with fail
       refine Calls.mono (L1.out _ x s t _ H9.out) ?_
       rintro e a1 ⟨rfl,K1⟩
       clear H9 L1
       go_wp2_with fail
       refine Calls.mono (L2.out _ x s t _ K1.out) ?_
       rintro e a2 ⟨rfl,K2⟩
       clear K1 L2
       go_wp2_with fail
       refine Calls.mono (L3.out _ x s t _ K2.out) ?_
       rintro e a3 ⟨u1,rfl,z1,I1,K3⟩
       clear K2 L3
       go_wp2_with fail
       refine Calls.mono (L4.out _ x s t _ K3.out) ?_
       rintro e a4 ⟨rfl,K4⟩
       clear K3 L4
       go_wp2_with fail
       refine Calls.mono (HH4.out u1 _ z1 I1.out) ?_
       rintro e a5 ⟨rfl,h5⟩
       rw[h5]
       clear h5 a5 HH4
       go_wp2
       go_ret
       exact ⟨rfl,K4.out.k.bel⟩
   ·rcases hex with hx | ⟨hx,hx2⟩
    all_goals
     go_wp2_with fail
     refine Calls.mono (D0.out _ x s i wr H0.out (by omega)) ?_
     rintro e w2 ⟨rfl,H2⟩
     go_wp2_with fail
     refine Calls.mono (D1.out _ x _ _ w2 H2.out (by omega)) ?_
     rintro e w3 ⟨rfl,H3⟩
     clear H2 D0
     go_wp2_with fail
     refine Calls.mono (D2.out _ x _ _ w3 H3.out (by omega)) ?_
     rintro e w4 ⟨rfl,H4⟩
     clear H3 D1
     go_wp2_with fail
     refine Calls.mono (D3.out _ x _ _ w4 H4.out (by omega)) ?_
     rintro e w5 ⟨rfl,H5⟩
     clear H4 D2
     have HM:Hid (WP F (fun k=>k=w1.heap.size) w x n (i+4) (s5 true s) w5):=H5.out
     clear H5
     go_wp2_with fail
     refine Calls.mono (D6.out _ x _ _ w5 HM.out (by omega)) ?_
     rintro e w6 ⟨rfl,H7⟩
     clear HM
     have HC:Hid (_):=HR.out _ x s _ _ w6 H7.out (by omega) HW.out
     clear HR HW H7 D3 D4 D5 D6 H0
     go_wp2_with fail
     refine Calls.mono HC.out ?_
     rintro e w7 ⟨rfl,t,H8⟩
     clear HC
     go_wp2_with fail
     go_loopw [19] (fun v19 wy=>∃ q:Nat,v19=.int .i64 (q:Int)/\q<=n/\Hid (WQ F (fun k=>k=w1.heap.size) w x n s t wy)) (fun v19 _=>n-(intOf v19).toNat)
     case atStart=>exact ⟨0,rfl,by omega,H8⟩
     case round =>
      clear H8
      obtain ⟨q,rfl,hq,H9⟩:=hrel
      by_cases hqn:q<n
      ·have hqI:(q:Int)<(n:Int):=by omega
       clear L1 L2 L3 L4 HH4
       go_wp2_with fail
       refine Calls.mono (HT1.out _ x s t _ q H9.out hqn) ?_
       rintro e a1 ⟨u1,rfl,z1,I1,K1⟩
       clear H9
       go_wp2_with fail
       refine Calls.mono (HT2.out _ x s t _ q K1.out hqn) ?_
       rintro e a2 ⟨rfl,K2⟩
       clear K1
       go_wp2_with fail
       refine Calls.mono (HT3.out _ x s t _ q K2.out hqn) ?_
       rintro e a3 ⟨u3,rfl,z3,I3,I4,K3⟩
       clear K2 HT1 HT2 HT3
       go_wp2_with fail
       refine Calls.mono (HH1.out u1 _ z1 I1.out) ?_
       rintro e a4 ⟨rfl,h4⟩
       rw[h4]
       clear h4 a4 HH1
       go_wp2_with fail
       refine Calls.mono (HH2.out u3 _ z3 I3.out) ?_
       rintro e a4 ⟨rfl,h4⟩
       rw[h4]
       clear h4 a4 HH2
       go_wp2_with fail
       refine Calls.mono (HH3.out u3 _ z3 I4.out) ?_
       rintro e a4 ⟨rfl,h4⟩
       rw[h4]
       clear h4 a4 HH3
       go_wp2
       go_roundw
       case rel=>exact ⟨q+1,by first | rfl | go_num,by omega,K3⟩
       case measure=>simp[intOf] <;> omega
      ·have hqI:¬(q:Int)<(n:Int):=by omega
       clear HT1 HT2 HT3 HH1 HH2 HH3
       go_wp2_with fail
       refine Calls.mono (L1.out _ x s t _ H9.out) ?_
       rintro e a1 ⟨rfl,K1⟩
       clear H9 L1
       go_wp2_with fail
       refine Calls.mono (L2.out _ x s t _ K1.out) ?_
       rintro e a2 ⟨rfl,K2⟩
       clear K1 L2
       go_wp2_with fail
       refine Calls.mono (L3.out _ x s t _ K2.out) ?_
       rintro e a3 ⟨u1,rfl,z1,I1,K3⟩
       clear K2 L3
       go_wp2_with fail
       refine Calls.mono (L4.out _ x s t _ K3.out) ?_
       rintro e a4 ⟨rfl,K4⟩
       clear K3 L4
       go_wp2_with fail
       refine Calls.mono (HH4.out u1 _ z1 I1.out) ?_
       rintro e a5 ⟨rfl,h5⟩
       rw[h5]
       clear h5 a5 HH4
       go_wp2
       go_ret
       exact ⟨rfl,K4.out.k.bel⟩
end Go.Proofs.YtfmmllpjgkgeaaaGreatDoor

