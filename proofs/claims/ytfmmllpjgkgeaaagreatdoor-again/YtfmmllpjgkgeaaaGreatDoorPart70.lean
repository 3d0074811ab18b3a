import Derived.Test.YtfmmllpjgkgeaaaGreatDoorPart52
set_option linter.unusedVariables false
set_option linter.unusedSimpArgs false
namespace Go.Proofs.YtfmmllpjgkgeaaaGreatDoor
open Go.RowKit
variable {F:Stt} {G:List Nat->Stt}

theorem row_shape {w:World} {B:Nat} {e:TypeId} {v:Value} {n size:Nat} {xs:List Value} (h:w.ownsRow B e size v n xs):∃ ao cap,v=.slice ao n cap/\(0<n->∃ g,ao=some ⟨g,0,none⟩/\n<=cap):=by
 obtain ⟨_,⟨h1,h2⟩ | ⟨g,cap,cur,h2,h3,_,h4,_⟩⟩:=h
 ·exact ⟨none,0,by rw[h1,h2],fun h=>by omega⟩
 ·exact ⟨_,cap,h2,fun _=>⟨g,rfl,h4⟩⟩

set_option maxHeartbeats 8000000 in
set_option maxRecDepth 100000 in
theorem Again_any (hF:ProgOK F) (hP:ProgFrame F) (hT:ProgTick F) (hW:ProgWait F G) (w:World) (hG:Glob w) (r room:Int) (hr:i64B r) (hm:i64B room) (v:Value) (l:List ActD) (hv:ActsV w v l) (v3:Value) (lo:List Int) (hv3:IntsV w v3 lo) :
  Calls Tryz.prog 11 #[.int .i64 r,.int .i64 room,v,v3] w fun e w'=>e=.returned (.bool true)/\Below w.heap.size w w':=by
 obtain ⟨⟨ad,cap,rfl,hacts⟩,hok⟩:=hv
 obtain ⟨⟨ad3,cap3,rfl,hints⟩,hok3⟩:=hv3
 have hn:=sizeN_le r
 have hroom:=pickN_lt room (show 1<=51 by omega)
 have Hs:Hid (Calls Tryz.prog 16 #[.int .i64 r] w fun r' w'=>r'=.returned (.int .i64 (sizeN r:Int))/\w'=w):=ksize_any r w hr
 have Hp:Hid (∀ wx,Calls Tryz.prog 18 #[.int .i64 room,.int .i64 51] wx fun r w'=>r=.returned (.int .i64 (pickN room 51:Int))/\w'=wx):=fun wx=>kpick_any room 51 wx hm (by decide) (by decide)
 have Hc:Hid (Calls Tryz.prog 17 #[.int .i64 (sizeN r:Int),.int .i64 (pickN room 51:Int)] w fun e w'=>∃ x,e=.returned (.pointer (some ⟨x,0,none⟩))/\Hid (SI F w x w'.heap.size (sizeN r) 0 (zS (sizeN r)) [] (.slice none 0 0) (w'.alloc (.cells #[.int .i64 0,.int .i64 2] 32)))):=by
  refine Calls.mono (cluster_any hF w hG (sizeN r) (pickN room 51) hn (by omega)) ?_
  rintro e w' ⟨x,rfl,hk⟩
  exact ⟨x,rfl,(AI.start hP hn hk).less (rowT_nil _) (Or.inl rfl),World.ownsRow_nil _ _ _ _,fun f hf=>by simp at hf,by simp⟩
 have HA:Hid (∀ i (hi:i<l.length),_):=fun i hi=>ActsV.at hacts i hi
 have HA3:Hid (∀ i (hi:i<lo.length),_):=fun i hi=>IntsV.at hints i hi
 have HPl:Hid (∀ x tb i s sl ov wr (hi:i<l.length),SI F w x tb (sizeN r) i s sl ov wr->i<=400->Calls Tryz.prog 19 #[.pointer (some ⟨tb,0,none⟩),.pointer (some ⟨x,0,none⟩),.int .i64 (sizeN r:Int),.agg #[.int .i64 l[i].kd,.int .i64 l[i].i,.int .i64 l[i].j,.int .i64 l[i].k,.int .i64 l[i].v]] wr fun e w'=>e=.returned (.bool true)/\∃ s',Hid ((pickN l[i].kd 8=3\/pickN l[i].kd 8=4)->s.fs.length<s'.fs.length->SentF s' s'.fs.length)/\Hid (SI F w x tb (sizeN r) (i+1) s' sl ov w')):=fun x tb i s sl ov wr hi h hi4=>h.play hF hP hT hi4 (hok _ (List.getElem_mem hi))
 have HpK:Hid (∀ i (hi:i<l.length) wx,Calls Tryz.prog 18 #[.int .i64 l[i].kd,.int .i64 8] wx fun r' w'=>r'=.returned (.int .i64 (pickN l[i].kd 8:Int))/\w'=wx):=fun i hi wx=>kpick_any l[i].kd 8 wx (hok _ (List.getElem_mem hi)).1 (by decide) (by decide)
 have HpO:Hid (∀ i (hi:i<lo.length) (m:Nat) wx,1<=m->m<=1000->Calls Tryz.prog 18 #[.int .i64 lo[i],.int .i64 (m:Int)] wx fun r' w'=>r'=.returned (.int .i64 (pickN lo[i] m:Int))/\w'=wx):=fun i hi m wx h1 h2=>kpick_any lo[i] m wx (hok3 _ (List.getElem_mem hi)) h1 (by omega)
 have HDl:Hid (∀ x tb c sl ov j s wr (q:Nat) (hq:q<List.length sl),DI F w x tb (sizeN r) c sl ov j s wr->c<=400->q<=j->Calls Tryz.prog 31 #[.pointer (some ⟨x,0,none⟩),.int .i64 (sl[q]:Int)] wr fun e w'=>∃ a:Int,e=.returned (.tuple #[.int .i64 a,.int .i64 0])/\∃ s',Hid (q<j->s'.es=s.es/\s'.kn=s.kn)/\Hid (DI F w x tb (sizeN r) (c+1) sl ov j s' w')/\Hid (q=j->DI F w x tb (sizeN r) (c+1) sl ov (j+1) s' w')):=fun x tb c sl ov j s wr q hq h hc hj=>h.step hF hc hq hj
 have HBd:Hid (∀ wt x tb c sl ov j s wr,DI (G wt) w x tb (sizeN r) c sl ov j s wr->c<=400->Calls Tryz.prog 29 #[.pointer (some ⟨x,0,none⟩),.int .i64 (sizeN r:Int)] wr fun e w'=>e=.returned (.string ⟨(boardTo s wt (sizeN r)).toArray⟩)/\Hid (DI (G wt) w x tb (sizeN r) c sl ov j s w')):=fun wt x tb c sl ov j s wr h hc=>h.board hW hc
 have HDg:Hid (∀ wt x tb c sl ov j s wr (q:Nat) (hq:q<List.length sl),DI (G wt) w x tb (sizeN r) c sl ov j s wr->c<=400->q<j->Calls Tryz.prog 31 #[.pointer (some ⟨x,0,none⟩),.int .i64 (sl[q]:Int)] wr fun e w'=>∃ a:Int,e=.returned (.tuple #[.int .i64 a,.int .i64 0])/\∃ s',Hid (s'.es=s.es/\s'.kn=s.kn)/\Hid (DI (G wt) w x tb (sizeN r) (c+1) sl ov j s' w')):=fun wt x tb c sl ov j s wr q hq h hc hj=>h.again hW hc hq hj
 have HLf:Hid (∀ x tb c sl ov j s wr,DI F w x tb (sizeN r) c sl ov j s wr->∃ wt,DI (G wt) w x tb (sizeN r) c sl ov j s wr):=fun x tb c sl ov j s wr h=>h.lift hW
 have HP:Hid (ProgFrame F):=hP
 obtain ⟨hn2,hn4⟩:=hn
 obtain ⟨i0,hi0,hz0,hz1,hz2⟩:=info_parts Tryz.info3
 clear hF hP hT hW hG hr hm hacts hok hroom hints hok3
 generalize sizeN r=n at *
 generalize pickN room 51=rm at *
 go_enter Tryz.func11,Tryz.ntmps11
 go_wp2_with fail
 refine Calls.mono Hs.out ?_
 rintro e w1 ⟨rfl,h1⟩
 rw[h1]
 clear h1 w1
 go_wp2_with fail
 refine Calls.mono (Hp.out _) ?_
 rintro e w1 ⟨rfl,h1⟩
 rw[h1]
 clear h1 w1
 go_wp2_with fail
 refine Calls.mono Hc.out ?_
 rintro e w1 ⟨x,rfl,H1⟩
 clear Hs Hp Hc
 go_wp2_with fail
 go_loopw [12,13] (fun v12 v13 wr=>∃ (i:Nat) (ov:Value),ov=v12/\v13=.int .i64 (i:Int)/\i<=80/\Hid (∃ s sl,SI F w x w1.heap.size n i s sl ov wr)) (fun _ v13 _=>80-(intOf v13).toNat)
 case atStart=>exact ⟨0,_,rfl,rfl,by omega,_,_,H1.out⟩
 case round =>
  clear H1
  obtain ⟨i,ov,hov,rfl,hi80,HI⟩:=hrel
  subst hov
  obtain ⟨s,sl,HS⟩:∃ s sl,Hid (SI F w x w1.heap.size n i s sl ov wr):=HI.out
  clear HI
  by_cases hgo:i<l.length/\i<80
  ·obtain ⟨hi,hi8⟩:=hgo
   obtain ⟨b,off,rfl,hcap,hcell⟩:=HA.out i hi
   have Hcell:Hid (_):=hcell
   obtain ⟨d0,d1,d2,d3,d4⟩:=hcell wr HS.out.a.k.bel
   have HPli:Hid (_):=HPl.out x w1.heap.size i s sl ov wr hi HS.out (by omega)
   have HpKi:Hid (_):=HpK.out i hi
   have hlen:=HS.out.len
   have hfl:=HS.out.a.ok.fl
   have t0:wr.cell? ⟨w1.heap.size,0,none⟩=some (.int .i64 (s.fs.length:Int)):=HS.out.a.t.cell 0
   clear hcell HpK HPl HA HA3 HpO HDl HBd HDg HLf HS
   have hkd:=pickN_lt l[i].kd (show 1<=8 by omega)
   generalize l[i].kd=q0 at *
   generalize l[i].i=q1 at *
   generalize l[i].j=q2 at *
   generalize l[i].k=q3 at *
   generalize l[i].v=q4 at *
   generalize pickN q0 8=kd at *
   generalize s.fs.length=N at *
   have hiI:(i:Int)<(l.length:Int):=by omega
   have hi8I:(i:Int)<80:=by omega
   go_wp2_with fail
   refine Calls.mono HPli.out ?_
   rintro e w2 ⟨rfl,s',Hsent,HS2⟩
   clear HPli d0 d1 d2 d3 d4 t0
   obtain ⟨d0,d1,d2,d3,d4⟩:=Hcell.out w2 HS2.out.a.k.bel
   have t0:w2.cell? ⟨w1.heap.size,0,none⟩=some (.int .i64 (s'.fs.length:Int)):=HS2.out.a.t.cell 0
   have hfl2:=HS2.out.a.ok.fl
   clear d1 d2 d3 d4 Hcell
   go_wp2_with fail
   refine Calls.mono (HpKi.out _) ?_
   rintro e w3 ⟨rfl,h3⟩
   rw[h3]
   clear h3 w3 HpKi
   by_cases hk:kd=3\/kd=4
   ·by_cases hlt:N<s'.fs.length
    ·have Hf:Hid (SentF s' s'.fs.length):=Hsent.out hk hlt
     have hltI:(N:Int)<(s'.fs.length:Int):=by omega
     clear Hsent
     have hbs:w.heap.size<=w2.heap.size:=HS2.out.a.k.bel.size
     have hown:=HS2.out.r
     generalize s'.fs.length=M at *
     rcases hk with rfl | rfl
     all_goals
      go_wp2_with (at_builtin;refine wpList_append_own _ rfl (.tmp 79) (.tmp 84) 42 rfl w.heap.size 3 i0 (.int .i64 0) 1 8 Tryz.underlying42 hi0 hz0 hz1 hz2 rfl (by decide) _ _ _ rfl (hown.alloc _) ⟨w2.heap.size,0,none⟩ 1 1 [.int .i64 (M:Int)] rfl rfl (cell_one_new _ _ _) (by intro u hu;simp at hu;subst hu;rfl) (by unfold maxLen;omega) (by omega) (by simp;omega) ?_;intro v2 w3 hown2 hg2 _;have HN:Hid (SI F w x w1.heap.size n (i+1) s' (sl ++ [M]) v2 w3):=HS2.out.note HP.out (by omega) Hf.out hown2 hg2;clear hown2 hg2 hown)
      go_roundw
      case rel=>exact ⟨i+1,_,rfl,by first | rfl | go_num,by omega,_,_,HN.out⟩
      case measure=>simp[intOf] <;> omega
    ·have hltI:¬(N:Int)<(s'.fs.length:Int):=by omega
     clear Hsent
     generalize s'.fs.length=M at *
     rcases hk with rfl | rfl
     all_goals
      go_wp2
      go_roundw
      case rel=>exact ⟨i+1,_,rfl,by first | rfl | go_num,by omega,_,_,HS2.out⟩
      case measure=>simp[intOf] <;> omega
   ·have hk3:¬(kd:Int)=3:=by omega
    have hk4:¬(kd:Int)=4:=by omega
    clear Hsent
    go_wp2
    go_roundw
    case rel=>exact ⟨i+1,_,rfl,by first | rfl | go_num,by omega,_,_,HS2.out⟩
    case measure=>simp[intOf] <;> omega
  ·have hex:(¬(i:Int)<(l.length:Int))\/((i:Int)<(l.length:Int)/\¬(i:Int)<80):=by omega
   have hlen:=HS.out.len
   have HD0:Hid (DI F w x w1.heap.size n i sl ov 0 s wr):=HS.out.deliver
   obtain ⟨ao,oc,rfl,hsh⟩:=row_shape HS.out.r
   clear hgo HPl HpK HA HS
   rcases hex with hx | ⟨hx,hx2⟩
   all_goals
    go_wp2_with fail
    go_loopw [17] (fun v17 wy=>∃ q:Nat,v17=.int .i64 (q:Int)/\q<=sl.length/\Hid (∃ s',DI F w x w1.heap.size n (i+q) sl (.slice ao sl.length oc) q s' wy)) (fun v17 _=>sl.length-(intOf v17).toNat)
    case atStart=>exact ⟨0,rfl,by omega,s,HD0.out⟩
    case round =>
     clear HD0
     obtain ⟨q,rfl,hq,HI⟩:=hrel
     obtain ⟨s1,HD1⟩:∃ s',Hid (DI F w x w1.heap.size n (i+q) sl (.slice ao sl.length oc) q s' wr):=HI.out
     clear HI
     by_cases hqn:q<sl.length
     ·have hqI:(q:Int)<(sl.length:Int):=by omega
      obtain ⟨g,hao,hoc⟩:=hsh (by omega)
      subst hao
      have cq:wr.cell? ⟨g,q,none⟩=some (.int .i64 (sl[q]:Int)):=by
       rw[HD1.out.r.cellAt q (by omega)];exact natsV_get sl hqn
      have HC:Hid (_):=HDl.out x w1.heap.size (i+q) sl _ q s1 wr q hqn HD1.out (by omega) (Nat.le_refl _)
      clear HDl HBd HDg HLf HA3 HpO hsh HD1
      generalize sl[q]=fq at *
      go_wp2_with fail
      refine Calls.mono HC.out ?_
      rintro e w2 ⟨a,rfl,s2,-,-,HN⟩
      have HN2:Hid (DI F w x w1.heap.size n (i+(q+1)) sl (.slice (some ⟨g,0,none⟩) sl.length oc) (q+1) s2 w2):=HN.out (by first | rfl | trivial)
      clear HC HN
      go_wp2
      go_roundw
      case rel=>exact ⟨q+1,by first | rfl | go_num,by omega,s2,HN2.out⟩
      case measure=>simp[intOf] <;> omega
     ·have hqI:¬(q:Int)<(sl.length:Int):=by omega
      have hql:q=sl.length:=by omega
      have HD2:Hid (DI F w x w1.heap.size n (i+sl.length) sl (.slice ao sl.length oc) sl.length s1 wr):=by
       have h9:=HD1.out
       rw[hql] at h9
       exact h9
      clear HD1 hql
      obtain ⟨wt,HD2w⟩:∃ wt,Hid (DI (G wt) w x w1.heap.size n (i+sl.length) sl (.slice ao sl.length oc) sl.length s1 wr):=HLf.out _ _ _ _ _ _ _ _ HD2.out
      clear HLf HDl HD2
      go_wp2_with fail
      refine Calls.mono (HBd.out wt x w1.heap.size _ sl _ _ s1 wr HD2w.out (by omega)) ?_
      rintro e w2 ⟨rfl,HD3⟩
      clear HD2w
      have Hu:Hid (∀ s',s'.es=s1.es->s'.kn=s1.kn->(⟨(boardTo s' wt n).toArray⟩:ByteArray)=⟨(boardTo s1 wt n).toArray⟩):=fun s' e1 e2=>by rw[board_eq e1 e2]
      generalize hu1:(⟨(boardTo s1 wt n).toArray⟩:ByteArray)=u at *
      clear hu1
      go_wp2_with fail
      go_loopw [21] (fun v21 wy=>∃ k:Nat,v21=.int .i64 (k:Int)/\k<=80/\Hid (∃ s',s'.es=s1.es/\s'.kn=s1.kn/\DI (G wt) w x w1.heap.size n (i+sl.length+k) sl (.slice ao sl.length oc) sl.length s' wy)) (fun v21 _=>80-(intOf v21).toNat)
      case atStart=>exact ⟨0,rfl,by omega,s1,rfl,rfl,HD3.out⟩
      case round =>
       clear HD3
       obtain ⟨k,rfl,hk80,HI⟩:=hrel
       obtain ⟨s3,He1,He2,HD4⟩:∃ s':St,Hid (s'.es=s1.es)/\Hid (s'.kn=s1.kn)/\Hid (DI (G wt) w x w1.heap.size n (i+sl.length+k) sl (.slice ao sl.length oc) sl.length s' wr):=HI.out
       clear HI
       by_cases hgo:(k<lo.length/\k<80)/\0<sl.length
       ·obtain ⟨⟨hk,hk8⟩,hs0⟩:=hgo
        obtain ⟨g,hao,hoc⟩:=hsh (by omega)
        subst hao
        obtain ⟨b3,off3,had3,hcap3,hcell3⟩:=HA3.out k hk
        subst had3
        have d3:=hcell3 wr HD4.out.k.bel
        have hpl:=pickN_lt lo[k] (show 1<=sl.length by omega)
        have cq:wr.cell? ⟨g,pickN lo[k] sl.length,none⟩=some (.int .i64 (sl[pickN lo[k] sl.length]:Int)):=by
         rw[HD4.out.r.cellAt _ (by omega)];exact natsV_get sl hpl
        have HC:Hid (_):=HDg.out wt x w1.heap.size (i+sl.length+k) sl _ _ s3 wr (pickN lo[k] sl.length) hpl HD4.out (by omega) (by omega)
        have HpOk:Hid (_):=HpO.out k hk sl.length wr (by omega) (by omega)
        have Hpl:Hid (pickN lo[k] sl.length<sl.length):=hpl
        clear HDg HBd HA3 HpO hsh HD4 hcell3
        generalize hfq:sl[pickN lo[k] sl.length]=fq at *
        clear hfq
        generalize lo[k]=ok at *
        generalize pickN ok sl.length=p at *
        have hkI:(k:Int)<(lo.length:Int):=by omega
        have hk8I:(k:Int)<80:=by omega
        have hs0I:(0:Int)<(sl.length:Int):=by omega
        have hpI:(p:Int)<(sl.length:Int):=by omega
        go_wp2_with fail
        refine Calls.mono HpOk.out ?_
        rintro e w4 ⟨rfl,h4⟩
        rw[h4]
        clear h4 w4 HpOk
        go_wp2_with fail
        refine Calls.mono HC.out ?_
        rintro e w4 ⟨a,rfl,s4,Hsame,HN⟩
        clear HC
        have HE:Hid (s4.es=s1.es/\s4.kn=s1.kn):=⟨Hsame.out.1.trans He1.out,Hsame.out.2.trans He2.out⟩
        have HN2:Hid (DI (G wt) w x w1.heap.size n (i+sl.length+(k+1)) sl (.slice (some ⟨g,0,none⟩) sl.length oc) sl.length s4 w4):=HN.out
        clear Hsame HN He1 He2
        go_wp2
        go_roundw
        case rel=>exact ⟨k+1,by first | rfl | go_num,by omega,s4,HE.out.1,HE.out.2,HN2.out⟩
        case measure=>simp[intOf] <;> omega
       ·have hex3:(¬(k:Int)<(lo.length:Int))\/((k:Int)<(lo.length:Int)/\¬(k:Int)<80)\/((k:Int)<(lo.length:Int)/\(k:Int)<80/\¬(0:Int)<(sl.length:Int)):=by omega
        have HC:Hid (_):=HBd.out wt x w1.heap.size _ sl _ _ s3 wr HD4.out (by omega)
        have hu3:=Hu.out s3 He1.out He2.out
        rw[hu3] at HC
        clear hgo HBd HDg HA3 HpO hsh HD4 Hu hu3 He1 He2
        rcases hex3 with hy | ⟨hy,hy2⟩ | ⟨hy,hy2,hy3⟩
        all_goals
         go_wp2_with fail
         refine Calls.mono HC.out ?_
         rintro e w5 ⟨rfl,HD6⟩
         clear HC
         go_wp2
         go_ret
         exact ⟨rfl,HD6.out.k.bel⟩
end Go.Proofs.YtfmmllpjgkgeaaaGreatDoor

