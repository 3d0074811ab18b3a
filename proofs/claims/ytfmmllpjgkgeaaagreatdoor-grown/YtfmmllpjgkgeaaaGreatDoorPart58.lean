import Derived.Test.YtfmmllpjgkgeaaaGreatDoorPart51
set_option linter.unusedVariables false
set_option linter.unusedSimpArgs false
namespace Go.Proofs.YtfmmllpjgkgeaaaGreatDoor
open Go.RowKit
variable {F:Stt}

set_option maxHeartbeats 8000000 in
set_option maxRecDepth 100000 in
theorem Grown_any (hF:ProgOK F) (hP:ProgFrame F) (hT:ProgTick F) (w:World) (hG:Glob w) (r room:Int) (hr:i64B r) (hm:i64B room) (v:Value) (l:List ActD) (hv:ActsV w v l) :
  Calls Tryz.prog 7 #[.int .i64 r,.int .i64 room,v] w fun e w'=>e=.returned (.bool true)/\Below w.heap.size w w':=by
 obtain ⟨⟨ad,cap,rfl,hacts⟩,hok⟩:=hv
 have hn:=sizeN_le r
 have hroom:=pickN_lt room (show 1<=51 by omega)
 have Hs:Hid (Calls Tryz.prog 16 #[.int .i64 r] w fun r' w'=>r'=.returned (.int .i64 (sizeN r:Int))/\w'=w):=ksize_any r w hr
 have Hp:Hid (∀ wx,Calls Tryz.prog 18 #[.int .i64 room,.int .i64 51] wx fun r w'=>r=.returned (.int .i64 (pickN room 51:Int))/\w'=wx):=fun wx=>kpick_any room 51 wx hm (by decide) (by decide)
 have Hc:Hid (Calls Tryz.prog 17 #[.int .i64 (sizeN r:Int),.int .i64 (pickN room 51:Int)] w fun e w'=>∃ x,e=.returned (.pointer (some ⟨x,0,none⟩))/\Hid (AI F (fun k=>k=w'.heap.size) w x w'.heap.size (sizeN r) 0 (zS (sizeN r)) (w'.alloc (.cells #[.int .i64 0,.int .i64 2] 32)))):=by
  refine Calls.mono (cluster_any hF w hG (sizeN r) (pickN room 51) hn (by omega)) ?_
  rintro e w' ⟨x,rfl,hk⟩
  exact ⟨x,rfl,AI.start hP hn hk⟩
 have HA:Hid (∀ i (hi:i<l.length),_):=fun i hi=>ActsV.at hacts i hi
 have HPl:Hid (∀ x tb i s ov wr (hi:i<l.length),GI F w x tb (sizeN r) i s ov (sizeN r) wr->i<=400->Calls Tryz.prog 19 #[.pointer (some ⟨tb,0,none⟩),.pointer (some ⟨x,0,none⟩),.int .i64 (sizeN r:Int),.agg #[.int .i64 l[i].kd,.int .i64 l[i].i,.int .i64 l[i].j,.int .i64 l[i].k,.int .i64 l[i].v]] wr fun e w'=>e=.returned (.bool true)/\∃ s',Hid (∀ k,cnt (s.kn.getD k [])+(if pickN l[i].kd 8<3/\k=pickN l[i].i (sizeN r) then 1 else 0)<=cnt (s'.kn.getD k [])/\(pickN l[i].kd 8≠5->pickN l[i].kd 8≠6->cnt (s'.kn.getD k [])=cnt (s.kn.getD k [])+(if pickN l[i].kd 8<3/\k=pickN l[i].i (sizeN r) then 1 else 0)))/\Hid (∀ k,cnt (s'.kn.getD k [])<=1000/\cnt (s.kn.getD k [])<=1000)/\Hid (GJ F w x tb (sizeN r) (i+1) s s' ov w')):=fun x tb i s ov wr hi h hi4=>by
  refine Calls.mono (h.play hF hP hT hi4 (hok _ (List.getElem_mem hi))) ?_
  rintro e w' ⟨rfl,s',hp,h0,h2⟩
  refine ⟨rfl,s',hp.cnts h0 hi4,fun k=>⟨?_, ?_⟩,h2⟩
  ·have h3:=cnt_le (s'.kn.getD k [])
   have h4:=kl_get h2.a.ok.kl k
   have h5:=h2.a.ok.ev
   omega
  ·have h3:=cnt_le (s.kn.getD k [])
   have h4:=kl_get h0.kl k
   have h5:=h0.ev
   omega
 have HK1:Hid (∀ x tb i s ov (k:Nat) wr,GI F w x tb (sizeN r) i s ov k wr->k<sizeN r->Calls Tryz.prog 22 #[.pointer (some ⟨x,0,none⟩),.int .i64 (k:Int)] wr fun e w'=>e=.returned (.tuple #[.int .i64 (cnt (s.kn.getD k []):Int),.int .i64 0])/\Hid (GI F w x tb (sizeN r) i s ov k w')):=fun x tb i s ov k wr h hk=>h.knows hF hk
 have HK2:Hid (∀ x tb i s s' ov (k:Nat) wr,GJ F w x tb (sizeN r) i s s' ov wr->k<sizeN r->Calls Tryz.prog 22 #[.pointer (some ⟨x,0,none⟩),.int .i64 (k:Int)] wr fun e w'=>e=.returned (.tuple #[.int .i64 (cnt (s'.kn.getD k []):Int),.int .i64 0])/\Hid (GJ F w x tb (sizeN r) i s s' ov w')):=fun x tb i s s' ov k wr h hk=>h.knows hF hk
 have HpK:Hid (∀ i (hi:i<l.length) wx,Calls Tryz.prog 18 #[.int .i64 l[i].kd,.int .i64 8] wx fun r' w'=>r'=.returned (.int .i64 (pickN l[i].kd 8:Int))/\w'=wx):=fun i hi wx=>kpick_any l[i].kd 8 wx (hok _ (List.getElem_mem hi)).1 (by decide) (by decide)
 have HpI:Hid (∀ i (hi:i<l.length) wx,Calls Tryz.prog 18 #[.int .i64 l[i].i,.int .i64 (sizeN r:Int)] wx fun r' w'=>r'=.returned (.int .i64 (pickN l[i].i (sizeN r):Int))/\w'=wx):=fun i hi wx=>kpick_any l[i].i (sizeN r) wx (hok _ (List.getElem_mem hi)).2.1 (by omega) (by omega)
 have HP:Hid (ProgFrame F):=hP
 obtain ⟨hn2,hn4⟩:=hn
 obtain ⟨i0,hi0,hz0,hz1,hz2⟩:=info_parts Tryz.info3
 clear hF hP hT hG hr hm hacts hok hroom
 generalize sizeN r=n at *
 generalize pickN room 51=rm at *
 go_enter Tryz.func7,Tryz.ntmps7
 go_wp2_with fail
 refine Calls.mono Hs.out ?_
 rintro e w1 ⟨rfl,h1⟩
 rw[h1]
 clear h1 w1
 go_wp2_with fail
 refine Calls.mono (Hp.out _) ?_
 rintro e w1 ⟨rfl,h1⟩
 rw[h1]
 clear h1 w1
 go_wp2_with fail
 refine Calls.mono Hc.out ?_
 rintro e w1 ⟨x,rfl,H1⟩
 clear Hs Hp Hc
 go_wp2_with fail
 go_loopw [10] (fun v10 wr=>∃ i:Nat,v10=.int .i64 (i:Int)/\i<=80/\Hid (∃ s,AI F (fun k=>k=w1.heap.size) w x w1.heap.size n i s wr)) (fun v10 _=>80-(intOf v10).toNat)
 case atStart=>exact ⟨0,rfl,by omega,_,H1.out⟩
 case round =>
  clear H1
  obtain ⟨i,rfl,hi80,HI⟩:=hrel
  obtain ⟨s,HS⟩:∃ s,Hid (AI F (fun k=>k=w1.heap.size) w x w1.heap.size n i s wr):=HI.out
  clear HI
  by_cases hgo:i<l.length/\i<80
  ·obtain ⟨hi,hi8⟩:=hgo
   obtain ⟨b,off,rfl,hcap,hcell⟩:=HA.out i hi
   have Hcell:Hid (_):=hcell
   have HpKi:Hid (_):=HpK.out i hi
   have HpIi:Hid (_):=HpI.out i hi
   have HPli:Hid (_):=fun s' ov wr' h=>HPl.out x w1.heap.size i s' ov wr' hi h (by omega)
   clear hcell HpK HpI HPl HA
   generalize l[i].kd=q0 at *
   generalize l[i].i=q1 at *
   generalize l[i].j=q2 at *
   generalize l[i].k=q3 at *
   generalize l[i].v=q4 at *
   have hiI:(i:Int)<(l.length:Int):=by omega
   have hi8I:(i:Int)<80:=by omega
   have HG0:Hid (GI F w x w1.heap.size n i s (.slice none 0 0) 0 wr):=⟨HS.out.less (rowT_nil _) (Or.inl rfl),World.ownsRow_nil _ _ _ _⟩
   clear HS
   go_wp2_with fail
   go_loopw [11,12] (fun v11 v12 wy=>∃ (k:Nat) (ov:Value),ov=v11/\v12=.int .i64 (k:Int)/\k<=n/\Hid (GI F w x w1.heap.size n i s ov k wy)) (fun _ v12 _=>n-(intOf v12).toNat)
   case atStart=>exact ⟨0,_,rfl,rfl,by omega,HG0⟩
   case round =>
    clear HG0
    obtain ⟨k,ov,hov,rfl,hk,HG1⟩:=hrel
    subst hov
    by_cases hkn:k<n
    ·have hkI:(k:Int)<(n:Int):=by omega
     go_wp2_with fail
     refine Calls.mono (HK1.out x _ i s _ k _ HG1.out hkn) ?_
     rintro e w2 ⟨rfl,HG2⟩
     clear HG1 HK1 HK2 HPli HpKi HpIi Hcell
     have hown:=HG2.out.r
     have hbs:w.heap.size<=w2.heap.size:=HG2.out.a.k.bel.size
     have Hsu:Hid (_):=oldsL_succ s k
     generalize (cnt (s.kn.getD k []):Int)=m at *
     go_wp2_with (at_builtin;go_loud (refine wpList_append_own _ rfl (.tmp 52) (.tmp 54) 42 rfl w.heap.size 3 i0 (.int .i64 0) 1 8 Tryz.underlying42 hi0 hz0 hz1 hz2 rfl (by decide) _ _ _ rfl (hown.alloc _) ⟨w2.heap.size,0,none⟩ 1 1 [.int .i64 m] rfl rfl (cell_one_new _ _ _) (by intro u hu;simp at hu;subst hu;rfl) (by unfold maxLen;omega) (by omega) (by simp;omega) ?_);intro v2 w3 hown2 hg2 _;have HG3:Hid (GI F w x w1.heap.size n i s v2 (k+1) w3):=⟨HG2.out.a.row HP.out hown hown2 hg2,by rw[Hsu.out];exact hown2⟩;clear hown2 hg2 HG2 hown)
     go_roundw
     case rel=>exact ⟨k+1,_,rfl,by first | rfl | go_num,by omega,HG3⟩
     case measure=>simp[intOf] <;> omega
    ·have hkI:¬(k:Int)<(n:Int):=by omega
     have hkn2:k=n:=by omega
     have HGn:Hid (GI F w x w1.heap.size n i s ov n wr):=by have h9:=HG1.out;rw[hkn2] at h9;exact h9
     clear HG1 hkn2 HK1
     obtain ⟨g,oc,rfl,hoc,hog⟩:=row_some HGn.out.r (by omega)
     obtain ⟨d0,d1,d2,d3,d4⟩:=Hcell.out wr HGn.out.a.k.bel
     go_wp2_with fail
     refine Calls.mono (HPli.out s _ wr HGn.out) ?_
     rintro e w2 ⟨rfl,s',HC,HB,HJ⟩
     clear HPli HGn d0 d1 d2 d3 d4
     have hkd:=pickN_lt q0 (show 1<=8 by omega)
     generalize pickN q0 8=kd at *
     generalize pickN q1 n=pi at *
     go_wp2_with fail
     go_loopw [16] (fun v16 wy=>∃ q:Nat,v16=.int .i64 (q:Int)/\q<=n/\Hid (GJ F w x w1.heap.size n (i+1) s s' (.slice (some ⟨g,0,none⟩) n oc) wy)) (fun v16 _=>n-(intOf v16).toNat)
     case atStart=>exact ⟨0,rfl,by omega,HJ⟩
     case round =>
      clear HJ
      obtain ⟨q,rfl,hq,HJ1⟩:=hrel
      by_cases hqn:q<n
      ·have hqI:(q:Int)<(n:Int):=by omega
       go_wp2_with fail
       refine Calls.mono (HK2.out x _ (i+1) s s' _ q _ HJ1.out hqn) ?_
       rintro e w3 ⟨rfl,HJ2⟩
       clear HJ1 HK2
       obtain ⟨d0,d1,d2,d3,d4⟩:=Hcell.out w3 HJ2.out.a.k.bel
       have co:w3.cell? ⟨g,q,none⟩=some (.int .i64 (cnt (s.kn.getD q []):Int)):=by
        rw[HJ2.out.r.cellAt q (by omega)];exact oldsL_get s hqn
       obtain ⟨hc1,hc2⟩:=HC.out q
       obtain ⟨hb1,hb2⟩:=HB.out q
       clear d2 d3 d4 HC HB Hcell
       generalize cnt (s.kn.getD q [])=o at *
       generalize cnt (s'.kn.getD q [])=m at *
       go_wp2_with fail
       refine Calls.mono (HpKi.out _) ?_
       rintro e w4 ⟨rfl,h4⟩
       rw[h4]
       clear h4 w4
       by_cases hk3:kd<3
       ·have hk3I:(kd:Int)<3:=by omega
        have hk5:¬(kd:Int)=5:=by omega
        have hk6:¬(kd:Int)=6:=by omega
        go_wp2_with fail
        refine Calls.mono (HpIi.out _) ?_
        rintro e w4 ⟨rfl,h4⟩
        rw[h4]
        clear h4 w4
        have hm:=hc2 (by omega) (by omega)
        by_cases hqp:q=pi
        ·rw[if_pos ⟨hk3,hqp⟩] at hm
         have e1:(m:Int)=(o:Int)+1:=by omega
         have e2:¬(m:Int)<(o:Int)+1:=by omega
         clear hc1 hc2 hm HpIi
         subst hqp
         go_wp2
         go_roundw
         case rel=>exact ⟨q+1,by first | rfl | go_num,by omega,HJ2⟩
         case measure=>simp[intOf] <;> omega
        ·rw[if_neg (fun h=>hqp h.2)] at hm
         have hqpI:¬(q:Int)=(pi:Int):=by omega
         have e1:m=o:=by omega
         subst e1
         clear hc1 hc2 hm hqp
         go_wp2
         go_roundw
         case rel=>exact ⟨q+1,by first | rfl | go_num,by omega,HJ2⟩
         case measure=>simp[intOf] <;> omega
       ·have hk3I:¬(kd:Int)<3:=by omega
        rw[if_neg (fun h=>hk3 h.1)] at hc1 hc2
        have e2:¬(m:Int)<(o:Int):=by omega
        by_cases hk5:kd=5
        ·have hk5I:(kd:Int)=5:=by omega
         clear hc1 hc2 hk5
         go_wp2
         go_roundw
         case rel=>exact ⟨q+1,by first | rfl | go_num,by omega,HJ2⟩
         case measure=>simp[intOf] <;> omega
        ·have hk5I:¬(kd:Int)=5:=by omega
         by_cases hk6:kd=6
         ·have hk6I:(kd:Int)=6:=by omega
          clear hc1 hc2 hk5 hk6
          go_wp2
          go_roundw
          case rel=>exact ⟨q+1,by first | rfl | go_num,by omega,HJ2⟩
          case measure=>simp[intOf] <;> omega
         ·have hk6I:¬(kd:Int)=6:=by omega
          have e1:m=o:=by have:=hc2 hk5 hk6;omega
          subst e1
          clear hc1 hc2 hk5 hk6
          go_wp2
          go_roundw
          case rel=>exact ⟨q+1,by first | rfl | go_num,by omega,HJ2⟩
          case measure=>simp[intOf] <;> omega
      ·have hqI:¬(q:Int)<(n:Int):=by omega
       have HA2:Hid (AI F (fun k=>k=w1.heap.size) w x w1.heap.size n (i+1) s' wr):=HJ1.out.a.less (fun k hk=>Or.inl hk) rfl
       go_wp2
       go_roundw
       case rel=>exact ⟨i+1,by first | rfl | go_num,by omega,s',HA2.out⟩
       case measure=>simp[intOf] <;> omega
  ·have hex:(¬(i:Int)<(l.length:Int))\/((i:Int)<(l.length:Int)/\¬(i:Int)<80):=by omega
   clear hgo HPl HK1 HK2 HpK HpI HA
   rcases hex with hx | ⟨hx,hx2⟩
   all_goals
    go_wp2
    go_ret
    exact ⟨rfl,HS.out.k.bel⟩
end Go.Proofs.YtfmmllpjgkgeaaaGreatDoor

