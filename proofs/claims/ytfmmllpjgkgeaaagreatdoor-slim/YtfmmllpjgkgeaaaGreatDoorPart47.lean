import Derived.Test.YtfmmllpjgkgeaaaGreatDoorPart45
set_option linter.unusedVariables false
set_option linter.unusedSimpArgs false
set_option maxHeartbeats 16000000
set_option maxRecDepth 100000
namespace Go.Proofs.YtfmmllpjgkgeaaaGreatDoor
open Go.RowKit
variable {F:Stt} {R:Nat->Prop} {H:(Nat->Nat->Prop)->(Nat->Prop)->Stt} {L:Nat->Stt}

theorem Slim_any (hF:ProgOK F R) (hR:R 50) (hP:ProgFrame F) (hT:ProgTick F) (hS:ProgSlim F H L) (w:World) (hG:Glob w) (r:Int) (hr:i64B r) (v:Value) (l:List ActD) (hv:ActsV w v l) (v2:Value) (l2:List ActD) (hv2:ActsV w v2 l2) :
  Calls Tryz.prog 13 #[.int .i64 r,v,v2] w fun e w'=>e=.returned (.bool true)/\Below w.heap.size w w':=by
 obtain ⟨⟨ad,cap,rfl,hacts⟩,hok⟩:=hv
 obtain ⟨⟨ad2,cap2,rfl,hacts2⟩,hok2⟩:=hv2
 have hn:=sizeN_le r
 have Hs:Hid (Calls Tryz.prog 16 #[.int .i64 r] w fun r' w'=>r'=.returned (.int .i64 (sizeN r:Int))/\w'=w):=ksize_any r w hr
 have Hc:Hid (Calls Tryz.prog 17 #[.int .i64 (sizeN r:Int),.int .i64 50] w fun e w'=>∃ x,e=.returned (.pointer (some ⟨x,0,none⟩))/\Hid (AI F (fun k=>k=w'.heap.size) w x w'.heap.size (sizeN r) 0 (zS (sizeN r)) (w'.alloc (.cells #[.int .i64 0,.int .i64 2] 32)))):=by
  refine Calls.mono (cluster_any hF w hG (sizeN r) 50 hn (by omega) hR) ?_
  rintro e w' ⟨x,rfl,hk⟩
  exact ⟨x,rfl,AI.start hP hn hk⟩
 have HA:Hid (∀ i (hi:i<l.length),_):=fun i hi=>ActsV.at hacts i hi
 have HA2:Hid (∀ i (hi:i<l2.length),_):=fun i hi=>ActsV.at hacts2 i hi
 have Hok2:Hid (∀ i (hi:i<l2.length),i64B l2[i].k/\i64B l2[i].v):=fun i hi=>⟨(hok2 _ (List.getElem_mem hi)).2.2.2.1,(hok2 _ (List.getElem_mem hi)).2.2.2.2⟩
 have HPl:Hid (∀ T x tb i s wr (hi:i<l.length),AI F T w x tb (sizeN r) i s wr->i<=400->Calls Tryz.prog 19 #[.pointer (some ⟨tb,0,none⟩),.pointer (some ⟨x,0,none⟩),.int .i64 (sizeN r:Int),.agg #[.int .i64 l[i].kd,.int .i64 l[i].i,.int .i64 l[i].j,.int .i64 l[i].k,.int .i64 l[i].v]] wr fun e w'=>e=.returned (.bool true)/\∃ s',Hid (AI F T w x tb (sizeN r) (i+1) s' w')):=fun T x tb i s wr hi h hi4=>by
  refine Calls.mono (h.play hF hP hT hi4 (hok _ (List.getElem_mem hi))) ?_
  rintro e w' ⟨rfl,s',_,h2,_⟩
  exact ⟨rfl,s',h2⟩
 have HSl:Hid (∀ T x tb i s wr,AI F T w x tb (sizeN r) i s wr->i<=80->∃ E B1 B2 B3 C D W,E<=84/\SlimC w x tb (sizeN r) E (fun a b=>i64B a/\i64B b) wr B1 B2 B3 C D W):=fun T x tb i s wr h hi=>slim_calls hF hS h hi
 obtain ⟨hn2,hn4⟩:=hn
 clear hF hP hT hS hG hr hacts hok hacts2 hok2 hR
 generalize sizeN r=n at *
 go_enter Tryz.func13,Tryz.ntmps13
 go_wp2_with fail
 refine Calls.mono Hs.out ?_
 rintro e w1 ⟨rfl,h1⟩
 rw[h1]
 clear h1 w1
 go_wp2_with fail
 refine Calls.mono Hc.out ?_
 rintro e w1 ⟨x,rfl,H1⟩
 clear Hs Hc
 go_wp2_with fail
 go_loopw [10] (fun v10 wr=>∃ i:Nat,v10=.int .i64 (i:Int)/\i<=80/\Hid (∃ s,AI F (fun k=>k=w1.heap.size) w x w1.heap.size n i s wr)) (fun v10 _=>80-(intOf v10).toNat)
 case atStart=>exact ⟨0,rfl,by omega,_,H1.out⟩
 case round =>
  clear H1
  obtain ⟨i,rfl,hi80,HI⟩:=hrel
  obtain ⟨s,HS⟩:∃ s,Hid (AI F (fun k=>k=w1.heap.size) w x w1.heap.size n i s wr):=HI.out
  clear HI
  by_cases hgo:i<l.length/\i<80
  ·obtain ⟨hi,hi8⟩:=hgo
   obtain ⟨b,off,rfl,hcap,hcell⟩:=HA.out i hi
   obtain ⟨d0,d1,d2,d3,d4⟩:=hcell wr HS.out.k.bel
   clear hcell
   have HC:Hid (_):=HPl.out _ x w1.heap.size i s wr hi HS.out (by omega)
   clear HPl HA HA2 HSl Hok2
   generalize l[i].kd=q0 at *
   generalize l[i].i=q1 at *
   generalize l[i].j=q2 at *
   generalize l[i].k=q3 at *
   generalize l[i].v=q4 at *
   have hiI:(i:Int)<(l.length:Int):=by omega
   have hi8I:(i:Int)<80:=by omega
   go_wp2_with fail
   refine Calls.mono HC.out ?_
   rintro e w2 ⟨rfl,s',H2⟩
   clear HC HS d0 d1 d2 d3 d4
   go_wp2
   go_roundw
   case rel=>exact ⟨i+1,by first | rfl | go_num,by omega,s',H2.out⟩
   case measure=>simp[intOf] <;> omega
  ·obtain ⟨E,B1,B2,B3,C,D,W,hE,hSC⟩:=HSl.out _ x w1.heap.size i s wr HS.out hi80
   have K:Hid (SlimC w x w1.heap.size n E (fun a b=>i64B a/\i64B b) wr B1 B2 B3 C D W):=hSC
   have K0:Hid (_):=hSC.round
   clear HPl HA HSl hSC
   have hex:(¬(i:Int)<(l.length:Int))\/((i:Int)<(l.length:Int)/\¬(i:Int)<80):=by omega
   clear hgo HS
   rcases hex with hx | ⟨hx,hx2⟩
   all_goals
    go_wp2_with fail
    refine Calls.mono K0.out ?_
    rintro e w2 ⟨rfl,H2⟩
    clear K0
    go_wp2_with fail
    go_loopw [12,13] (fun v12 v13 wy=>∃ a:Nat,v12=.bool true/\v13=.int .i64 (a:Int)/\a<=n/\Hid (B1 a 0 wy)) (fun _ v13 _=>n-(intOf v13).toNat)
    case atStart=>exact ⟨0,rfl,rfl,by omega,H2⟩
    case round =>
     clear H2
     obtain ⟨a,rfl,rfl,ha,H3⟩:=hrel
     by_cases han:a<n
     ·have haI:(a:Int)<(n:Int):=by omega
      go_wp2_with fail
      go_loopw [12,14] (fun v12 v14 wy=>∃ b:Nat,v12=.bool true/\v14=.int .i64 (b:Int)/\b<=n/\Hid (B1 a b wy)) (fun _ v14 _=>n-(intOf v14).toNat)
      case atStart=>exact ⟨0,rfl,rfl,by omega,H3⟩
      case round =>
       clear H3
       obtain ⟨b,rfl,rfl,hb,H4⟩:=hrel
       by_cases hbn:b<n
       ·have hbI:(b:Int)<(n:Int):=by omega
        by_cases hab:a=b
        ·have H5:Hid (B1 a (b+1) wr):=by
          subst hab
          exact K.out.skip _ _ H4.out
         have hab':(a:Int)=(b:Int):=by omega
         clear H4
         go_wp2
         go_roundw
         case rel=>exact ⟨b+1,rfl,by first | rfl | go_num,by omega,H5⟩
         case measure=>simp[intOf] <;> omega
        ·have hab':¬(a:Int)=(b:Int):=by omega
         have HX:Hid (_):=K.out.exch a b wr han hbn hab H4.out
         go_wp2_with fail
         refine Calls.mono HX.out ?_
         rintro e w4 ⟨rfl,H5⟩
         clear HX H4
         go_wp2
         go_roundw
         case rel=>exact ⟨b+1,rfl,by first | rfl | go_num,by omega,H5⟩
         case measure=>simp[intOf] <;> omega
       ·have hbI:¬(b:Int)<(n:Int):=by omega
        have H5:Hid (B1 (a+1) 0 wr):=by
         have e:b=n:=by omega
         have h4:=H4.out
         rw[e] at h4
         exact K.out.nextI _ _ han h4
        clear H4
        go_wp2
        go_roundw
        case rel=>exact ⟨a+1,rfl,by first | rfl | go_num,by omega,H5⟩
        case measure=>simp[intOf] <;> omega
     ·have haI:¬(a:Int)<(n:Int):=by omega
      have H4:Hid (B2 0 wr):=by
       have e:a=n:=by omega
       have h3:=H3.out
       rw[e] at h3
       exact K.out.allI _ h3
      clear H3
      go_wp2_with fail
      go_loopw [15] (fun v15 wy=>∃ a:Nat,v15=.int .i64 (a:Int)/\a<=n/\Hid (B2 a wy)) (fun v15 _=>n-(intOf v15).toNat)
      case atStart=>exact ⟨0,rfl,by omega,H4⟩
      case round =>
       clear H4
       obtain ⟨a2,rfl,ha2,H5⟩:=hrel
       by_cases han2:a2<n
       ·have haI2:(a2:Int)<(n:Int):=by omega
        have HX:Hid (_):=K.out.tick a2 wr han2 H5.out
        have HY:Hid (∀ wy,B3 a2 wy->_):=fun wy=>K.out.wait a2 wy han2
        go_wp2_with fail
        refine Calls.mono HX.out ?_
        rintro e w5 ⟨rfl,H6⟩
        clear HX H5
        go_wp2_with fail
        refine Calls.mono (HY.out _ H6.out) ?_
        rintro e w6 ⟨rfl,H7⟩
        clear HY H6
        go_wp2
        go_roundw
        case rel=>exact ⟨a2+1,by first | rfl | go_num,by omega,H7⟩
        case measure=>simp[intOf] <;> omega
       ·have haI2:¬(a2:Int)<(n:Int):=by omega
        have H6:Hid (C 0 0 wr):=by
         have e:a2=n:=by omega
         have h5:=H5.out
         rw[e] at h5
         exact K.out.allT _ h5
        clear H5
        have HX:Hid (_):=K.out.send 0 0 wr (by omega) (by omega) H6.out
        go_wp2_with fail
        refine Calls.mono HX.out ?_
        rintro e w5 ⟨f,bt,rfl,hf,hb1,hb2,H7⟩
        have hb3:¬(bt.size:Int) > 80:=by have:=hb2 (by first | rfl | trivial);omega
        clear HX H6 hb1 hb2
        have HX:Hid (_):=K.out.frame 0 0 f bt w5 H7.out
        go_wp2_with fail
        refine Calls.mono HX.out ?_
        rintro e w6 ⟨rfl,H8⟩
        clear HX H7
        go_wp2_with fail
        go_loopw [20,23,24] (fun v20 v23 v24 wy=>∃ k:Nat,v20=.int .i64 0/\v23=.int .i64 (k:Int)/\v24=.int .i64 (k:Int)/\k<=20/\Hid (C k 1 wy)) (fun _ _ v24 _=>20-(intOf v24).toNat)
        case atStart=>exact ⟨0,rfl,rfl,rfl,by omega,H8⟩
        case round =>
         clear H8
         obtain ⟨k,rfl,rfl,rfl,hk,H9⟩:=hrel
         by_cases hgo2:k<l2.length/\k<20
         ·obtain ⟨hkl,hk20⟩:=hgo2
          obtain ⟨b2,off2,had2,hcap2,hcell2⟩:=HA2.out k hkl
          subst had2
          have Hcell:Hid (∀ wy,C k 1 wy->wy.cell? ⟨b2,off2+k*5+3,none⟩=some (.int .i64 l2[k].k)/\wy.cell? ⟨b2,off2+k*5+4,none⟩=some (.int .i64 l2[k].v)):=fun wy h=>by
           have:=hcell2 wy (K.out.tal k 1 wy h).2
           exact ⟨this.2.2.2.1,this.2.2.2.2⟩
          have HC:Hid (∀ wy,C k 1 wy->Calls Tryz.prog 33 #[.int .i64 l2[k].k,.int .i64 l2[k].v] wy fun e w'=>∃ t,e=.returned (.string t)/\Hid (W t)/\Hid (C k 1 w')/\w'.cell? ⟨b2,off2+k*5+3,none⟩=some (.int .i64 l2[k].k)/\w'.cell? ⟨b2,off2+k*5+4,none⟩=some (.int .i64 l2[k].v)):=fun wy h=>by
           refine Calls.mono (K.out.chg _ _ k 1 wy (Hok2.out k hkl) h) ?_
           rintro e w' ⟨t,rfl,h1,h2⟩
           exact ⟨t,rfl,h1,h2,Hcell.out _ h2.out⟩
          have HD:Hid (∀ t wy,W t->C k 1 wy->Calls Tryz.prog 23 #[.pointer (some ⟨x,0,none⟩),.int .i64 0,.string t] wy fun e w'=>e=.returned (.int .i64 0)/\Hid (C (k+1) 1 w')/\w'.cell? ⟨b2,off2+k*5+3,none⟩=some (.int .i64 l2[k].k)/\w'.cell? ⟨b2,off2+k*5+4,none⟩=some (.int .i64 l2[k].v)):=fun t wy h1 h=>by
           refine Calls.mono (K.out.does k 1 t wy hk20 h1 h) ?_
           rintro e w' ⟨rfl,h2⟩
           have:=hcell2 w' (K.out.tal (k+1) 1 w' h2.out).2
           exact ⟨rfl,h2,this.2.2.2.1,this.2.2.2.2⟩
          have HDr:Hid (∀ wy,C k 1 wy->C k 1 wy.drew):=K.out.drew k 1
          obtain ⟨d3,d4⟩:=Hcell.out wr H9.out
          clear hcell2 Hcell K HA2 Hok2
          generalize l2[k].k=q3 at *
          generalize l2[k].v=q4 at *
          have hkI:(k:Int)<(l2.length:Int):=by omega
          have hk8I:(k:Int)<20:=by omega
          go_wp2_with fail
          go_region_held3 (fun w'=>w'.cell? ⟨b2,off2+k*5+3,none⟩=some (.int .i64 q3)/\w'.cell? ⟨b2,off2+k*5+4,none⟩=some (.int .i64 q4)) ((refine ⟨?_, ?_⟩ <;> assumption)) (first | (have Ht2:=Ht;go_at_call 23;refine Calls.mono (HD.out _ _ Ht.out (by first | exact H1.out | exact HDr.out _ H1.out)) ?_;rintro e w4 ⟨rfl,H2,c3,c4⟩) | (go_at_call 33;refine Calls.mono (HC.out _ (by first | exact H9.out | exact HDr.out _ H9.out)) ?_;rintro e w3 ⟨t,rfl,Ht,H1,e3,e4⟩))
          clear HC HD HDr H9 d3 d4
          go_wp2
          go_roundw
          case rel=>exact ⟨k+1,rfl,by first | rfl | go_num,by first | rfl | go_num,by omega,H2⟩
          case measure=>simp[intOf] <;> omega
         ·have hex2:(¬(k:Int)<(l2.length:Int))\/((k:Int)<(l2.length:Int)/\¬(k:Int)<20):=by omega
          have HX:Hid (_):=K.out.send k 1 wr hk (by omega) H9.out
          have HY:Hid (∀ f b wy,D k 1 f b wy->_):=fun f b wy=>K.out.frame k 1 f b wy
          have HZ:Hid (∀ wy,C k 2 wy->_):=K.out.keeps k 2
          have HT:Hid (∀ wy,C k 2 wy->_):=K.out.tal k 2
          clear hgo2 K HA2 Hok2 H9
          rcases hex2 with hy | ⟨hy,hy2⟩
          all_goals
           go_wp2_with fail
           refine Calls.mono HX.out ?_
           rintro e w7 ⟨f7,b7,rfl,hf7,hb7,-,H10⟩
           clear HX
           go_wp2_with fail
           refine Calls.mono (HY.out _ _ _ H10.out) ?_
           rintro e w8 ⟨rfl,H11⟩
           clear HY H10
           go_wp2_with fail
           refine Calls.mono (HZ.out _ H11.out) ?_
           rintro e w9 ⟨rfl,H12⟩
           obtain ⟨c1,hbel⟩:=HT.out _ H12.out
           have HB:Hid (Below w.heap.size w w9):=hbel
           clear HZ HT H11 H12 hbel
           have hle:(b7.size:Int)<=80+80*(k:Int)+8*((E:Int)+(k:Int)):=by omega
           go_wp2
           go_ret
           exact ⟨rfl,HB.out⟩
end Go.Proofs.YtfmmllpjgkgeaaaGreatDoor

