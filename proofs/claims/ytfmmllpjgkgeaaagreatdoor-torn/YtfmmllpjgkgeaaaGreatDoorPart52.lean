import Derived.Test.YtfmmllpjgkgeaaaGreatDoorPart51
set_option linter.unusedVariables false
set_option linter.unusedSimpArgs false
set_option maxHeartbeats 16000000
set_option maxRecDepth 100000
namespace Go.Proofs.YtfmmllpjgkgeaaaGreatDoor
open Go.RowKit
variable {F:Stt} {V:Nat->Nat->Stt} {X:Nat->Stt}

def TornOK (m:Nat) (was will is:ByteArray):Prop:=(is=was\/is=will)/\(m=0->is=was)/\(50000<m->is=will)

theorem Torn_any (hF:ProgOK F) (hP:ProgFrame F) (hTk:ProgTick F) (hZ:ProgTorn F V X) (w:World) (hG:Glob w) (r:Int) (hr:i64B r) (v:Value) (l:List ActD) (hv:ActsV w v l) (ri rk rv rm:Int) (hri:i64B ri) (hrk:i64B rk) (hrv:i64B rv) (hrm:i64B rm) :
  Calls Tryz.prog 12 #[.int .i64 r,v,.int .i64 ri,.int .i64 rk,.int .i64 rv,.int .i64 rm] w fun e w'=>e=.returned (.bool true)/\Below w.heap.size w w':=by
 obtain ⟨⟨ad,cap,rfl,hacts⟩,hok⟩:=hv
 have hn:=sizeN_le r
 have hiN:=pickN_lt ri (show 1<=sizeN r by omega)
 have hmN:=pickN_lt rm (show 1<=100000 by omega)
 have hka:=pickN_lt rk (show 1<=12 by omega)
 have hvb:=pickN_lt rv (show 1<=40 by omega)
 have Hs:Hid (Calls Tryz.prog 16 #[.int .i64 r] w fun r' w'=>r'=.returned (.int .i64 (sizeN r:Int))/\w'=w):=ksize_any r w hr
 have Hpi:Hid (∀ wx,Calls Tryz.prog 18 #[.int .i64 ri,.int .i64 (sizeN r:Int)] wx fun r' w'=>r'=.returned (.int .i64 (pickN ri (sizeN r):Int))/\w'=wx):=fun wx=>kpick_any ri (sizeN r) wx hri (by omega) (by omega)
 have Hpm:Hid (∀ wx,Calls Tryz.prog 18 #[.int .i64 rm,.int .i64 100000] wx fun r' w'=>r'=.returned (.int .i64 (pickN rm 100000:Int))/\w'=wx):=fun wx=>kpick_any rm 100000 wx hrm (by decide) (by decide)
 have Hc:Hid (Calls Tryz.prog 17 #[.int .i64 (sizeN r:Int),.int .i64 20] w fun e w'=>∃ x,e=.returned (.pointer (some ⟨x,0,none⟩))/\Hid (KAt F (fun _=>False) w x (zS (sizeN r)) w')):=cluster_any hF w hG (sizeN r) 20 hn (by omega)
 have Hc2:Hid (∀ x wx,KAt F (fun _=>False) w x (zS (sizeN r)) wx->Calls Tryz.prog 17 #[.int .i64 (sizeN r:Int),.int .i64 20] wx fun e w'=>∃ y,e=.returned (.pointer (some ⟨y,0,none⟩))/\Hid (Two F (fun _=>False) w x y (zS (sizeN r)) (zS (sizeN r)) w')):=fun x wx hx=>by
  refine Calls.mono (cluster_any hF wx hx.glob (sizeN r) 20 hn (by omega)) ?_
  rintro e w' ⟨y,rfl,hy⟩
  exact ⟨y,rfl,Two.make hP hx hy⟩
 have Hst:Hid (∀ x y wx,Two F (fun _=>False) w x y (zS (sizeN r)) (zS (sizeN r)) wx->TI F (fun k=>k=wx.heap.size\/k=wx.heap.size+1) w x y wx.heap.size (wx.heap.size+1) (sizeN r) 0 (zS (sizeN r)) (zS (sizeN r)) ((wx.alloc (.cells #[.int .i64 0,.int .i64 2] 32)).alloc (.cells #[.int .i64 0,.int .i64 2] 32))):=fun x y wx hx=>by
  have h1:=hx.box hP (.cells #[.int .i64 0,.int .i64 2] 32)
  have h2:=h1.box hP (.cells #[.int .i64 0,.int .i64 2] 32)
  have hsz:(wx.alloc (.cells #[.int .i64 0,.int .i64 2] 32)).heap.size=wx.heap.size+1:=by simp
  rw[hsz] at h2
  have hb2:=Blk.new (wx.alloc (.cells #[.int .i64 0,.int .i64 2] 32)) #[.int .i64 0,.int .i64 2] 32
  rw[hsz] at hb2
  exact ⟨h2.less (fun k hk=>hk.elim (fun e=>Or.inl (Or.inr e)) Or.inr),Blk.alloc (Blk.new _ _ _) _,hb2,Or.inl rfl,Or.inr rfl,by omega,KOk.start hn.1 hn.2,KOk.start hn.1 hn.2,⟨rfl,rfl,rfl⟩⟩
 have HA:Hid (∀ i (hi:i<l.length),_):=fun i hi=>ActsV.at hacts i hi
 have HPx:Hid (∀ T x y ta tb i sx sy wr (hi:i<l.length),TI F T w x y ta tb (sizeN r) i sx sy wr->i<=400->Calls Tryz.prog 19 #[.pointer (some ⟨ta,0,none⟩),.pointer (some ⟨x,0,none⟩),.int .i64 (sizeN r:Int),.agg #[.int .i64 l[i].kd,.int .i64 l[i].i,.int .i64 l[i].j,.int .i64 l[i].k,.int .i64 l[i].v]] wr fun e w'=>e=.returned (.bool true)/\∃ sx',Hid (TH F T w x y ta tb (sizeN r) i l[i] sx sx' sy w')):=fun T x y ta tb i sx sy wr hi h hi4=>h.playX hF hP hTk hi4 (hok _ (List.getElem_mem hi))
 have HPy:Hid (∀ T x y ta tb i sx sx' sy wr (hi:i<l.length),TH F T w x y ta tb (sizeN r) i l[i] sx sx' sy wr->i<=400->Calls Tryz.prog 19 #[.pointer (some ⟨tb,0,none⟩),.pointer (some ⟨y,0,none⟩),.int .i64 (sizeN r:Int),.agg #[.int .i64 l[i].kd,.int .i64 l[i].i,.int .i64 l[i].j,.int .i64 l[i].k,.int .i64 l[i].v]] wr fun e w'=>e=.returned (.bool true)/\Hid (∃ sx' sy',TI F T w x y ta tb (sizeN r) (i+1) sx' sy' w')):=fun T x y ta tb i sx sx' sy wr hi h hi4=>h.playY hF hP hTk hi4 (hok _ (List.getElem_mem hi))
 have HChange:Hid (∀ (P Q:Stt) T x y sx sy wr,StbP P->StbP Q->TwoG P Q T w x y sx sy wr->Calls Tryz.prog 33 #[.int .i64 rk,.int .i64 rv] wr fun e w'=>∃ t,e=.returned (.string t)/\Hid (toL t=changeL (pickN rk 12) (pickN rv 40)/\t.size<=300)/\Hid (TwoG P Q T w x y sx sy w')):=fun P Q T x y sx sy wr hp hq h=>by
  refine Calls.mono (kchange_any rk rv wr hrk hrv) ?_
  rintro e w' ⟨t,rfl,h1,h2,hb⟩
  exact ⟨t,rfl,⟨h1,h2⟩,h.below hp hq hb⟩
 -- from the last act on: what the calls in a row come to
 have HAll:Hid (∀ T x y c sx sy wr,TwoG F F T w x y sx sy wr->KOk (sizeN r) c sx->KOk (sizeN r) c sy->Same sx sy->c<=80 ->
   ∃ (was will:ByteArray) (A1 A2 A3 A4:World->Prop) (W:ByteArray->Prop),A1 wr /\
   (∀ wr,A1 wr->Calls Tryz.prog 21 #[.pointer (some ⟨x,0,none⟩),.int .i64 (pickN ri (sizeN r):Int)] wr fun e w'=>e=.returned (.string was)/\Hid (A2 w')) /\
   (∀ wr,A2 wr->Calls Tryz.prog 32 #[.pointer (some ⟨x,0,none⟩),.int .i64 (pickN ri (sizeN r):Int),.int .i64 (pickN rm 100000:Int)] wr fun e w'=>e=.returned (.int .i64 0)/\Hid (A3 w')) /\
   (∀ wr,A3 wr->Calls Tryz.prog 33 #[.int .i64 rk,.int .i64 rv] wr fun e w'=>∃ t,e=.returned (.string t)/\Hid (W t)/\Hid (A4 w')) /\
   (∀ wr t,W t->A4 wr->Calls Tryz.prog 23 #[.pointer (some ⟨x,0,none⟩),.int .i64 (pickN ri (sizeN r):Int),.string t] wr fun e w'=>e=.returned (.int .i64 8)/\∃ is:ByteArray,Hid (TornOK (pickN rm 100000) was will is)/\∃ B1 B2 B3 B4:World->Prop,∃ R:St->World->Prop,∃ u:St->ByteArray,Hid (B1 w') /\
    Hid (∀ wr,B1 wr->Calls Tryz.prog 33 #[.int .i64 rk,.int .i64 rv] wr fun e w'=>∃ t,e=.returned (.string t)/\Hid (W t)/\Hid (B2 w')) /\
    Hid (∀ wr t,W t->B2 wr->Calls Tryz.prog 23 #[.pointer (some ⟨y,0,none⟩),.int .i64 (pickN ri (sizeN r):Int),.string t] wr fun e w'=>e=.returned (.int .i64 0)/\Hid (B3 w')) /\
    Hid (∀ wr,B3 wr->Calls Tryz.prog 21 #[.pointer (some ⟨y,0,none⟩),.int .i64 (pickN ri (sizeN r):Int)] wr fun e w'=>e=.returned (.string will)/\Hid (B3 w')) /\
    Hid (∀ wr,B3 wr->Calls Tryz.prog 22 #[.pointer (some ⟨x,0,none⟩),.int .i64 (pickN ri (sizeN r):Int)] wr fun e w'=>e=.returned (.tuple #[.int .i64 0,.int .i64 3])/\Hid (B3 w')) /\
    Hid (∀ wr,B3 wr->Calls Tryz.prog 34 #[.pointer (some ⟨x,0,none⟩),.int .i64 (pickN ri (sizeN r):Int)] wr fun e w'=>e=.returned (.int .i64 0)/\Hid (B4 w')) /\
    Hid (∀ wr,B4 wr->Calls Tryz.prog 21 #[.pointer (some ⟨x,0,none⟩),.int .i64 (pickN ri (sizeN r):Int)] wr fun e w'=>e=.returned (.string is)/\Hid (B4 w')) /\
    Hid (∀ wr,B4 wr->Calls Tryz.prog 34 #[.pointer (some ⟨x,0,none⟩),.int .i64 (pickN ri (sizeN r):Int)] wr fun e w'=>e=.returned (.int .i64 10)/\Hid (B4 w')) /\
    Hid (∀ wr,B4 wr->Calls Tryz.prog 20 #[.pointer (some ⟨x,0,none⟩),.int .i64 (sizeN r:Int)] wr fun e w'=>e=.returned (.bool true)/\∃ s',Hid (R s' w')) /\
    Hid (∀ s wr (q:Nat),R s wr->q<sizeN r->Calls Tryz.prog 21 #[.pointer (some ⟨x,0,none⟩),.int .i64 (q:Int)] wr fun e w'=>e=.returned (.string (u s))/\Hid (R s w')) /\
    Hid (∀ s wr,R s wr->Below w.heap.size w wr))):=fun T x y c sx sy wr h kx ky sm hc=>by
  obtain ⟨e,he⟩:=evFor kx (by omega) (pickN ri (sizeN r)) hka hvb
  obtain ⟨e',he'⟩:=evFor ky (by omega) (pickN ri (sizeN r)) hka hvb
  have hee:=EvFor.uniq sm he he'
  subst hee
  have hsx:=kx.small (by omega:c<=400)
  have kdx:=kx.did hiN he.ok
  have kdy:=ky.did hiN he.ok
  have hsdy:=kdy.small (by omega)
  have hlx:=kx.len
  have hevx:=kx.ev
  refine ⟨⟨(tellsL sx (pickN ri (sizeN r):Int)).toArray⟩,⟨(tellsL (didS sx (pickN ri (sizeN r)) e') (pickN ri (sizeN r):Int)).toArray⟩,TwoG F F T w x y sx sy,TwoG F F T w x y sx sy,TwoG (V (pickN ri (sizeN r)) (pickN rm 100000)) F T w x y sx sy,TwoG (V (pickN ri (sizeN r)) (pickN rm 100000)) F T w x y sx sy,fun t=>toL t=changeL (pickN rk 12) (pickN rv 40)/\t.size<=300,h,fun wr h=>?_,fun wr h=>?_,fun wr h=>?_,fun wr t ht h=>?_⟩
  ·exact h.tells hF hP hP.stab hsx.1 hsx.2 _
  ·refine Calls.mono (h.call (P':=V (pickN ri (sizeN r)) (pickN rm 100000)) hP.stab (R:=fun e s'=>e=.returned (.int .i64 0)/\s'=sx) (fun S h1 _=>?_)) ?_
   ·refine Calls.mono (hZ.tear wr x S sx _ _ h1 (by omega)) ?_
    rintro e w' ⟨rfl,S',a1,a2,a3⟩
    exact ⟨S',sx,⟨rfl,rfl⟩,a1,a2,a3⟩
   ·rintro e w' ⟨s',⟨rfl,rfl⟩,h2⟩
    exact ⟨rfl,h2⟩
  ·exact HChange.out _ _ T x y sx sy wr (hZ.sT _ _) hP.stab h
  ·refine Calls.mono (h.call (P':=X (pickN ri (sizeN r))) hP.stab (R:=fun e s'=>e=.returned (.int .i64 8)/\(s'=sx\/s'=didS sx (pickN ri (sizeN r)) e')/\(pickN rm 100000=0->s'=sx)/\(280+80*sx.es.length<=pickN rm 100000->s'=didS sx (pickN ri (sizeN r)) e')) (fun S h1 _=>?_)) ?_
   ·refine Calls.mono (hZ.does wr x S sx _ _ t _ _ h.glob h1 (by have:=ht.2;omega) (he.out kx (by omega) hiN ht.1)) ?_
    rintro e w' ⟨rfl,S',s',a1,a2,a3,a4,a5,a6⟩
    exact ⟨S',s',⟨rfl,a1,a2,a3⟩,a4,a5,a6⟩
   ·rintro e2 w' ⟨s1,⟨rfl,b1,b2,b3⟩,h2⟩
    have k1:KOk (sizeN r) (c+1) s1:=by
     rcases b1 with rfl | rfl
     ·exact kx.up (by omega)
     ·exact kdx
    have hs1:=k1.small (by omega)
    have hl1:=k1.len
    have hyd:tellsL (didS sy (pickN ri (sizeN r)) e') (pickN ri (sizeN r):Int)=tellsL (didS sx (pickN ri (sizeN r)) e') (pickN ri (sizeN r):Int):=tells_st (by show sy.es ++ _=sx.es ++ _;rw[sm.es]) (by show sy.kn.set _ _=sx.kn.set _ _;rw[sm.kn,sm.es]) _
    refine ⟨rfl,⟨(tellsL s1 (pickN ri (sizeN r):Int)).toArray⟩,⟨b1.imp (fun h=>by rw[h]) (fun h=>by rw[h]),fun h=>by rw[b2 h],fun h=>by rw[b3 (by omega)]⟩,TwoG (X (pickN ri (sizeN r))) F T w x y s1 sy,TwoG (X (pickN ri (sizeN r))) F T w x y s1 sy,TwoG (X (pickN ri (sizeN r))) F T w x y s1 (didS sy (pickN ri (sizeN r)) e'),TwoG F F T w x y s1 (didS sy (pickN ri (sizeN r)) e'),fun s=>FinZ F T w x y (sizeN r) s (didS sy (pickN ri (sizeN r)) e'),fun s=>⟨(tellsL s 0).toArray⟩,h2,fun wr h=>?_,fun wr t ht h=>?_,fun wr h=>?_,fun wr h=>?_,fun wr h=>?_,fun wr h=>?_,fun wr h=>?_,fun wr h=>?_,fun s wr q h hq=>?_,fun s wr h=>h.two.bel⟩
    ·exact HChange.out _ _ T x y s1 sy wr (hZ.sX _) hP.stab h
    ·refine Calls.mono (h.swap.call (P':=F) (hZ.sX _) (R:=fun e s'=>e=.returned (.int .i64 0)/\s'=didS sy (pickN ri (sizeN r)) e') (fun S h1 _=>?_)) ?_
     ·refine Calls.mono (hF.does wr y S sy _ t 0 _ _ h.glob h1 (by have:=ht.2;omega) (he'.out ky (by omega) hiN ht.1)) ?_
      rintro e w' ⟨rfl,S',a1,a2,a3⟩
      exact ⟨S',_,⟨rfl,rfl⟩,a1,a2,a3⟩
     ·rintro e w' ⟨s',⟨rfl,hs9⟩,h9⟩
      rw[hs9] at h9
      exact ⟨rfl,h9.swap⟩
    ·have:=h.swap.tells hF hP (hZ.sX _) hsdy.1 hsdy.2 (pickN ri (sizeN r):Int)
     rw[hyd] at this
     refine Calls.mono this ?_
     rintro e w' ⟨rfl,h2⟩
     exact ⟨rfl,h2.swap⟩
    ·refine Calls.mono (h.call (P':=X (pickN ri (sizeN r))) hP.stab (R:=fun e s'=>e=.returned (.tuple #[.int .i64 0,.int .i64 3])/\s'=s1) (fun S h1 _=>?_)) ?_
     ·refine Calls.mono (hZ.down wr x S s1 _ h1) ?_
      rintro e w' ⟨rfl,S',a1,a2,a3⟩
      exact ⟨S',_,⟨rfl,rfl⟩,a1,a2,a3⟩
     ·rintro e w' ⟨s',⟨rfl,hs9⟩,h9⟩
      rw[hs9] at h9
      exact ⟨rfl,h9⟩
    ·refine Calls.mono (h.call (P':=F) hP.stab (R:=fun e s'=>e=.returned (.int .i64 0)/\s'=s1) (fun S h1 h4=>?_)) ?_
     ·refine Calls.mono (hZ.wake wr x S s1 _ h.glob h4 h1) ?_
      rintro e w' ⟨rfl,S',a1,a2,a3⟩
      exact ⟨S',_,⟨rfl,rfl⟩,a1,a2,a3⟩
     ·rintro e w' ⟨s',⟨rfl,hs9⟩,h9⟩
      rw[hs9] at h9
      exact ⟨rfl,h9⟩
    ·exact h.tells hF hP hP.stab hs1.1 hs1.2 _
    ·refine Calls.mono (h.call (P':=F) hP.stab (R:=fun e s'=>e=.returned (.int .i64 10)/\s'=s1) (fun S h1 _=>?_)) ?_
     ·refine Calls.mono (hZ.up wr x S s1 _ h1 (by omega)) ?_
      rintro e w' ⟨rfl,S',a1,a2,a3⟩
      exact ⟨S',_,⟨rfl,rfl⟩,a1,a2,a3⟩
     ·rintro e w' ⟨s',⟨rfl,hs9⟩,h9⟩
      rw[hs9] at h9
      exact ⟨rfl,h9⟩
    ·exact h.round hF hP k1 (by omega)
    ·exact h.tells hF hP hq
 obtain ⟨hn2,hn4⟩:=hn
 clear hF hP hTk hZ hG hr hacts hok hri hrk hrv hrm hka hvb HChange
 generalize sizeN r=n at *
 generalize pickN ri n=ii at *
 generalize pickN rm 100000=mm at *
 go_enter Tryz.func12,Tryz.ntmps12
 go_wp2_with fail
 refine Calls.mono Hs.out ?_
 rintro e w1 ⟨rfl,h1⟩
 rw[h1]
 clear h1 w1
 go_wp2_with fail
 refine Calls.mono Hc.out ?_
 rintro e w1 ⟨x,rfl,H1⟩
 go_wp2_with fail
 refine Calls.mono (Hc2.out x w1 H1.out) ?_
 rintro e w2 ⟨y,rfl,H2⟩
 have H3:Hid (_):=Hst.out x y w2 H2.out
 clear Hs Hc Hc2 Hst H1 H2 w1
 go_wp2_with fail
 go_loopw [18] (fun v18 wr=>∃ i:Nat,v18=.int .i64 (i:Int)/\i<=80/\Hid (∃ sx sy,TI F (fun k=>k=w2.heap.size\/k=w2.heap.size+1) w x y w2.heap.size (w2.heap.size+1) n i sx sy wr)) (fun v18 _=>80-(intOf v18).toNat)
 case atStart=>exact ⟨0,rfl,by omega,_,_,H3.out⟩
 case round =>
  clear H3
  obtain ⟨i,rfl,hi80,HI⟩:=hrel
  obtain ⟨sx,sy,HS⟩:∃ sx sy,Hid (TI F (fun k=>k=w2.heap.size\/k=w2.heap.size+1) w x y w2.heap.size (w2.heap.size+1) n i sx sy wr):=HI.out
  clear HI
  by_cases hgo:i<l.length/\i<80
  ·obtain ⟨hi,hi8⟩:=hgo
   obtain ⟨b,off,rfl,hcap,hcell⟩:=HA.out i hi
   have Hcell:Hid (_):=hcell
   obtain ⟨d0,d1,d2,d3,d4⟩:=hcell wr HS.out.two.bel
   have HC:Hid (_):=HPx.out _ x y w2.heap.size (w2.heap.size+1) i sx sy wr hi HS.out (by omega)
   have HCy:Hid (∀ sx' wy,TH F (fun k=>k=w2.heap.size\/k=w2.heap.size+1) w x y w2.heap.size (w2.heap.size+1) n i l[i] sx sx' sy wy->_):=fun sx' wy h=>HPy.out _ x y w2.heap.size (w2.heap.size+1) i sx sx' sy wy hi h (by omega)
   have HBl:Hid (∀ sx' wy,TH F (fun k=>k=w2.heap.size\/k=w2.heap.size+1) w x y w2.heap.size (w2.heap.size+1) n i l[i] sx sx' sy wy->Below w.heap.size w wy):=fun sx' wy h=>h.two.bel
   clear hcell HPx HPy HAll HA HS Hpi Hpm
   generalize hTH:TH F (fun k=>k=w2.heap.size\/k=w2.heap.size+1) w x y w2.heap.size (w2.heap.size+1) n i l[i] sx=TT at *
   clear hTH
   generalize l[i].kd=q0 at *
   generalize l[i].i=q1 at *
   generalize l[i].j=q2 at *
   generalize l[i].k=q3 at *
   generalize l[i].v=q4 at *
   have hiI:(i:Int)<(l.length:Int):=by omega
   have hi8I:(i:Int)<80:=by omega
   go_wp2_with fail
   refine Calls.mono HC.out ?_
   rintro e w3 ⟨rfl,sx',H3⟩
   clear HC d0 d1 d2 d3 d4
   obtain ⟨d0,d1,d2,d3,d4⟩:=Hcell.out w3 (HBl.out _ _ H3.out)
   clear Hcell HBl
   go_wp2_with fail
   refine Calls.mono (HCy.out _ _ H3.out) ?_
   rintro e w4 ⟨rfl,H4⟩
   clear HCy H3 d0 d1 d2 d3 d4
   go_wp2
   go_roundw
   case rel=>exact ⟨i+1,by first | rfl | go_num,by omega,H4.out⟩
   case measure=>simp[intOf] <;> omega
  ·obtain ⟨was,will,A1,A2,A3,A4,W,a1,c1,c2,c3,c4⟩:=HAll.out _ x y i sx sy wr HS.out.two.g HS.out.kx HS.out.ky HS.out.sm hi80
   have K1:Hid (_):=c1 wr a1
   have K2:Hid (_):=c2
   have K3:Hid (_):=c3
   have K4:Hid (_):=c4
   clear HPx HPy HA HAll a1 c1 c2 c3 c4
   have hex:(¬(i:Int)<(l.length:Int))\/((i:Int)<(l.length:Int)/\¬(i:Int)<80):=by omega
   clear hgo HS
   rcases hex with hx | ⟨hx,hx2⟩
   all_goals
    go_wp2_with fail
    refine Calls.mono (Hpi.out _) ?_
    rintro e w3 ⟨rfl,h3⟩
    rw[h3]
    clear h3 w3
    go_wp2_with fail
    refine Calls.mono (Hpm.out _) ?_
    rintro e w3 ⟨rfl,h3⟩
    rw[h3]
    clear h3 w3 Hpi Hpm
    go_wp2_with fail
    refine Calls.mono K1.out ?_
    rintro e w3 ⟨rfl,H3⟩
    go_wp2_with fail
    refine Calls.mono (K2.out _ H3.out) ?_
    rintro e w4 ⟨rfl,H4⟩
    clear K1 K2 H3
    go_wp2_with fail
    refine Calls.mono (K3.out _ H4.out) ?_
    rintro e w5 ⟨t5,rfl,Ht5,H5⟩
    clear K3 H4
    go_wp2_with fail
    refine Calls.mono (K4.out _ _ Ht5.out H5.out) ?_
    rintro e w6 ⟨rfl,is,HOK,B1,B2,B3,B4,R,u,H6,L1,L2,L3,L4,L5,L6,L7,L8,L9,L10⟩
    clear K4 H5 Ht5
    go_wp2_with fail
    refine Calls.mono (L1.out _ H6.out) ?_
    rintro e w7 ⟨t7,rfl,Ht7,H7⟩
    clear L1 H6
    go_wp2_with fail
    refine Calls.mono (L2.out _ _ Ht7.out H7.out) ?_
    rintro e w8 ⟨rfl,H8⟩
    clear L2 H7 Ht7
    go_wp2_with fail
    refine Calls.mono (L3.out _ H8.out) ?_
    rintro e w9 ⟨rfl,H9⟩
    clear L3 H8
    go_wp2_with fail
    refine Calls.mono (L4.out _ H9.out) ?_
    rintro e w10 ⟨rfl,H10⟩
    clear L4 H9
    go_wp2_with fail
    refine Calls.mono (L5.out _ H10.out) ?_
    rintro e w11 ⟨rfl,H11⟩
    clear L5 H10
    go_wp2_with fail
    refine Calls.mono (L6.out _ H11.out) ?_
    rintro e w12 ⟨rfl,H12⟩
    clear L6 H11
    go_wp2_with fail
    refine Calls.mono (L7.out _ H12.out) ?_
    rintro e w13 ⟨rfl,H13⟩
    clear L7 H12
    have HR:Hid (_):=L8.out _ H13.out
    clear L8 H13
    obtain ⟨ho1,ho2,ho3⟩:=HOK.out
    have hcase:(mm=0/\is=was)\/(mm≠0/\mm<=50000/\is=was)\/(mm≠0/\mm<=50000/\is≠was/\is=will)\/(50000<mm/\is=will/\is=was)\/(50000<mm/\is=will/\is≠was):=by
     by_cases e0:mm=0
     ·exact Or.inl ⟨e0,ho2 e0⟩
     ·by_cases e1:50000<mm
      ·by_cases e2:is=was
       ·exact Or.inr (Or.inr (Or.inr (Or.inl ⟨e1,ho3 e1,e2⟩)))
       ·exact Or.inr (Or.inr (Or.inr (Or.inr ⟨e1,ho3 e1,e2⟩)))
      ·by_cases e2:is=was
       ·exact Or.inr (Or.inl ⟨e0,by omega,e2⟩)
       ·exact Or.inr (Or.inr (Or.inl ⟨e0,by omega,e2,ho1.resolve_left e2⟩))
    clear ho1 ho2 ho3 HOK
    rcases hcase with ⟨f1,f2⟩ | ⟨f1,f2,f3⟩ | ⟨f1,f2,f3,f4⟩ | ⟨f1,f2,f3⟩ | ⟨f1,f2,f3⟩
    ·subst f1 f2
     go_wp2_with fail
     refine Calls.mono HR.out ?_
     rintro e w14 ⟨rfl,s14,H14⟩
     clear HR
     go_wp2_with fail
     refine Calls.mono (L9.out s14 _ 0 H14.out (by omega)) ?_
     rintro e w15 ⟨rfl,H15⟩
     clear H14
     have LT:Hid (∀ wr (q:Nat),R s14 wr->q<n->_):=L9.out s14
     clear L9
     generalize u s14=us at *
     go_wp2_with fail
     go_loopw [31,33] (fun v31 v33 wy=>∃ q:Nat,v31=.bool true/\v33=.int .i64 (q:Int)/\q<=n/\Hid (R s14 wy)) (fun _ v33 _=>n-(intOf v33).toNat)
     case atStart=>exact ⟨1,rfl,rfl,by omega,H15⟩
     case round =>
      clear H15
      obtain ⟨q,rfl,rfl,hq,H16⟩:=hrel
      by_cases hqn:q<n
      ·have hqI:(q:Int)<(n:Int):=by omega
       go_wp2_with fail
       refine Calls.mono (LT.out _ q H16.out hqn) ?_
       rintro e w17 ⟨rfl,H17⟩
       clear H16
       go_wp2
       go_roundw
       case rel=>exact ⟨q+1,rfl,by first | rfl | go_num,by omega,H17⟩
       case measure=>simp[intOf] <;> omega
      ·have hqI:¬(q:Int)<(n:Int):=by omega
       go_wp2
       go_ret
       exact ⟨rfl,L10.out _ _ H16.out⟩
    ·subst f3
     have g1:¬(mm:Int)=0:=by omega
     have g2:¬(mm:Int) > 50000:=by omega
     go_wp2_with fail
     refine Calls.mono HR.out ?_
     rintro e w14 ⟨rfl,s14,H14⟩
     clear HR
     go_wp2_with fail
     refine Calls.mono (L9.out s14 _ 0 H14.out (by omega)) ?_
     rintro e w15 ⟨rfl,H15⟩
     clear H14
     have LT:Hid (∀ wr (q:Nat),R s14 wr->q<n->_):=L9.out s14
     clear L9
     generalize u s14=us at *
     go_wp2_with fail
     go_loopw [31,33] (fun v31 v33 wy=>∃ q:Nat,v31=.bool true/\v33=.int .i64 (q:Int)/\q<=n/\Hid (R s14 wy)) (fun _ v33 _=>n-(intOf v33).toNat)
     case atStart=>exact ⟨1,rfl,rfl,by omega,H15⟩
     case round =>
      clear H15
      obtain ⟨q,rfl,rfl,hq,H16⟩:=hrel
      by_cases hqn:q<n
      ·have hqI:(q:Int)<(n:Int):=by omega
       go_wp2_with fail
       refine Calls.mono (LT.out _ q H16.out hqn) ?_
       rintro e w17 ⟨rfl,H17⟩
       clear H16
       go_wp2
       go_roundw
       case rel=>exact ⟨q+1,rfl,by first | rfl | go_num,by omega,H17⟩
       case measure=>simp[intOf] <;> omega
      ·have hqI:¬(q:Int)<(n:Int):=by omega
       go_wp2
       go_ret
       exact ⟨rfl,L10.out _ _ H16.out⟩
    ·subst f4
     have n2:=eqB_ne f3
     have g1:¬(mm:Int)=0:=by omega
     have g2:¬(mm:Int) > 50000:=by omega
     go_wp2_with fail
     refine Calls.mono HR.out ?_
     rintro e w14 ⟨rfl,s14,H14⟩
     clear HR
     go_wp2_with fail
     refine Calls.mono (L9.out s14 _ 0 H14.out (by omega)) ?_
     rintro e w15 ⟨rfl,H15⟩
     clear H14
     have LT:Hid (∀ wr (q:Nat),R s14 wr->q<n->_):=L9.out s14
     clear L9
     generalize u s14=us at *
     go_wp2_with fail
     go_loopw [31,33] (fun v31 v33 wy=>∃ q:Nat,v31=.bool true/\v33=.int .i64 (q:Int)/\q<=n/\Hid (R s14 wy)) (fun _ v33 _=>n-(intOf v33).toNat)
     case atStart=>exact ⟨1,rfl,rfl,by omega,H15⟩
     case round =>
      clear H15
      obtain ⟨q,rfl,rfl,hq,H16⟩:=hrel
      by_cases hqn:q<n
      ·have hqI:(q:Int)<(n:Int):=by omega
       go_wp2_with fail
       refine Calls.mono (LT.out _ q H16.out hqn) ?_
       rintro e w17 ⟨rfl,H17⟩
       clear H16
       go_wp2
       go_roundw
       case rel=>exact ⟨q+1,rfl,by first | rfl | go_num,by omega,H17⟩
       case measure=>simp[intOf] <;> omega
      ·have hqI:¬(q:Int)<(n:Int):=by omega
       go_wp2
       go_ret
       exact ⟨rfl,L10.out _ _ H16.out⟩
    ·subst f2
     have g1:¬(mm:Int)=0:=by omega
     have g2:(mm:Int) > 50000:=by omega
     go_wp2_with fail
     refine Calls.mono HR.out ?_
     rintro e w14 ⟨rfl,s14,H14⟩
     clear HR
     go_wp2_with fail
     refine Calls.mono (L9.out s14 _ 0 H14.out (by omega)) ?_
     rintro e w15 ⟨rfl,H15⟩
     clear H14
     have LT:Hid (∀ wr (q:Nat),R s14 wr->q<n->_):=L9.out s14
     clear L9
     generalize u s14=us at *
     go_wp2_with fail
     go_loopw [31,33] (fun v31 v33 wy=>∃ q:Nat,v31=.bool true/\v33=.int .i64 (q:Int)/\q<=n/\Hid (R s14 wy)) (fun _ v33 _=>n-(intOf v33).toNat)
     case atStart=>exact ⟨1,rfl,rfl,by omega,H15⟩
     case round =>
      clear H15
      obtain ⟨q,rfl,rfl,hq,H16⟩:=hrel
      by_cases hqn:q<n
      ·have hqI:(q:Int)<(n:Int):=by omega
       go_wp2_with fail
       refine Calls.mono (LT.out _ q H16.out hqn) ?_
       rintro e w17 ⟨rfl,H17⟩
       clear H16
       go_wp2
       go_roundw
       case rel=>exact ⟨q+1,rfl,by first | rfl | go_num,by omega,H17⟩
       case measure=>simp[intOf] <;> omega
      ·have hqI:¬(q:Int)<(n:Int):=by omega
       go_wp2
       go_ret
       exact ⟨rfl,L10.out _ _ H16.out⟩
    ·subst f2
     have n2:=eqB_ne f3
     have g1:¬(mm:Int)=0:=by omega
     have g2:(mm:Int) > 50000:=by omega
     go_wp2_with fail
     refine Calls.mono HR.out ?_
     rintro e w14 ⟨rfl,s14,H14⟩
     clear HR
     go_wp2_with fail
     refine Calls.mono (L9.out s14 _ 0 H14.out (by omega)) ?_
     rintro e w15 ⟨rfl,H15⟩
     clear H14
     have LT:Hid (∀ wr (q:Nat),R s14 wr->q<n->_):=L9.out s14
     clear L9
     generalize u s14=us at *
     go_wp2_with fail
     go_loopw [31,33] (fun v31 v33 wy=>∃ q:Nat,v31=.bool true/\v33=.int .i64 (q:Int)/\q<=n/\Hid (R s14 wy)) (fun _ v33 _=>n-(intOf v33).toNat)
     case atStart=>exact ⟨1,rfl,rfl,by omega,H15⟩
     case round =>
      clear H15
      obtain ⟨q,rfl,rfl,hq,H16⟩:=hrel
      by_cases hqn:q<n
      ·have hqI:(q:Int)<(n:Int):=by omega
       go_wp2_with fail
       refine Calls.mono (LT.out _ q H16.out hqn) ?_
       rintro e w17 ⟨rfl,H17⟩
       clear H16
       go_wp2
       go_roundw
       case rel=>exact ⟨q+1,rfl,by first | rfl | go_num,by omega,H17⟩
       case measure=>simp[intOf] <;> omega
      ·have hqI:¬(q:Int)<(n:Int):=by omega
       go_wp2
       go_ret
       exact ⟨rfl,L10.out _ _ H16.out⟩
end Go.Proofs.YtfmmllpjgkgeaaaGreatDoor

