import Derived.Test.YtfmmllpjgkgeaaaGreatDoorPart53
set_option linter.unusedVariables false
set_option linter.unusedSimpArgs false
namespace Go.Proofs.YtfmmllpjgkgeaaaGreatDoor
open Go.RowKit
variable {F:Stt}

theorem renA_mk {n:Nat} (hn2:2<=n) (hn4:n<=4) (a:ActD) (ha:a.ok):RenA n a ⟨a.kd,(n:Int)-1-(pickN a.i n:Int),(n:Int)-1-(pickN a.j n:Int),a.k,a.v⟩/\ActD.ok ⟨a.kd,(n:Int)-1-(pickN a.i n:Int),(n:Int)-1-(pickN a.j n:Int),a.k,a.v⟩:=by
 have hi:=pickN_lt a.i (show 1<=n by omega)
 have hj:=pickN_lt a.j (show 1<=n by omega)
 have e:∀ p,p<n->pickN ((n:Int)-1-(p:Int)) n=n-1-p:=fun p hp=>by
  rw[show (n:Int)-1-(p:Int)=((n-1-p:Nat):Int) by omega]
  exact pickN_small (by omega)
 obtain ⟨a0,a1,a2,a3,a4⟩:=ha
 exact ⟨⟨rfl,e _ hi,e _ hj,rfl,rfl⟩,a0,⟨by simp only;omega,by simp only;omega⟩,⟨by simp only;omega,by simp only;omega⟩,a3,a4⟩

set_option maxHeartbeats 8000000 in
set_option maxRecDepth 100000 in
theorem Renamed_any (hF:ProgOK F) (hP:ProgFrame F) (hTk:ProgTick F) (w:World) (hG:Glob w) (r room:Int) (hr:i64B r) (hm:i64B room) (v:Value) (l:List ActD) (hv:ActsV w v l) :
  Calls Tryz.prog 14 #[.int .i64 r,.int .i64 room,v] w fun e w'=>e=.returned (.bool true)/\Below w.heap.size w w':=by
 obtain ⟨⟨ad,cap,rfl,hacts⟩,hok⟩:=hv
 have hn:=sizeN_le r
 have hroom:=pickN_lt room (show 1<=51 by omega)
 have Hs:Hid (Calls Tryz.prog 16 #[.int .i64 r] w fun r' w'=>r'=.returned (.int .i64 (sizeN r:Int))/\w'=w):=ksize_any r w hr
 have Hp:Hid (∀ wx,Calls Tryz.prog 18 #[.int .i64 room,.int .i64 51] wx fun r w'=>r=.returned (.int .i64 (pickN room 51:Int))/\w'=wx):=fun wx=>kpick_any room 51 wx hm (by decide) (by decide)
 have Hc:Hid (Calls Tryz.prog 17 #[.int .i64 (sizeN r:Int),.int .i64 (pickN room 51:Int)] w fun e w'=>∃ x,e=.returned (.pointer (some ⟨x,0,none⟩))/\Hid (KAt F (fun _=>False) w x (zS (sizeN r)) w')):=cluster_any hF w hG (sizeN r) (pickN room 51) hn (by omega)
 have Hc2:Hid (∀ x wx,KAt F (fun _=>False) w x (zS (sizeN r)) wx->Calls Tryz.prog 17 #[.int .i64 (sizeN r:Int),.int .i64 (pickN room 51:Int)] wx fun e w'=>∃ y,e=.returned (.pointer (some ⟨y,0,none⟩))/\Hid (Two F (fun _=>False) w x y (zS (sizeN r)) (zS (sizeN r)) w')):=fun x wx hx=>by
  refine Calls.mono (cluster_any hF wx hx.glob (sizeN r) (pickN room 51) hn (by omega)) ?_
  rintro e w' ⟨y,rfl,hy⟩
  exact ⟨y,rfl,Two.make hP hx hy⟩
 have Hd3:Hid (∀ x y sy wx,Two F (fun _=>False) w x y (zS (sizeN r)) sy wx->Calls Tryz.prog 23 #[.pointer (some ⟨x,0,none⟩),.int .i64 ((sizeN r:Int)-1),.string ⟨#[115,122,122,43,113]⟩] wx fun e w'=>e=.returned (.int .i64 0)/\Hid (Two F (fun _=>False) w x y (zS3 (sizeN r)) sy w')):=fun x y sy wx hx=>hx.does hF hP (by decide) (zd3 (sizeN r) hn)
 have Hd4:Hid (∀ x y sy wx,Two F (fun _=>False) w x y (zS3 (sizeN r)) sy wx->Calls Tryz.prog 23 #[.pointer (some ⟨x,0,none⟩),.int .i64 ((sizeN r:Int)-1),.string ⟨#[115,122,122,45,113]⟩] wx fun e w'=>e=.returned (.int .i64 0)/\Hid (Two F (fun _=>False) w x y (zT (sizeN r)) sy w')):=fun x y sy wx hx=>hx.does hF hP (by decide) (zd4 (sizeN r) hn)
 have Hd5:Hid (∀ x y sx wx,Two F (fun _=>False) w x y sx (zS (sizeN r)) wx->Calls Tryz.prog 23 #[.pointer (some ⟨y,0,none⟩),.int .i64 ((sizeN r:Int)-1),.string ⟨#[115,122,122,43,113]⟩] wx fun e w'=>e=.returned (.int .i64 0)/\Hid (Two F (fun _=>False) w x y sx (zS3 (sizeN r)) w')):=fun x y sx wx hx=>by
  refine Calls.mono (hx.swap.does hF hP (by decide) (zd3 (sizeN r) hn)) ?_
  rintro e w' ⟨rfl,h2⟩
  exact ⟨rfl,h2.swap⟩
 have Hd6:Hid (∀ x y sx wx,Two F (fun _=>False) w x y sx (zS3 (sizeN r)) wx->Calls Tryz.prog 23 #[.pointer (some ⟨y,0,none⟩),.int .i64 ((sizeN r:Int)-1),.string ⟨#[115,122,122,45,113]⟩] wx fun e w'=>e=.returned (.int .i64 0)/\Hid (Two F (fun _=>False) w x y sx (zT (sizeN r)) w')):=fun x y sx wx hx=>by
  refine Calls.mono (hx.swap.does hF hP (by decide) (zd4 (sizeN r) hn)) ?_
  rintro e w' ⟨rfl,h2⟩
  exact ⟨rfl,h2.swap⟩
 have Hst:Hid (∀ x y wx,Two F (fun _=>False) w x y (zT (sizeN r)) (zT (sizeN r)) wx->RI F (fun k=>k=wx.heap.size\/k=wx.heap.size+1) w x y wx.heap.size (wx.heap.size+1) (sizeN r) 0 (zT (sizeN r)) (zT (sizeN r)) ((wx.alloc (.cells #[.int .i64 0,.int .i64 4] 32)).alloc (.cells #[.int .i64 0,.int .i64 4] 32))):=fun x y wx hx=>by
  have h1:=hx.box hP (.cells #[.int .i64 0,.int .i64 4] 32)
  have h2:=h1.box hP (.cells #[.int .i64 0,.int .i64 4] 32)
  have hsz:(wx.alloc (.cells #[.int .i64 0,.int .i64 4] 32)).heap.size=wx.heap.size+1:=by simp
  rw[hsz] at h2
  have hb2:=Blk.new (wx.alloc (.cells #[.int .i64 0,.int .i64 4] 32)) #[.int .i64 0,.int .i64 4] 32
  rw[hsz] at hb2
  exact ⟨h2.less (fun k hk=>hk.elim (fun e=>Or.inl (Or.inr e)) Or.inr),Blk.alloc (Blk.new _ _ _) _,hb2,Or.inl rfl,Or.inr rfl,by omega,KOk.startT hn.1 hn.2,KOk.startT hn.1 hn.2,Ren.start _ hn⟩
 have HA:Hid (∀ i (hi:i<l.length),_):=fun i hi=>ActsV.at hacts i hi
 have Hok:Hid (∀ a∈l,ActD.ok a):=hok
 have HPx:Hid (∀ T x y ta tb i sx sy wr (a:ActD) ab,RI F T w x y ta tb (sizeN r) i sx sy wr->i<=400->a.ok->ActB wr ab a->T ab->ab≠ta->Calls Tryz.prog 19 #[.pointer (some ⟨ta,0,none⟩),.pointer (some ⟨x,0,none⟩),.int .i64 (sizeN r:Int),a.val] wr fun e w'=>e=.returned (.bool true)/\∃ sx',Hid (RH F T w x y ta tb (sizeN r) i a sx sx' sy w')/\Hid (ActB w' ab a)):=fun T x y ta tb i sx sy wr a ab h hi ha hb hT hne=>h.playX hF hP hTk hi ha hb hT hne
 have HPy:Hid (∀ T x y ta tb i sx sx' sy wr (a:ActD),RH F T w x y ta tb (sizeN r) i a sx sx' sy wr->i<=400->a.ok->Calls Tryz.prog 19 #[.pointer (some ⟨tb,0,none⟩),.pointer (some ⟨y,0,none⟩),.int .i64 (sizeN r:Int),.agg #[.int .i64 a.kd,.int .i64 ((sizeN r:Int)-1-(pickN a.i (sizeN r):Int)),.int .i64 ((sizeN r:Int)-1-(pickN a.j (sizeN r):Int)),.int .i64 a.k,.int .i64 a.v]] wr fun e w'=>e=.returned (.bool true)/\∃ sy',Hid (RI F T w x y ta tb (sizeN r) (i+1) sx' sy' w')):=fun T x y ta tb i sx sx' sy wr a h hi ha=>by
  have hren:=renA_mk hn.1 hn.2 a ha
  have h9:=h.playY hF hP hTk hi hren.2 hren.1
  unfold ActD.val at h9
  exact h9
 have HTx:Hid (∀ T x y ta tb i sx sy wr (k:Nat),RI F T w x y ta tb (sizeN r) i sx sy wr->i<=400->k<sizeN r->Calls Tryz.prog 21 #[.pointer (some ⟨x,0,none⟩),.int .i64 (k:Int)] wr fun e w'=>e=.returned (.string ⟨(tellsL sx (k:Int)).toArray⟩)/\Hid (RI F T w x y ta tb (sizeN r) i sx sy w')):=fun T x y ta tb i sx sy wr k h hi hk=>h.tellX hF hP hi hk
 have HTy:Hid (∀ T x y ta tb i sx sy wr (k:Nat),RI F T w x y ta tb (sizeN r) i sx sy wr->i<=400->k<sizeN r->Calls Tryz.prog 21 #[.pointer (some ⟨y,0,none⟩),.int .i64 ((sizeN r:Int)-1-(k:Int))] wr fun e w'=>e=.returned (.string ⟨(tellsL sx (k:Int)).toArray⟩)/\Hid (RI F T w x y ta tb (sizeN r) i sx sy w')):=fun T x y ta tb i sx sy wr k h hi hk=>by
  have:=h.tellY hF hP hi hk
  rw[show ((sizeN r-1-k:Nat):Int)=(sizeN r:Int)-1-(k:Int) by omega] at this
  exact this
 have HpI:Hid (∀ (a:ActD) wx,a.ok->Calls Tryz.prog 18 #[.int .i64 a.i,.int .i64 (sizeN r:Int)] wx fun r' w'=>r'=.returned (.int .i64 (pickN a.i (sizeN r):Int))/\w'=wx):=fun a wx ha=>kpick_any a.i (sizeN r) wx ha.2.1 (by omega) (by omega)
 have HpJ:Hid (∀ (a:ActD) wx,a.ok->Calls Tryz.prog 18 #[.int .i64 a.j,.int .i64 (sizeN r:Int)] wx fun r' w'=>r'=.returned (.int .i64 (pickN a.j (sizeN r):Int))/\w'=wx):=fun a wx ha=>kpick_any a.j (sizeN r) wx ha.2.2.1 (by omega) (by omega)
 have HP:Hid (ProgFrame F):=hP
 obtain ⟨hn2,hn4⟩:=hn
 clear hF hP hTk hG hr hm hacts hok hroom
 generalize sizeN r=n at *
 generalize pickN room 51=rm at *
 go_enter Tryz.func14,Tryz.ntmps14
 go_wp2_with fail
 refine Calls.mono Hs.out ?_
 rintro e w1 ⟨rfl,h1⟩
 rw[h1]
 clear h1 w1
 go_wp2_with fail
 refine Calls.mono (Hp.out _) ?_
 rintro e w1 ⟨rfl,h1⟩
 rw[h1]
 clear h1 w1
 go_wp2_with fail
 refine Calls.mono Hc.out ?_
 rintro e w1 ⟨x,rfl,H1⟩
 clear Hs Hc
 go_wp2_with fail
 refine Calls.mono (Hp.out _) ?_
 rintro e w2 ⟨rfl,h2⟩
 rw[h2]
 clear h2 w2
 go_wp2_with fail
 refine Calls.mono (Hc2.out x _ H1.out) ?_
 rintro e w2 ⟨y,rfl,H2⟩
 clear Hp Hc2 H1
 go_wp2_with fail
 refine Calls.mono (Hd3.out x y _ _ H2.out) ?_
 rintro e w3 ⟨rfl,H3⟩
 clear Hd3 H2
 go_wp2_with fail
 refine Calls.mono (Hd4.out x y _ _ H3.out) ?_
 rintro e w4 ⟨rfl,H4⟩
 clear Hd4 H3
 go_wp2_with fail
 refine Calls.mono (Hd5.out x y _ _ H4.out) ?_
 rintro e w5 ⟨rfl,H5⟩
 clear Hd5 H4
 go_wp2_with fail
 refine Calls.mono (Hd6.out x y _ _ H5.out) ?_
 rintro e w6 ⟨rfl,H6⟩
 clear Hd6 H5
 have H7:Hid (_):=Hst.out x y w6 H6.out
 clear H6 Hst
 go_wp2_with fail
 go_loopw [16] (fun v16 wr=>∃ i:Nat,v16=.int .i64 (i:Int)/\i<=80/\Hid (∃ sx sy,RI F (fun k=>k=w6.heap.size\/k=w6.heap.size+1) w x y w6.heap.size (w6.heap.size+1) n i sx sy wr)) (fun v16 _=>80-(intOf v16).toNat)
 case atStart=>exact ⟨0,rfl,by omega,_,_,H7.out⟩
 case round =>
  clear H7
  obtain ⟨i,rfl,hi80,HI⟩:=hrel
  obtain ⟨sx,sy,HS⟩:∃ sx sy,Hid (RI F (fun k=>k=w6.heap.size\/k=w6.heap.size+1) w x y w6.heap.size (w6.heap.size+1) n i sx sy wr):=HI.out
  clear HI
  by_cases hgo:i<l.length/\i<80
  ·obtain ⟨hi,hi8⟩:=hgo
   obtain ⟨b,off,rfl,hcap,hcell⟩:=HA.out i hi
   obtain ⟨d0,d1,d2,d3,d4⟩:=hcell wr HS.out.two.bel
   have Ho:Hid (l[i].ok):=Hok.out _ (List.getElem_mem hi)
   clear hcell HA Hok
   generalize l[i]=a at *
   have hiI:(i:Int)<(l.length:Int):=by omega
   have hi8I:(i:Int)<80:=by omega
   obtain ⟨hRI,hAB,hne⟩:=HS.out.act HP.out a
   obtain ⟨W,HW⟩:∃ W,Hid (wr.alloc (.cells #[.int .i64 a.kd,.int .i64 a.i,.int .i64 a.j,.int .i64 a.k,.int .i64 a.v] 35)=W):=⟨_,rfl⟩
   have HB2:Hid (ActB W wr.heap.size a):=by rw[<- HW.out];exact hAB
   have HC2:Hid (RI F (fun k=>(k=w6.heap.size\/k=w6.heap.size+1)\/k=wr.heap.size) w x y w6.heap.size (w6.heap.size+1) n i sx sy W):=by rw[<- HW.out];exact hRI
   have Hne1:Hid (wr.heap.size≠w6.heap.size):=hne
   have Hne2:Hid (wr.heap.size≠w6.heap.size+1):=by have:=Blk.lt HS.out.ty;unfold Hid;omega
   clear hRI hAB hne HS
   have HX:Hid (_):=HPx.out _ x y w6.heap.size (w6.heap.size+1) i sx sy W a wr.heap.size HC2.out (by omega) Ho.out HB2.out (Or.inr rfl) Hne1.out
   unfold ActD.val at HX
   have hpi:=pickN_lt a.i (show 1<=n by omega)
   have hpj:=pickN_lt a.j (show 1<=n by omega)
   have HpIa:Hid (_):=fun wx=>HpI.out a wx Ho.out
   have HpJa:Hid (_):=fun wx=>HpJ.out a wx Ho.out
   have HPya:Hid (_):=fun (sx':St) (wr':World) (h:RH F (fun k=>(k=w6.heap.size\/k=w6.heap.size+1)\/k=wr.heap.size) w x y w6.heap.size (w6.heap.size+1) n i a sx sx' sy wr')=>HPy.out _ x y w6.heap.size (w6.heap.size+1) i sx sx' sy wr' a h (by omega) Ho.out
   clear HPx HPy HpI HpJ Ho HC2
   go_wp2_with fail
   rw[HW.out]
   clear HW d0 d1 d2 d3 d4 HB2
   refine Calls.mono HX.out ?_
   rintro e w7 ⟨rfl,sx',HH,HB⟩
   clear HX
   have b0:w7.cell? ⟨wr.heap.size,0,none⟩=some (.int .i64 a.kd):=HB.out.cell 0
   have b1:w7.cell? ⟨wr.heap.size,1,none⟩=some (.int .i64 a.i):=HB.out.cell 1
   have b2:w7.cell? ⟨wr.heap.size,2,none⟩=some (.int .i64 a.j):=HB.out.cell 2
   have b3:w7.cell? ⟨wr.heap.size,3,none⟩=some (.int .i64 a.k):=HB.out.cell 3
   have b4:w7.cell? ⟨wr.heap.size,4,none⟩=some (.int .i64 a.v):=HB.out.cell 4
   have g1:w7.frozen? ⟨wr.heap.size,1,none⟩=false:=HB.out.frozen 1
   generalize pickN a.i n=p1 at *
   generalize pickN a.j n=p2 at *
   go_wp2_with fail
   refine Calls.mono (HpIa.out _) ?_
   rintro e w8 ⟨rfl,h8⟩
   rw[h8]
   clear h8 w8 HpIa
   have HB8:Hid (Blk (w7.setCell ⟨wr.heap.size,1,none⟩ (.int .i64 ((n:Int)-1-(p1:Int)))) wr.heap.size #[.int .i64 a.kd,.int .i64 ((n:Int)-1-(p1:Int)),.int .i64 a.j,.int .i64 a.k,.int .i64 a.v] 35):=Blk.set HB.out 1 _
   have HH8:Hid (RH F (fun k=>(k=w6.heap.size\/k=w6.heap.size+1)\/k=wr.heap.size) w x y w6.heap.size (w6.heap.size+1) n i a sx sx' sy (w7.setCell ⟨wr.heap.size,1,none⟩ (.int .i64 ((n:Int)-1-(p1:Int))))):=HH.out.store HP.out (Or.inr rfl) Hne1.out Hne2.out _
   have y2:(w7.setCell ⟨wr.heap.size,1,none⟩ (.int .i64 ((n:Int)-1-(p1:Int)))).cell? ⟨wr.heap.size,2,none⟩=some (.int .i64 a.j):=HB8.out.cell 2
   clear HB HH
   go_wp2_with fail
   refine Calls.mono (HpJa.out _) ?_
   rintro e w8 ⟨rfl,h8⟩
   rw[h8]
   clear h8 w8 HpJa b0 b1 b2 b3 b4 g1
   generalize w7.setCell ⟨wr.heap.size,1,none⟩ (.int .i64 ((n:Int)-1-(p1:Int)))=W8 at *
   have g2:W8.frozen? ⟨wr.heap.size,2,none⟩=false:=HB8.out.frozen 2
   have HB9:Hid (Blk (W8.setCell ⟨wr.heap.size,2,none⟩ (.int .i64 ((n:Int)-1-(p2:Int)))) wr.heap.size #[.int .i64 a.kd,.int .i64 ((n:Int)-1-(p1:Int)),.int .i64 ((n:Int)-1-(p2:Int)),.int .i64 a.k,.int .i64 a.v] 35):=Blk.set HB8.out 2 _
   have HH9:Hid (RH F (fun k=>(k=w6.heap.size\/k=w6.heap.size+1)\/k=wr.heap.size) w x y w6.heap.size (w6.heap.size+1) n i a sx sx' sy (W8.setCell ⟨wr.heap.size,2,none⟩ (.int .i64 ((n:Int)-1-(p2:Int))))):=HH8.out.store HP.out (Or.inr rfl) Hne1.out Hne2.out _
   have z0:(W8.setCell ⟨wr.heap.size,2,none⟩ (.int .i64 ((n:Int)-1-(p2:Int)))).cell? ⟨wr.heap.size,0,none⟩=some (.int .i64 a.kd):=HB9.out.cell 0
   have z1:(W8.setCell ⟨wr.heap.size,2,none⟩ (.int .i64 ((n:Int)-1-(p2:Int)))).cell? ⟨wr.heap.size,1,none⟩=some (.int .i64 ((n:Int)-1-(p1:Int))):=HB9.out.cell 1
   have z2:(W8.setCell ⟨wr.heap.size,2,none⟩ (.int .i64 ((n:Int)-1-(p2:Int)))).cell? ⟨wr.heap.size,2,none⟩=some (.int .i64 ((n:Int)-1-(p2:Int))):=HB9.out.cell 2
   have z3:(W8.setCell ⟨wr.heap.size,2,none⟩ (.int .i64 ((n:Int)-1-(p2:Int)))).cell? ⟨wr.heap.size,3,none⟩=some (.int .i64 a.k):=HB9.out.cell 3
   have z4:(W8.setCell ⟨wr.heap.size,2,none⟩ (.int .i64 ((n:Int)-1-(p2:Int)))).cell? ⟨wr.heap.size,4,none⟩=some (.int .i64 a.v):=HB9.out.cell 4
   clear HB8 HH8 HB9
   go_wp2_with fail
   refine Calls.mono (HPya.out sx' _ HH9.out) ?_
   rintro e w9 ⟨rfl,sy',HR⟩
   have HR2:Hid (RI F (fun k=>k=w6.heap.size\/k=w6.heap.size+1) w x y w6.heap.size (w6.heap.size+1) n (i+1) sx' sy' w9):=HR.out.less (fun k hk=>Or.inl hk) (Or.inl rfl) (Or.inr rfl)
   clear HR HH9 HPya z0 z1 z2 z3 z4 g2 y2
   go_wp2_with fail
   go_loopw [20] (fun v20 wy=>∃ k:Nat,v20=.int .i64 (k:Int)/\k<=n/\Hid (RI F (fun k=>k=w6.heap.size\/k=w6.heap.size+1) w x y w6.heap.size (w6.heap.size+1) n (i+1) sx' sy' wy)) (fun v20 _=>n-(intOf v20).toNat)
   case atStart=>exact ⟨0,rfl,by omega,HR2⟩
   case round =>
    clear HR2
    obtain ⟨k,rfl,hk,HR3⟩:=hrel
    by_cases hkn:k<n
    ·have hkI:(k:Int)<(n:Int):=by omega
     have HC1:Hid (_):=HTx.out _ x y _ _ (i+1) sx' sy' wr k HR3.out (by omega) hkn
     have HC2:Hid (∀ wy,RI F (fun k=>k=w6.heap.size\/k=w6.heap.size+1) w x y w6.heap.size (w6.heap.size+1) n (i+1) sx' sy' wy->Calls Tryz.prog 21 #[.pointer (some ⟨y,0,none⟩),.int .i64 ((n:Int)-1-(k:Int))] wy fun e w'=>e=.returned (.string ⟨(tellsL sx' (k:Int)).toArray⟩)/\Hid (RI F (fun k=>k=w6.heap.size\/k=w6.heap.size+1) w x y w6.heap.size (w6.heap.size+1) n (i+1) sx' sy' w')):=fun wy h=>HTy.out _ x y _ _ (i+1) sx' sy' wy k h (by omega) hkn
     generalize (⟨(tellsL sx' (k:Int)).toArray⟩:ByteArray)=u at *
     clear HTx HTy HR3
     go_wp2_with fail
     refine Calls.mono HC1.out ?_
     rintro e w10 ⟨rfl,HR4⟩
     clear HC1
     go_wp2_with fail
     refine Calls.mono (HC2.out _ HR4.out) ?_
     rintro e w11 ⟨rfl,HR5⟩
     clear HC2 HR4
     go_wp2
     go_roundw
     case rel=>exact ⟨k+1,by first | rfl | go_num,by omega,HR5⟩
     case measure=>simp[intOf] <;> omega
    ·have hkI:¬(k:Int)<(n:Int):=by omega
     go_wp2
     go_roundw
     case rel=>exact ⟨i+1,by first | rfl | go_num,by omega,sx',sy',HR3.out⟩
     case measure=>simp[intOf] <;> omega
  ·have hex:(¬(i:Int)<(l.length:Int))\/((i:Int)<(l.length:Int)/\¬(i:Int)<80):=by omega
   clear hgo HPx HPy HTx HTy HpI HpJ HA Hok
   rcases hex with hx | ⟨hx,hx2⟩
   all_goals
    go_wp2
    go_ret
    exact ⟨rfl,HS.out.two.bel⟩
end Go.Proofs.YtfmmllpjgkgeaaaGreatDoor

