import Derived.Test.YtfmmllpjgkgeaaaGreatDoorPart51
set_option linter.unusedVariables false
set_option linter.unusedSimpArgs false
namespace Go.Proofs.YtfmmllpjgkgeaaaGreatDoor
open Go.RowKit
variable {F:Stt}

theorem CM.tally (hP:ProgFrame F) {T:Nat->Prop} {w wr:World} {x tb n i:Nat} {sum v:Int} {f e:Nat} {s:St} (h:CM F T w x tb n i (sum+v) f e s wr) (h1:v<=1000000000) (h2:-1000000000<=v) (h3:-(1000000000*i)<=sum) (h4:sum<=1000000000*i):CI F T w x tb n (i+1) (sum+v) s (wr.setCell ⟨tb,1,none⟩ (.int .i64 ((e:Int)+1))):=by
 refine ⟨⟨h.k.store hP (p:=⟨tb,1,none⟩) h.ht h.hb _, ?_,h.ok,h.ht,h.hb⟩,h.c,by omega,by omega⟩
 rw[h.el,h.fl]
 exact tal_ev h.t
theorem CI.less {T T':Nat->Prop} {w wr:World} {x tb n i:Nat} {sum:Int} {s:St} (h:CI F T w x tb n i sum s wr) (hT:∀ k,T' k->T k) (ht:T' tb):CI F T' w x tb n i sum s wr:=⟨h.a.less' hT ht,h.c,h.lo,h.hi⟩
theorem CI.act (hP:ProgFrame F) {T:Nat->Prop} {w wr:World} {x tb n i:Nat} {sum:Int} {s:St} (h:CI F T w x tb n i sum s wr) (a:ActD):CI F (fun k=>T k\/k=wr.heap.size) w x tb n i sum s (actW wr a)/\ActB (actW wr a) wr.heap.size a:=⟨⟨(h.a.act hP a).1,h.c,h.lo,h.hi⟩,(h.a.act hP a).2⟩
theorem PlayTo.es_same {n:Nat} {s s':St} {a:ActD} (hp:PlayTo n s a s') (hk:¬pickN a.kd 8<3):s'.es=s.es:=by
 unfold PlayTo at hp
 rw[if_neg hk] at hp
 split at hp
 ·split at hp
  ·rw[hp]
  ·exact hp.1
 ·split at hp
  ·split at hp
   ·rw[hp]
   ·exact hp.1
  ·rw[hp]

set_option maxHeartbeats 8000000 in
set_option maxRecDepth 100000 in
theorem Counted_any (hF:ProgOK F) (hP:ProgFrame F) (hT:ProgTick F) (w:World) (hG:Glob w) (r room:Int) (hr:i64B r) (hm:i64B room) (v:Value) (l:List ActD) (hv:ActsV w v l) :
  Calls Tryz.prog 9 #[.int .i64 r,.int .i64 room,v] w fun e w'=>e=.returned (.bool true)/\Below w.heap.size w w':=by
 obtain ⟨⟨ad,cap,rfl,hacts⟩,hok⟩:=hv
 have hn:=sizeN_le r
 have hroom:=pickN_lt room (show 1<=51 by omega)
 have Hs:Hid (Calls Tryz.prog 16 #[.int .i64 r] w fun r' w'=>r'=.returned (.int .i64 (sizeN r:Int))/\w'=w):=ksize_any r w hr
 have Hp:Hid (∀ wx,Calls Tryz.prog 18 #[.int .i64 room,.int .i64 51] wx fun r w'=>r=.returned (.int .i64 (pickN room 51:Int))/\w'=wx):=fun wx=>kpick_any room 51 wx hm (by decide) (by decide)
 have Hc:Hid (Calls Tryz.prog 17 #[.int .i64 (sizeN r:Int),.int .i64 (pickN room 51:Int)] w fun e w'=>∃ x,e=.returned (.pointer (some ⟨x,0,none⟩))/\Hid (CI F (fun k=>k=w'.heap.size) w x w'.heap.size (sizeN r) 0 0 (zS (sizeN r)) (w'.alloc (.cells #[.int .i64 0,.int .i64 2] 32)))):=by
  refine Calls.mono (cluster_any hF w hG (sizeN r) (pickN room 51) hn (by omega)) ?_
  rintro e w' ⟨x,rfl,hk⟩
  exact ⟨x,rfl,AI.start hP hn hk,CzOk.start,by omega,by omega⟩
 have HA:Hid (∀ i (hi:i<l.length),_):=fun i hi=>ActsV.at hacts i hi
 have Hok:Hid (∀ a∈l,ActD.ok a):=hok
 have HPl:Hid (∀ T x tb i sum s wr (a:ActD),CI F T w x tb (sizeN r) i sum s wr->i<=400->a.ok->¬pickN a.kd 8<3->Calls Tryz.prog 19 #[.pointer (some ⟨tb,0,none⟩),.pointer (some ⟨x,0,none⟩),.int .i64 (sizeN r:Int),a.val] wr fun e w'=>e=.returned (.bool true)/\∃ s',Hid (CI F T w x tb (sizeN r) (i+1) sum s' w')):=fun T x tb i sum s wr a h hi4 ha hk=>by
  refine Calls.mono (h.a.play hF hP hT hi4 ha) ?_
  rintro e w' ⟨rfl,s',hp,h2,_⟩
  exact ⟨rfl,s',h2,by rw[hp.es_same hk];exact h.c,by have:=h.lo;omega,by have:=h.hi;omega⟩
 have HDo:Hid (∀ T x tb i sum s wr (q:Nat) (v:Int) t,CI F T w x tb (sizeN r) i sum s wr->i<=400->q<sizeN r->v<=1000000000->-1000000000<=v->toL t=[99,122,62] ++ Thk.digits v->t.size<=1000->Calls Tryz.prog 23 #[.pointer (some ⟨x,0,none⟩),.int .i64 (q:Int),.string t] wr fun e w'=>e=.returned (.int .i64 0)/\∃ s',Hid (CM F T w x tb (sizeN r) i (sum+v) s.fs.length s.es.length s' w')):=fun T x tb i sum s wr q v t h hi hq h1 h2 ht hts=>by
  refine Calls.mono (h.count hF hi hq h1 h2 ht hts) ?_
  rintro e w' ⟨rfl,s',h1,_⟩
  exact ⟨rfl,s',h1⟩
 have HDg:Hid (∀ T x tb i sum s wr (v:Int),CI F T w x tb (sizeN r) i sum s wr->v.natAbs<=1000000000000->Calls Tryz.prog 26 #[.int .i64 v] wr fun e w'=>∃ t,e=.returned (.string t)/\Hid (toL t=Thk.digits v)/\t.size<=200/\Hid (CI F T w x tb (sizeN r) i sum s w')):=fun T x tb i sum s wr v h hv=>by
  refine Calls.mono (kdigits_any v wr hv) ?_
  rintro e w' ⟨t,rfl,h1,h2,hb⟩
  exact ⟨t,rfl,h1,h2,h.a.below hP hb,h.c,h.lo,h.hi⟩
 have HR:Hid (∀ T x tb i sum s wr,CI F T w x tb (sizeN r) i sum s wr->i<=100->Calls Tryz.prog 20 #[.pointer (some ⟨x,0,none⟩),.int .i64 (sizeN r:Int)] wr fun e w'=>e=.returned (.bool true)/\∃ s',Hid (Cv F T w x tb (sizeN r) s' w'/\CzOk s'.es sum)):=fun T x tb i sum s wr h hi=>by
  refine Calls.mono (h.a.round hF hi) ?_
  rintro e w' ⟨rfl,s',he,h2⟩
  exact ⟨rfl,s',h2,by rw[he];exact h.c⟩
 have HAk:Hid (∀ T x tb s sum wr (q:Nat),(Cv F T w x tb (sizeN r) s wr/\CzOk s.es sum)->q<sizeN r->Calls Tryz.prog 24 #[.pointer (some ⟨x,0,none⟩),.int .i64 (q:Int),.string ⟨#[99,122]⟩] wr fun e w'=>∃ u,e=.returned (.tuple #[.string u,.int .i64 0])/\Hid (toL u=Thk.digits sum)/\Hid (Cv F T w x tb (sizeN r) s w'/\CzOk s.es sum)):=fun T x tb s sum wr q h hq=>by
  have hz:askR s.es s.kn (q:Int) (toL ⟨#[99,122]⟩)=(Thk.digits sum,0):=cz_ask h.2 (by rw[h.1.len];exact hq) (h.1.full q hq)
  refine Calls.mono (h.1.k.asks hF (q:Int) (t:=⟨#[99,122]⟩) (by decide)) ?_
  rw[hz]
  rintro e w' ⟨u,rfl,hu,hk⟩
  exact ⟨u,rfl,hu,h.1.calls hk,h.2⟩
 have HDh:Hid (∀ T x tb s sum wr,(Cv F T w x tb (sizeN r) s wr/\CzOk s.es sum)->sum.natAbs<=1000000000000->Calls Tryz.prog 26 #[.int .i64 sum] wr fun e w'=>∃ t,e=.returned (.string t)/\Hid (toL t=Thk.digits sum)/\Hid (Cv F T w x tb (sizeN r) s w'/\CzOk s.es sum)):=fun T x tb s sum wr h hv=>by
  refine Calls.mono (kdigits_any sum wr hv) ?_
  rintro e w' ⟨t,rfl,h1,h2,hb⟩
  exact ⟨t,rfl,h1,h.1.calls (h.1.k.below hP hb),h.2⟩
 have HpK:Hid (∀ (a:ActD) wx,a.ok->Calls Tryz.prog 18 #[.int .i64 a.kd,.int .i64 8] wx fun r' w'=>r'=.returned (.int .i64 (pickN a.kd 8:Int))/\w'=wx):=fun a wx ha=>kpick_any a.kd 8 wx ha.1 (by decide) (by decide)
 have HpI:Hid (∀ (a:ActD) wx,a.ok->Calls Tryz.prog 18 #[.int .i64 a.i,.int .i64 (sizeN r:Int)] wx fun r' w'=>r'=.returned (.int .i64 (pickN a.i (sizeN r):Int))/\w'=wx):=fun a wx ha=>kpick_any a.i (sizeN r) wx ha.2.1 (by omega) (by omega)
 have HP:Hid (ProgFrame F):=hP
 obtain ⟨hn2,hn4⟩:=hn
 clear hF hP hT hG hr hm hacts hok hroom
 generalize sizeN r=n at *
 generalize pickN room 51=rm at *
 go_enter Tryz.func9,Tryz.ntmps9
 go_wp2_with fail
 refine Calls.mono Hs.out ?_
 rintro e w1 ⟨rfl,h1⟩
 rw[h1]
 clear h1 w1
 go_wp2_with fail
 refine Calls.mono (Hp.out _) ?_
 rintro e w1 ⟨rfl,h1⟩
 rw[h1]
 clear h1 w1
 go_wp2_with fail
 refine Calls.mono Hc.out ?_
 rintro e w1 ⟨x,rfl,H1⟩
 clear Hs Hp Hc
 go_wp2_with fail
 go_loopw [10,11] (fun v10 v11 wr=>∃ (i:Nat) (sum:Int),v11=.int .i64 (i:Int)/\v10=.int .i64 sum/\i<=60/\Hid (∃ s,CI F (fun k=>k=w1.heap.size) w x w1.heap.size n i sum s wr)) (fun _ v11 _=>60-(intOf v11).toNat)
 case atStart=>exact ⟨0,0,rfl,rfl,by omega,_,H1.out⟩
 case round =>
  clear H1
  obtain ⟨i,sum,rfl,rfl,hi80,HI⟩:=hrel
  obtain ⟨s,HS⟩:∃ s,Hid (CI F (fun k=>k=w1.heap.size) w x w1.heap.size n i sum s wr):=HI.out
  clear HI
  have hlo:=HS.out.lo
  have hhi:=HS.out.hi
  by_cases hgo:i<l.length/\i<60
  ·obtain ⟨hi,hi8⟩:=hgo
   obtain ⟨b,off,rfl,hcap,hcell⟩:=HA.out i hi
   obtain ⟨d0,d1,d2,d3,d4⟩:=hcell wr HS.out.a.k.bel
   have Ho:Hid (l[i].ok):=Hok.out _ (List.getElem_mem hi)
   clear hcell HA Hok HR HAk HDh
   generalize l[i]=a at *
   have hiI:(i:Int)<(l.length:Int):=by omega
   have hi8I:(i:Int)<60:=by omega
   obtain ⟨hCI,hAB⟩:=HS.out.act HP.out a
   have HB:Hid (ActB (actW wr a) wr.heap.size a):=hAB
   have HCI:Hid (CI F (fun k=>k=w1.heap.size\/k=wr.heap.size) w x w1.heap.size n i sum s (actW wr a)):=hCI
   clear hCI hAB
   obtain ⟨W,HW⟩:∃ W,Hid (wr.alloc (.cells #[.int .i64 a.kd,.int .i64 a.i,.int .i64 a.j,.int .i64 a.k,.int .i64 a.v] 35)=W):=⟨_,rfl⟩
   have HB2:Hid (ActB W wr.heap.size a):=by rw[<- HW.out];exact HB.out
   have HC2:Hid (CI F (fun k=>k=w1.heap.size\/k=wr.heap.size) w x w1.heap.size n i sum s W):=by rw[<- HW.out];exact HCI.out
   clear HB HCI
   go_wp2_with fail
   rw[HW.out]
   clear HW HS d0 d1 d2 d3 d4
   refine Calls.mono (HpK.out a _ Ho.out) ?_
   rintro e w2 ⟨rfl,h2⟩
   rw[h2]
   clear h2 w2
   have b0:W.cell? ⟨wr.heap.size,0,none⟩=some (.int .i64 a.kd):=HB2.out.cell 0
   have b1:W.cell? ⟨wr.heap.size,1,none⟩=some (.int .i64 a.i):=HB2.out.cell 1
   have b2:W.cell? ⟨wr.heap.size,2,none⟩=some (.int .i64 a.j):=HB2.out.cell 2
   have b3:W.cell? ⟨wr.heap.size,3,none⟩=some (.int .i64 a.k):=HB2.out.cell 3
   have b4:W.cell? ⟨wr.heap.size,4,none⟩=some (.int .i64 a.v):=HB2.out.cell 4
   by_cases hk3:pickN a.kd 8<3
   ·have hk3I:(pickN a.kd 8:Int)<3:=by omega
    have hvb:-1000000000<=a.v.tmod 1000000001/\a.v.tmod 1000000001<=1000000000:=by
     have h1:=Int.tmod_lt_of_pos a.v (show (0:Int)<1000000001 by decide)
     have h2:=Int.lt_tmod_of_pos a.v (show (0:Int)<1000000001 by decide)
     omega
    obtain ⟨hv1,hv2⟩:=hvb
    have hwv:IntKind.i64.wrap (a.v.tmod 1000000001)=a.v.tmod 1000000001:=wrap_in _ (by omega) (by omega)
    have hq:=pickN_lt a.i (show 1<=n by omega)
    have HpIa:Hid (_):=fun wx=>HpI.out a wx Ho.out
    have HDga:Hid (_):=HDg.out _ x w1.heap.size i sum s W (a.v.tmod 1000000001) HC2.out (by omega)
    clear HpI HpK HPl Ho HDg
    generalize hvv:a.v.tmod 1000000001=vv at *
    generalize pickN a.kd 8=kd at *
    generalize pickN a.i n=q at *
    go_wp2_with fail
    refine Calls.mono (HpIa.out _) ?_
    rintro e w2 ⟨rfl,h2⟩
    rw[h2]
    clear h2 w2 HpIa
    go_wp2_with fail
    refine Calls.mono HDga.out ?_
    rintro e w3 ⟨t,rfl,Ht,hts,HC3⟩
    clear HDga HC2 HB2 b0 b1 b2 b3 b4
    have Htx:Hid (toL (⟨#[99,122,62]⟩ ++ t)=[99,122,62] ++ Thk.digits vv):=by unfold Hid;rw[toL_append,Ht.out];(first | done | rfl)
    have hsz:(⟨#[99,122,62]⟩ ++ t:ByteArray).size<=1000:=by
     rw[ByteArray.size_append];have:(⟨#[99,122,62]⟩:ByteArray).size=3:=rfl;omega
    have HD:Hid (_):=HDo.out _ x w1.heap.size i sum s w3 q vv _ HC3.out (by omega) hq hv2 hv1 Htx.out hsz
    have hel:=HC3.out.a.ok.ev
    clear HDo HC3 Htx Ht hsz
    go_wp2_with fail
    refine Calls.mono HD.out ?_
    rintro e w4 ⟨rfl,s',HM⟩
    clear HD
    have c1:w4.cell? ⟨w1.heap.size,1,none⟩=some (.int .i64 (s.es.length:Int)):=HM.out.t.cell 1
    have f1:w4.frozen? ⟨w1.heap.size,1,none⟩=false:=HM.out.t.frozen 1
    have HN:Hid (CI F (fun k=>k=w1.heap.size) w x w1.heap.size n (i+1) (sum+vv) s' (w4.setCell ⟨w1.heap.size,1,none⟩ (.int .i64 ((s.es.length:Int)+1)))):=(HM.out.tally HP.out hv2 hv1 hlo hhi).less (fun k hk=>Or.inl hk) rfl
    have hws:IntKind.i64.wrap (sum+vv)=sum+vv:=wrap_in _ (by omega) (by omega)
    have hE:s.es.length<=400:=by omega
    clear HM hel hlo hhi
    generalize s.es.length=E at *
    go_wp2
    go_roundw
    case rel=>exact ⟨i+1,sum+vv,by first | rfl | go_num,rfl,by omega,s',HN.out⟩
    case measure=>simp[intOf] <;> omega
   ·have hk3I:¬(pickN a.kd 8:Int)<3:=by omega
    have HC:Hid (_):=HPl.out _ x w1.heap.size i sum s W a HC2.out (by omega) Ho.out hk3
    clear HPl HDo HDg HpK HpI Ho HC2 HB2
    unfold ActD.val at HC
    generalize pickN a.kd 8=kd at *
    go_wp2_with fail
    refine Calls.mono HC.out ?_
    rintro e w2 ⟨rfl,s',H2⟩
    have HN:Hid (CI F (fun k=>k=w1.heap.size) w x w1.heap.size n (i+1) sum s' w2):=H2.out.less (fun k hk=>Or.inl hk) rfl
    clear HC H2
    go_wp2
    go_roundw
    case rel=>exact ⟨i+1,sum,by first | rfl | go_num,rfl,by omega,s',HN.out⟩
    case measure=>simp[intOf] <;> omega
  ·have HC:Hid (_):=HR.out _ x w1.heap.size i sum s wr HS.out (by omega)
   have hsum:sum.natAbs<=1000000000000:=by omega
   have hex:(¬(i:Int)<(l.length:Int))\/((i:Int)<(l.length:Int)/\¬(i:Int)<60):=by omega
   clear hgo HPl HDo HDg HpK HpI HA Hok HR HS hlo hhi
   rcases hex with hx | ⟨hx,hx2⟩
   all_goals
    go_wp2_with fail
    refine Calls.mono HC.out ?_
    rintro e w2 ⟨rfl,s',H2⟩
    clear HC
    go_wp2_with fail
    go_loopw [17] (fun v17 wr=>∃ q:Nat,v17=.int .i64 (q:Int)/\q<=n/\Hid (Cv F (fun k=>k=w1.heap.size) w x w1.heap.size n s' wr/\CzOk s'.es sum)) (fun v17 _=>n-(intOf v17).toNat)
    case atStart=>exact ⟨0,rfl,by omega,H2⟩
    case round =>
     clear H2
     obtain ⟨q,rfl,hq,H5⟩:=hrel
     by_cases hqn:q<n
     ·have hqI:(q:Int)<(n:Int):=by omega
      go_wp2_with fail
      refine Calls.mono (HAk.out _ x w1.heap.size s' sum _ q H5.out hqn) ?_
      rintro e w5 ⟨u,rfl,Hu,H6⟩
      clear H5
      go_wp2_with fail
      refine Calls.mono (HDh.out _ x w1.heap.size s' sum _ H6.out hsum) ?_
      rintro e w6 ⟨u2,rfl,Hu2,H7⟩
      have heq:u=u2:=toL_inj (Hu.out.trans Hu2.out.symm)
      subst heq
      clear H6 Hu Hu2
      go_wp2
      go_roundw
      case rel=>exact ⟨q+1,by first | rfl | go_num,by omega,H7⟩
      case measure=>simp[intOf] <;> omega
     ·have hqI:¬(q:Int)<(n:Int):=by omega
      go_wp2
      go_ret
      exact ⟨rfl,H5.out.1.k.bel⟩
end Go.Proofs.YtfmmllpjgkgeaaaGreatDoor

