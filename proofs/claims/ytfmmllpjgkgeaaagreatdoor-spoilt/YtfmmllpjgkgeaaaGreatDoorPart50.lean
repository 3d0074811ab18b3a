import Derived.Test.YtfmmllpjgkgeaaaGreatDoorPart42
set_option linter.unusedVariables false
set_option linter.unusedSimpArgs false
namespace Go.Proofs.YtfmmllpjgkgeaaaGreatDoor
open Go.RowKit
variable {F:Stt}

theorem ActsV.at {w:World} {l:List ActD} {ad:Option Addr} {cap:Nat} (h:0<l.length->∃ b off,ad=some ⟨b,off,none⟩/\l.length<=cap/\ActsAt w b off l) (i:Nat) (hi:i<l.length) :
  ∃ b off,ad=some ⟨b,off,none⟩/\l.length<=cap/\∀ wx,Below w.heap.size w wx->wx.cell? ⟨b,off+i*5,none⟩=some (.int .i64 l[i].kd)/\wx.cell? ⟨b,off+i*5+1,none⟩=some (.int .i64 l[i].i)/\wx.cell? ⟨b,off+i*5+2,none⟩=some (.int .i64 l[i].j)/\wx.cell? ⟨b,off+i*5+3,none⟩=some (.int .i64 l[i].k)/\wx.cell? ⟨b,off+i*5+4,none⟩=some (.int .i64 l[i].v):=by
 obtain ⟨b,off,h1,h2,h3⟩:=h (by omega)
 refine ⟨b,off,h1,h2,fun wx hb=>?_⟩
 have h4:=h3.below hb
 exact ⟨h4.c0 i hi,h4.c1 i hi,h4.c2 i hi,h4.c3 i hi,h4.c4 i hi⟩

structure Cv (F:Stt) (T:Nat->Prop) (w:World) (x tb n:Nat) (s:St) (wr:World):Prop where
 k:KAt F T w x s wr
 t:∃ f,TalAt wr tb f s.es.length
 ht:T tb
 len:s.kn.length=n
 ev:EvsOk s
 kl:∀ l∈s.kn,l.length<=1000
 full:∀ q,q<n->s.kn.getD q []=List.replicate s.es.length true
section
variable {T:Nat->Prop} {w wr w':World} {x tb n:Nat} {s:St}
theorem Cv.calls (h:Cv F T w x tb n s wr) (hk:KTo F T w x s wr w'):Cv F T w x tb n s w':=by
 obtain ⟨f,h1⟩:=h.t
 exact ⟨hk.1,⟨f,Blk.chg h1 hk.2 (fun e=>e.2 h.ht)⟩,h.ht,h.len,h.ev,h.kl,h.full⟩
theorem Cv.tells (hF:ProgOK F) (hP:ProgFrame F) (h:Cv F T w x tb n s wr) {q:Nat} (hq:q<n) :
  Calls Tryz.prog 21 #[.pointer (some ⟨x,0,none⟩),.int .i64 (q:Int)] wr fun e w'=>e=.returned (.string ⟨(tellsL s 0).toArray⟩)/\Cv F T w x tb n s w':=by
 have hl:=h.len
 have h0:=h.full 0 (by omega)
 have hq0:=h.full q hq
 refine Calls.mono (tells_any hF hP T w wr x s h.k h.ev h.kl (q:Int)) ?_
 rintro e w' ⟨u,rfl,hu,_,hk⟩
 have hs:tellsL s (q:Int)=tellsL s 0:=tells_same (i:=q) (j:=0) (by omega) (by omega) (by rw[h0,hq0])
 have:u=⟨(tellsL s 0).toArray⟩:=toL_inj (by rw[hu,hs];simp[toL])
 subst this
 exact ⟨rfl,h.calls hk⟩
theorem Cv.knows (hF:ProgOK F) (h:Cv F T w x tb n s wr) (hn:0<n) :
  Calls Tryz.prog 22 #[.pointer (some ⟨x,0,none⟩),.int .i64 0] wr fun e w'=>e=.returned (.tuple #[.int .i64 (s.es.length:Int),.int .i64 0])/\Cv F T w x tb n s w':=by
 have hl:=h.len
 have hk:=knowsR_in (s:=s) (k:=0) (by omega)
 rw[h.full 0 hn,cnt_rep] at hk
 refine Calls.mono (h.k.knows hF 0) ?_
 rw[show (0:Int)=((0:Nat):Int) from rfl,hk]
 rintro e w' ⟨rfl,hk⟩
 exact ⟨rfl,h.calls hk⟩
end
theorem AI.round (hF:ProgOK F) {T:Nat->Prop} {w wr:World} {x tb n i:Nat} {s:St} (h:AI F T w x tb n i s wr) (hi:i<=100) :
  Calls Tryz.prog 20 #[.pointer (some ⟨x,0,none⟩),.int .i64 (n:Int)] wr fun e w'=>e=.returned (.bool true)/\∃ s',s'.es=s.es/\Cv F T w x tb n s' w':=by
 have hfl:=h.ok.fl
 refine Calls.mono (round_any hF T w wr x n ⟨h.ok.n2,h.ok.n4⟩ s h.k h.ok.len h.ok.kl (by omega)) ?_
 rintro e w' ⟨rfl,s',hr,hk⟩
 have hsm:=hr.small h.ok (by omega)
 refine ⟨rfl,s',hr.es,hk.1,⟨s.fs.length, ?_⟩,h.ht,hr.len,hsm.1,hsm.2,fun q hq=>h.ok.full hr hq⟩
 rw[hr.es]
 exact Blk.chg h.t hk.2 (fun e=>e.2 h.ht)

set_option maxHeartbeats 8000000 in
set_option maxRecDepth 100000 in
theorem Converged_any (hF:ProgOK F) (hP:ProgFrame F) (hT:ProgTick F) (w:World) (hG:Glob w) (r room:Int) (hr:i64B r) (hm:i64B room) (v:Value) (l:List ActD) (hv:ActsV w v l) :
  Calls Tryz.prog 6 #[.int .i64 r,.int .i64 room,v] w fun e w'=>e=.returned (.bool true)/\Below w.heap.size w w':=by
 obtain ⟨⟨ad,cap,rfl,hacts⟩,hok⟩:=hv
 have hn:=sizeN_le r
 have hroom:=pickN_lt room (show 1<=51 by omega)
 have Hs:Hid (Calls Tryz.prog 16 #[.int .i64 r] w fun r' w'=>r'=.returned (.int .i64 (sizeN r:Int))/\w'=w):=ksize_any r w hr
 have Hp:Hid (∀ wx,Calls Tryz.prog 18 #[.int .i64 room,.int .i64 51] wx fun r w'=>r=.returned (.int .i64 (pickN room 51:Int))/\w'=wx):=fun wx=>kpick_any room 51 wx hm (by decide) (by decide)
 have Hc:Hid (Calls Tryz.prog 17 #[.int .i64 (sizeN r:Int),.int .i64 (pickN room 51:Int)] w fun e w'=>∃ x,e=.returned (.pointer (some ⟨x,0,none⟩))/\Hid (AI F (fun k=>k=w'.heap.size) w x w'.heap.size (sizeN r) 0 (zS (sizeN r)) (w'.alloc (.cells #[.int .i64 0,.int .i64 2] 32)))):=by
  refine Calls.mono (cluster_any hF w hG (sizeN r) (pickN room 51) hn (by omega)) ?_
  rintro e w' ⟨x,rfl,hk⟩
  exact ⟨x,rfl,AI.start hP hn hk⟩
 have HA:Hid (∀ i (hi:i<l.length),_):=fun i hi=>ActsV.at hacts i hi
 have HPl:Hid (∀ T x tb i s wr (hi:i<l.length),AI F T w x tb (sizeN r) i s wr->i<=400->Calls Tryz.prog 19 #[.pointer (some ⟨tb,0,none⟩),.pointer (some ⟨x,0,none⟩),.int .i64 (sizeN r:Int),.agg #[.int .i64 l[i].kd,.int .i64 l[i].i,.int .i64 l[i].j,.int .i64 l[i].k,.int .i64 l[i].v]] wr fun e w'=>e=.returned (.bool true)/\∃ s',Hid (AI F T w x tb (sizeN r) (i+1) s' w')):=fun T x tb i s wr hi h hi4=>by
  refine Calls.mono (h.play hF hP hT hi4 (hok _ (List.getElem_mem hi))) ?_
  rintro e w' ⟨rfl,s',_,h2,_⟩
  exact ⟨rfl,s',h2⟩
 have HR:Hid (∀ T x tb i s wr,AI F T w x tb (sizeN r) i s wr->i<=100->Calls Tryz.prog 20 #[.pointer (some ⟨x,0,none⟩),.int .i64 (sizeN r:Int)] wr fun e w'=>e=.returned (.bool true)/\∃ s',Hid (Cv F T w x tb (sizeN r) s' w')):=fun T x tb i s wr h hi=>by
  refine Calls.mono (h.round hF hi) ?_
  rintro e w' ⟨rfl,s',_,h2⟩
  exact ⟨rfl,s',h2⟩
 have HTl:Hid (∀ T x tb s wr (q:Nat),Cv F T w x tb (sizeN r) s wr->q<sizeN r->Calls Tryz.prog 21 #[.pointer (some ⟨x,0,none⟩),.int .i64 (q:Int)] wr fun e w'=>e=.returned (.string ⟨(tellsL s 0).toArray⟩)/\Hid (Cv F T w x tb (sizeN r) s w')):=fun T x tb s wr q h hq=>h.tells hF hP hq
 have HKn:Hid (∀ T x tb s wr,Cv F T w x tb (sizeN r) s wr->Calls Tryz.prog 22 #[.pointer (some ⟨x,0,none⟩),.int .i64 0] wr fun e w'=>e=.returned (.tuple #[.int .i64 (s.es.length:Int),.int .i64 0])/\Hid (Cv F T w x tb (sizeN r) s w')):=fun T x tb s wr h=>h.knows hF (by omega)
 obtain ⟨hn2,hn4⟩:=hn
 clear hF hP hT hG hr hm hacts hok hroom
 generalize sizeN r=n at *
 generalize pickN room 51=rm at *
 go_enter Tryz.func6,Tryz.ntmps6
 go_wp2_with fail
 refine Calls.mono Hs.out ?_
 rintro e w1 ⟨rfl,h1⟩
 rw[h1]
 clear h1 w1
 go_wp2_with fail
 refine Calls.mono (Hp.out _) ?_
 rintro e w1 ⟨rfl,h1⟩
 rw[h1]
 clear h1 w1
 go_wp2_with fail
 refine Calls.mono Hc.out ?_
 rintro e w1 ⟨x,rfl,H1⟩
 clear Hs Hp Hc
 go_wp2_with fail
 go_loopw [10] (fun v10 wr=>∃ i:Nat,v10=.int .i64 (i:Int)/\i<=80/\Hid (∃ s,AI F (fun k=>k=w1.heap.size) w x w1.heap.size n i s wr)) (fun v10 _=>80-(intOf v10).toNat)
 case atStart=>exact ⟨0,rfl,by omega,_,H1.out⟩
 case round =>
  clear H1
  obtain ⟨i,rfl,hi80,HI⟩:=hrel
  obtain ⟨s,HS⟩:∃ s,Hid (AI F (fun k=>k=w1.heap.size) w x w1.heap.size n i s wr):=HI.out
  clear HI
  by_cases hgo:i<l.length/\i<80
  ·obtain ⟨hi,hi8⟩:=hgo
   obtain ⟨b,off,rfl,hcap,hcell⟩:=HA.out i hi
   obtain ⟨d0,d1,d2,d3,d4⟩:=hcell wr HS.out.k.bel
   clear hcell
   have HC:Hid (_):=HPl.out _ x w1.heap.size i s wr hi HS.out (by omega)
   clear HPl HR HTl HKn
   generalize l[i].kd=q0 at *
   generalize l[i].i=q1 at *
   generalize l[i].j=q2 at *
   generalize l[i].k=q3 at *
   generalize l[i].v=q4 at *
   have hiI:(i:Int)<(l.length:Int):=by omega
   have hi8I:(i:Int)<80:=by omega
   go_wp2_with fail
   refine Calls.mono HC.out ?_
   rintro e w2 ⟨rfl,s',H2⟩
   clear HC HS d0 d1 d2 d3 d4
   go_wp2
   go_roundw
   case rel=>exact ⟨i+1,by first | rfl | go_num,by omega,s',H2.out⟩
   case measure=>simp[intOf] <;> omega
  ·have HC:Hid (_):=HR.out _ x w1.heap.size i s wr HS.out (by omega)
   clear HPl HA HR
   have hex:(¬(i:Int)<(l.length:Int))\/((i:Int)<(l.length:Int)/\¬(i:Int)<80):=by omega
   clear hgo HS
   rcases hex with hx | ⟨hx,hx2⟩
   all_goals
    go_wp2_with fail
    refine Calls.mono HC.out ?_
    rintro e w2 ⟨rfl,s',H2⟩
    clear HC
    have HT0:Hid (_):=HTl.out _ x w1.heap.size s' w2 0 H2.out (by omega)
    have HTq:Hid (∀ wr (q:Nat),Cv F (fun k=>k=w1.heap.size) w x w1.heap.size n s' wr->q<n->Calls Tryz.prog 21 #[.pointer (some ⟨x,0,none⟩),.int .i64 (q:Int)] wr fun e w'=>e=.returned (.string ⟨(tellsL s' 0).toArray⟩)/\Hid (Cv F (fun k=>k=w1.heap.size) w x w1.heap.size n s' w')):=HTl.out _ x w1.heap.size s'
    clear HTl
    generalize (⟨(tellsL s' 0).toArray⟩:ByteArray)=u at *
    go_wp2_with fail
    refine Calls.mono HT0.out ?_
    rintro e w3 ⟨rfl,H3⟩
    clear HT0 H2
    go_wp2_with fail
    refine Calls.mono (HKn.out _ x w1.heap.size s' w3 H3.out) ?_
    rintro e w4 ⟨rfl,H4⟩
    clear H3 HKn
    obtain ⟨f4,t4⟩:=H4.out.t
    have c4:w4.cell? ⟨w1.heap.size,1,none⟩=some (.int .i64 (s'.es.length:Int)):=t4.cell 1
    clear t4
    generalize s'.es.length=N at *
    go_wp2_with fail
    go_loopw [16] (fun v16 wr=>∃ q:Nat,v16=.int .i64 (q:Int)/\q<=n/\Hid (Cv F (fun k=>k=w1.heap.size) w x w1.heap.size n s' wr)) (fun v16 _=>n-(intOf v16).toNat)
    case atStart=>exact ⟨1,rfl,by omega,H4⟩
    case round =>
     clear H4 c4
     obtain ⟨q,rfl,hq,H5⟩:=hrel
     by_cases hqn:q<n
     ·have hqI:(q:Int)<(n:Int):=by omega
      go_wp2_with fail
      refine Calls.mono (HTq.out _ q H5.out hqn) ?_
      rintro e w5 ⟨rfl,H6⟩
      clear H5
      go_wp2
      go_roundw
      case rel=>exact ⟨q+1,by first | rfl | go_num,by omega,H6⟩
      case measure=>simp[intOf] <;> omega
     ·have hqI:¬(q:Int)<(n:Int):=by omega
      go_wp2
      go_ret
      exact ⟨rfl,H5.out.k.bel⟩
end Go.Proofs.YtfmmllpjgkgeaaaGreatDoor

