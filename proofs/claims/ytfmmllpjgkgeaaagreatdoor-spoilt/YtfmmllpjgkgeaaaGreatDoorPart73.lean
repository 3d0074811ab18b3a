import Derived.Test.YtfmmllpjgkgeaaaGreatDoorPart52
set_option linter.unusedVariables false
set_option linter.unusedSimpArgs false
namespace Go.Proofs.YtfmmllpjgkgeaaaGreatDoor
open Go.RowKit
variable {F:Stt} {G:List Nat->Stt} {wt:List Nat}

structure ProgSpoil (F:Stt) (G:List Nat->Stt):Prop where
 pos:∀ {w x S s f g},F w x S s->frNo s f=some g->1<=g.bytes.size/\g.bytes.size<=700000
 bad:∀ wt w x S s f g (b:Nat),G wt w x S s->frNo s f=some g->b<8*g.bytes.size ->
  Calls Tryz.prog 30 #[.pointer (some ⟨x,0,none⟩),.int .i64 f,.int .i64 (b:Int)] w fun e w'=>e=.returned (.int .i64 9)/\∃ S',G wt w' x S' s/\(∀ k,S' k->S k\/w.heap.size<=k)/\Chg S w w'
 arg:∀ wt w x S s f g,G wt w x S s->frNo s f=some g ->
  Calls Tryz.prog 30 #[.pointer (some ⟨x,0,none⟩),.int .i64 f,.int .i64 (8*(g.bytes.size:Int))] w fun e w'=>e=.returned (.int .i64 1)/\∃ S',G wt w' x S' s/\(∀ k,S' k->S k\/w.heap.size<=k)/\Chg S w w'

structure Sp (F:Stt) (T:Nat->Prop) (w:World) (x n c f:Nat) (g:FrD) (s:St) (wr:World):Prop where
 k:KAt F T w x s wr
 ok:KOk n c s
 fr:frNo s (f:Int)=some g
 ack:g.ack=0
 lst:s.fs.length=f
section
variable {T:Nat->Prop} {w wr:World} {x n c f:Nat} {g:FrD} {s:St}
theorem AI.send01 (hF:ProgOK F) {tb i:Nat} (h:AI F T w x tb n i s wr) (hi:i<=400) :
  Calls Tryz.prog 27 #[.pointer (some ⟨x,0,none⟩),.int .i64 0,.int .i64 1] wr fun e w'=>∃ (f:Nat) (g:FrD) (s':St),e=.returned (.tuple #[.int .i64 (f:Int),.int .i64 0])/\f<=1000/\Sp F T w x n (i+1) f g s' w':=by
 have hfl:=h.ok.fl
 have hn:=h.ok.n2
 have hl:=h.ok.len
 refine Calls.mono (h.k.sends hF 0 1) ?_
 have hr:=sendR_ok (s:=s) (i:=0) (j:=1) (by omega) (by omega) (by omega) (by omega)
 simp only[Int.natCast_zero,show ((1:Nat):Int)=1 from rfl] at hr
 rw[hr]
 rintro e w' ⟨rfl,s',⟨t1,t2,t3⟩,hk,hc⟩
 rw[hr,if_pos rfl] at t3
 obtain ⟨b,t3⟩:=t3
 have hlen:s'.fs.length=s.fs.length+1:=by rw[t3];simp
 refine ⟨s.fs.length+1,⟨0,1,0,s.kn.getD 0 [],b⟩,s',by rw[Int.natCast_add];rfl,by omega,hk,h.ok.sent (i:=0) (j:=1) (b:=b) (by omega) (by omega) t1 t2 t3, ?_,rfl,hlen⟩
 have:=frNo_last s' _ s.fs t3
 rw[Int.natCast_add];exact this
theorem Sp.frame (hF:ProgOK F) (h:Sp F T w x n c f g s wr) :
  Calls Tryz.prog 28 #[.pointer (some ⟨x,0,none⟩),.int .i64 (f:Int)] wr fun e w'=>e=.returned (.tuple #[.string g.bytes,.int .i64 0])/\Sp F T w x n c f g s w':=by
 obtain ⟨S,f1,s1⟩:=h.k.f
 refine Calls.mono (hF.frame wr x S s (f:Int) h.k.glob f1) ?_
 rintro e w' ⟨rfl,S2,f2,s2,hc2⟩
 refine ⟨?_,(h.k.next s1 f2 s2 hc2).1,h.ok,h.fr,h.ack,h.lst⟩
 unfold frameR;rw[h.fr]
theorem Sp.pos (hS:ProgSpoil F G) (h:Sp F T w x n c f g s wr):1<=g.bytes.size/\g.bytes.size<=700000:=by
 obtain ⟨S,f1,s1⟩:=h.k.f
 exact hS.pos f1 h.fr
theorem Sp.lift (hW:ProgWait F G) (h:Sp F T w x n c f g s wr):∃ wt,Sp (G wt) T w x n c f g s wr:=by
 obtain ⟨wt,hk⟩:=h.k.wt hW
 exact ⟨wt,hk,h.ok,h.fr,h.ack,h.lst⟩
theorem Sp.board (hW:ProgWait F G) (h:Sp (G wt) T w x n c f g s wr) (hc:c<=400) :
  Calls Tryz.prog 29 #[.pointer (some ⟨x,0,none⟩),.int .i64 (n:Int)] wr fun e w'=>e=.returned (.string ⟨(boardTo s wt n).toArray⟩)/\Sp (G wt) T w x n c f g s w':=by
 have hs:=h.ok.small hc
 have hwt:∀ k,wt.getD k 0<=100:=by
  obtain ⟨S,f1,_⟩:=h.k.f
  exact hW.bnd f1
 refine Calls.mono (board_any hW hwt T w wr x n s h.k hs.1 hs.2 h.ok.len h.ok.n4) ?_
 rintro e w' ⟨u,rfl,hu,hk⟩
 have:u=⟨(boardTo s wt n).toArray⟩:=toL_inj (by rw[hu];simp[toL])
 subst this
 exact ⟨rfl,hk.1,h.ok,h.fr,h.ack,h.lst⟩
theorem Sp.bad (hS:ProgSpoil F G) (h:Sp (G wt) T w x n c f g s wr) {b:Nat} (hb:b<8*g.bytes.size) :
  Calls Tryz.prog 30 #[.pointer (some ⟨x,0,none⟩),.int .i64 (f:Int),.int .i64 (b:Int)] wr fun e w'=>e=.returned (.int .i64 9)/\Sp (G wt) T w x n c f g s w':=by
 obtain ⟨S,f1,s1⟩:=h.k.f
 refine Calls.mono (hS.bad wt wr x S s (f:Int) g b f1 h.fr hb) ?_
 rintro e w' ⟨rfl,S2,f2,s2,hc2⟩
 exact ⟨rfl,(h.k.next s1 f2 s2 hc2).1,h.ok,h.fr,h.ack,h.lst⟩
theorem Sp.arg (hS:ProgSpoil F G) (h:Sp (G wt) T w x n c f g s wr) :
  Calls Tryz.prog 30 #[.pointer (some ⟨x,0,none⟩),.int .i64 (f:Int),.int .i64 (8*(g.bytes.size:Int))] wr fun e w'=>e=.returned (.int .i64 1)/\Sp (G wt) T w x n c f g s w':=by
 obtain ⟨S,f1,s1⟩:=h.k.f
 refine Calls.mono (hS.arg wt wr x S s (f:Int) g f1 h.fr) ?_
 rintro e w' ⟨rfl,S2,f2,s2,hc2⟩
 exact ⟨rfl,(h.k.next s1 f2 s2 hc2).1,h.ok,h.fr,h.ack,h.lst⟩
theorem Sp.del (hW:ProgWait F G) (h:Sp (G wt) T w x n c f g s wr) (hc:c<=400) :
  Calls Tryz.prog 31 #[.pointer (some ⟨x,0,none⟩),.int .i64 (f:Int)] wr fun e w'=>e=.returned (.tuple #[.int .i64 ((f:Int)+1),.int .i64 0])/\Below w.heap.size w w':=by
 obtain ⟨S,f1,s1⟩:=h.k.f
 have hr:=delR_sent h.ok hc ⟨g,h.fr,h.ack⟩
 rw[h.lst] at hr
 refine Calls.mono (hW.dels wt wr x S s (f:Int) h.k.glob f1) ?_
 rw[hr]
 rintro e w' ⟨rfl,S2,s2',_,_,_,hc2⟩
 exact ⟨rfl,h.k.bel.trans (chgS_below hc2 (fun k hk=>(s1 k hk).1) h.k.bel.size)⟩
end

set_option maxHeartbeats 8000000 in
set_option maxRecDepth 100000 in
theorem Spoilt_any (hF:ProgOK F) (hP:ProgFrame F) (hT:ProgTick F) (hW:ProgWait F G) (hS:ProgSpoil F G) (w:World) (hG:Glob w) (r:Int) (hr:i64B r) (v:Value) (l:List ActD) (hv:ActsV w v l) (v3:Value) (lo:List Int) (hv3:IntsV w v3 lo) :
  Calls Tryz.prog 10 #[.int .i64 r,v,v3] w fun e w'=>e=.returned (.bool true)/\Below w.heap.size w w':=by
 obtain ⟨⟨ad,cap,rfl,hacts⟩,hok⟩:=hv
 obtain ⟨⟨ad3,cap3,rfl,hints⟩,hok3⟩:=hv3
 have hn:=sizeN_le r
 have Hs:Hid (Calls Tryz.prog 16 #[.int .i64 r] w fun r' w'=>r'=.returned (.int .i64 (sizeN r:Int))/\w'=w):=ksize_any r w hr
 have Hc:Hid (Calls Tryz.prog 17 #[.int .i64 (sizeN r:Int),.int .i64 20] w fun e w'=>∃ x,e=.returned (.pointer (some ⟨x,0,none⟩))/\Hid (AI F (fun k=>k=w'.heap.size) w x w'.heap.size (sizeN r) 0 (zS (sizeN r)) (w'.alloc (.cells #[.int .i64 0,.int .i64 2] 32)))):=by
  refine Calls.mono (cluster_any hF w hG (sizeN r) 20 hn (by omega)) ?_
  rintro e w' ⟨x,rfl,hk⟩
  exact ⟨x,rfl,AI.start hP hn hk⟩
 have HA:Hid (∀ i (hi:i<l.length),_):=fun i hi=>ActsV.at hacts i hi
 have HA3:Hid (∀ i (hi:i<lo.length),_):=fun i hi=>IntsV.at hints i hi
 have HPl:Hid (∀ T x tb i s wr (hi:i<l.length),AI F T w x tb (sizeN r) i s wr->i<=400->Calls Tryz.prog 19 #[.pointer (some ⟨tb,0,none⟩),.pointer (some ⟨x,0,none⟩),.int .i64 (sizeN r:Int),.agg #[.int .i64 l[i].kd,.int .i64 l[i].i,.int .i64 l[i].j,.int .i64 l[i].k,.int .i64 l[i].v]] wr fun e w'=>e=.returned (.bool true)/\∃ s',Hid (AI F T w x tb (sizeN r) (i+1) s' w')):=fun T x tb i s wr hi h hi4=>by
  refine Calls.mono (h.play hF hP hT hi4 (hok _ (List.getElem_mem hi))) ?_
  rintro e w' ⟨rfl,s',_,h2,_⟩
  exact ⟨rfl,s',h2⟩
 have HSd:Hid (∀ T x tb i s wr,AI F T w x tb (sizeN r) i s wr->i<=80->Calls Tryz.prog 27 #[.pointer (some ⟨x,0,none⟩),.int .i64 0,.int .i64 1] wr fun e w'=>∃ (f:Nat) (g:FrD) (s':St),e=.returned (.tuple #[.int .i64 (f:Int),.int .i64 0])/\f<=1000/\Hid (Sp F T w x (sizeN r) (i+1) f g s' w')):=fun T x tb i s wr h hi=>h.send01 hF (by omega)
 have HFr:Hid (∀ T x c f g s wr,Sp F T w x (sizeN r) c f g s wr->Calls Tryz.prog 28 #[.pointer (some ⟨x,0,none⟩),.int .i64 (f:Int)] wr fun e w'=>e=.returned (.tuple #[.string g.bytes,.int .i64 0])/\(1<=g.bytes.size/\g.bytes.size<=700000)/\∃ wt,Hid (Sp (G wt) T w x (sizeN r) c f g s w')):=fun T x c f g s wr h=>by
  refine Calls.mono (h.frame hF) ?_
  rintro e w' ⟨rfl,h2⟩
  exact ⟨rfl,h2.pos hS,h2.lift hW⟩
 have HBd:Hid (∀ wt T x c f g s wr,Sp (G wt) T w x (sizeN r) c f g s wr->c<=400->Calls Tryz.prog 29 #[.pointer (some ⟨x,0,none⟩),.int .i64 (sizeN r:Int)] wr fun e w'=>e=.returned (.string ⟨(boardTo s wt (sizeN r)).toArray⟩)/\Hid (Sp (G wt) T w x (sizeN r) c f g s w')):=fun wt T x c f g s wr h hc=>h.board hW hc
 have HSb:Hid (∀ wt T x c f g s wr (b:Nat),Sp (G wt) T w x (sizeN r) c f g s wr->b<8*g.bytes.size->Calls Tryz.prog 30 #[.pointer (some ⟨x,0,none⟩),.int .i64 (f:Int),.int .i64 (b:Int)] wr fun e w'=>e=.returned (.int .i64 9)/\Hid (Sp (G wt) T w x (sizeN r) c f g s w')):=fun wt T x c f g s wr b h hb=>h.bad hS hb
 have HSa:Hid (∀ wt T x c f g s wr,Sp (G wt) T w x (sizeN r) c f g s wr->Calls Tryz.prog 30 #[.pointer (some ⟨x,0,none⟩),.int .i64 (f:Int),.int .i64 (8*(g.bytes.size:Int))] wr fun e w'=>e=.returned (.int .i64 1)/\Hid (Sp (G wt) T w x (sizeN r) c f g s w')):=fun wt T x c f g s wr h=>h.arg hS
 have HDl:Hid (∀ wt T x c f g s wr,Sp (G wt) T w x (sizeN r) c f g s wr->c<=400->Calls Tryz.prog 31 #[.pointer (some ⟨x,0,none⟩),.int .i64 (f:Int)] wr fun e w'=>e=.returned (.tuple #[.int .i64 ((f:Int)+1),.int .i64 0])/\Hid (Below w.heap.size w w')):=fun wt T x c f g s wr h hc=>h.del hW hc
 have HpO:Hid (∀ i (hi:i<lo.length) (m:Nat) wx,1<=m->m<=700000->Calls Tryz.prog 18 #[.int .i64 lo[i],.int .i64 (8*(m:Int))] wx fun r' w'=>r'=.returned (.int .i64 (pickN lo[i] (8*m):Int))/\w'=wx):=fun i hi m wx h1 h2=>by
  have:=kpick_any lo[i] (8*m) wx (hok3 _ (List.getElem_mem hi)) (by omega) (by omega)
  rw[Int.natCast_mul] at this
  exact this
 obtain ⟨hn2,hn4⟩:=hn
 clear hF hP hT hW hS hG hr hacts hok hints hok3
 generalize sizeN r=n at *
 go_enter Tryz.func10,Tryz.ntmps10
 go_wp2_with fail
 refine Calls.mono Hs.out ?_
 rintro e w1 ⟨rfl,h1⟩
 rw[h1]
 clear h1 w1
 go_wp2_with fail
 refine Calls.mono Hc.out ?_
 rintro e w1 ⟨x,rfl,H1⟩
 clear Hs Hc
 go_wp2_with fail
 go_loopw [10] (fun v10 wr=>∃ i:Nat,v10=.int .i64 (i:Int)/\i<=80/\Hid (∃ s,AI F (fun k=>k=w1.heap.size) w x w1.heap.size n i s wr)) (fun v10 _=>80-(intOf v10).toNat)
 case atStart=>exact ⟨0,rfl,by omega,_,H1.out⟩
 case round =>
  clear H1
  obtain ⟨i,rfl,hi80,HI⟩:=hrel
  obtain ⟨s,HS⟩:∃ s,Hid (AI F (fun k=>k=w1.heap.size) w x w1.heap.size n i s wr):=HI.out
  clear HI
  by_cases hgo:i<l.length/\i<80
  ·obtain ⟨hi,hi8⟩:=hgo
   obtain ⟨b,off,rfl,hcap,hcell⟩:=HA.out i hi
   obtain ⟨d0,d1,d2,d3,d4⟩:=hcell wr HS.out.k.bel
   clear hcell
   have HC:Hid (_):=HPl.out _ x w1.heap.size i s wr hi HS.out (by omega)
   clear HPl HA HA3 HSd HFr HBd HSb HSa HDl HpO
   generalize l[i].kd=q0 at *
   generalize l[i].i=q1 at *
   generalize l[i].j=q2 at *
   generalize l[i].k=q3 at *
   generalize l[i].v=q4 at *
   have hiI:(i:Int)<(l.length:Int):=by omega
   have hi8I:(i:Int)<80:=by omega
   go_wp2_with fail
   refine Calls.mono HC.out ?_
   rintro e w2 ⟨rfl,s',H2⟩
   clear HC HS d0 d1 d2 d3 d4
   go_wp2
   go_roundw
   case rel=>exact ⟨i+1,by first | rfl | go_num,by omega,s',H2.out⟩
   case measure=>simp[intOf] <;> omega
  ·have HC:Hid (_):=HSd.out _ x w1.heap.size i s wr HS.out hi80
   clear HPl HA HSd
   have hex:(¬(i:Int)<(l.length:Int))\/((i:Int)<(l.length:Int)/\¬(i:Int)<80):=by omega
   clear hgo HS
   rcases hex with hx | ⟨hx,hx2⟩
   all_goals
    go_wp2_with fail
    refine Calls.mono HC.out ?_
    rintro e w2 ⟨f,g,s1,rfl,hf,H2⟩
    clear HC
    go_wp2_with fail
    refine Calls.mono (HFr.out _ x _ f g s1 w2 H2.out) ?_
    rintro e w3 ⟨rfl,⟨hg1,hg2⟩,wt,H3⟩
    clear HFr H2
    have HB:Hid (∀ wr,Sp (G wt) (fun k=>k=w1.heap.size) w x n (i+1) f g s1 wr->Calls Tryz.prog 29 #[.pointer (some ⟨x,0,none⟩),.int .i64 (n:Int)] wr fun e w'=>e=.returned (.string ⟨(boardTo s1 wt n).toArray⟩)/\Hid (Sp (G wt) (fun k=>k=w1.heap.size) w x n (i+1) f g s1 w')):=fun wr h=>HBd.out wt _ x _ f g s1 wr h (by omega)
    have HSb2:Hid (∀ wr (b:Nat),Sp (G wt) (fun k=>k=w1.heap.size) w x n (i+1) f g s1 wr->b<8*g.bytes.size->Calls Tryz.prog 30 #[.pointer (some ⟨x,0,none⟩),.int .i64 (f:Int),.int .i64 (b:Int)] wr fun e w'=>e=.returned (.int .i64 9)/\Hid (Sp (G wt) (fun k=>k=w1.heap.size) w x n (i+1) f g s1 w')):=fun wr b h hb=>HSb.out wt _ x _ f g s1 wr b h hb
    have HSa2:Hid (∀ wr,Sp (G wt) (fun k=>k=w1.heap.size) w x n (i+1) f g s1 wr->Calls Tryz.prog 30 #[.pointer (some ⟨x,0,none⟩),.int .i64 (f:Int),.int .i64 (8*(g.bytes.size:Int))] wr fun e w'=>e=.returned (.int .i64 1)/\Hid (Sp (G wt) (fun k=>k=w1.heap.size) w x n (i+1) f g s1 w')):=fun wr h=>HSa.out wt _ x _ f g s1 wr h
    have HDl2:Hid (∀ wr,Sp (G wt) (fun k=>k=w1.heap.size) w x n (i+1) f g s1 wr->Calls Tryz.prog 31 #[.pointer (some ⟨x,0,none⟩),.int .i64 (f:Int)] wr fun e w'=>e=.returned (.tuple #[.int .i64 ((f:Int)+1),.int .i64 0])/\Hid (Below w.heap.size w w')):=fun wr h=>HDl.out wt _ x _ f g s1 wr h (by omega)
    have HI0:Hid (∀ wr,Sp (G wt) (fun k=>k=w1.heap.size) w x n (i+1) f g s1 wr->Below w.heap.size w wr):=fun wr h=>h.k.bel
    clear HBd HSb HSa HDl
    generalize (⟨(boardTo s1 wt n).toArray⟩:ByteArray)=u at *
    generalize hSP:Sp (G wt) (fun k=>k=w1.heap.size) w x n (i+1) f g s1=SP at *
    clear hSP
    generalize g.bytes=bt at *
    have hz:¬(bt.size:Int)=0:=by omega
    go_wp2_with fail
    refine Calls.mono (HB.out w3 H3.out) ?_
    rintro e w4 ⟨rfl,H4⟩
    clear H3
    go_wp2_with fail
    go_loopw [17] (fun v17 wy=>∃ k:Nat,v17=.int .i64 (k:Int)/\k<=40/\Hid (SP wy)) (fun v17 _=>40-(intOf v17).toNat)
    case atStart=>exact ⟨0,rfl,by omega,H4⟩
    case round =>
     clear H4
     obtain ⟨k,rfl,hk40,HI⟩:=hrel
     by_cases hgo:k<lo.length/\k<40
     ·obtain ⟨hk,hk8⟩:=hgo
      obtain ⟨b3,off3,had3,hcap3,hcell3⟩:=HA3.out k hk
      subst had3
      have d3:=hcell3 wr (HI0.out wr HI.out)
      have hpl:=pickN_lt lo[k] (show 1<=8*bt.size by omega)
      have HpOk:Hid (_):=HpO.out k hk bt.size wr hg1 hg2
      have HSk:Hid (_):=HSb2.out wr (pickN lo[k] (8*bt.size)) HI.out hpl
      clear HA3 HpO HSb2 HSa2 HDl2 HB HI0 hcell3 HI
      generalize lo[k]=ok at *
      generalize pickN ok (8*bt.size)=p at *
      have hkI:(k:Int)<(lo.length:Int):=by omega
      have hk8I:(k:Int)<40:=by omega
      go_wp2_with fail
      refine Calls.mono HpOk.out ?_
      rintro e w5 ⟨rfl,h5⟩
      rw[h5]
      clear h5 w5 HpOk
      go_wp2_with fail
      refine Calls.mono HSk.out ?_
      rintro e w5 ⟨rfl,H5⟩
      clear HSk
      go_wp2
      go_roundw
      case rel=>exact ⟨k+1,by first | rfl | go_num,by omega,H5⟩
      case measure=>simp[intOf] <;> omega
     ·have hex3:(¬(k:Int)<(lo.length:Int))\/((k:Int)<(lo.length:Int)/\¬(k:Int)<40):=by omega
      have hff:(f:Int)<(f:Int)+1:=by omega
      clear hgo HA3 HpO HSb2 HI0
      rcases hex3 with hy | ⟨hy,hy2⟩
      all_goals
       go_wp2_with fail
       refine Calls.mono (HB.out _ HI.out) ?_
       rintro e w5 ⟨rfl,H5⟩
       clear HB HI
       go_wp2_with fail
       refine Calls.mono (HSa2.out _ H5.out) ?_
       rintro e w6 ⟨rfl,H6⟩
       clear HSa2 H5
       go_wp2_with fail
       refine Calls.mono (HDl2.out _ H6.out) ?_
       rintro e w7 ⟨rfl,H7⟩
       clear HDl2 H6
       go_wp2
       go_ret
       exact ⟨rfl,H7.out⟩
end Go.Proofs.YtfmmllpjgkgeaaaGreatDoor

