import Derived.Test.YtfmmllpjgkgeaaaGreatDoorPart38
set_option linter.unusedVariables false
set_option linter.unusedSimpArgs false
namespace Go.Proofs.YtfmmllpjgkgeaaaGreatDoor
open Go.RowKit
variable {F:Stt}

structure ProgSee (F:Stt):Prop where
 asks:∀ w x S s i t,Glob w->F w x S s->t.size<=1048576 ->
  Calls Tryz.prog 24 #[.pointer (some ⟨x,0,none⟩),.int .i64 i,.string t] w fun e w'=>∃ u,e=.returned (.tuple #[.string u,.int .i64 (askR s.es s.kn i (toL t)).2])/\toL u=(askR s.es s.kn i (toL t)).1/\∃ S',F w' x S' s/\(∀ k,S' k->S k\/w.heap.size<=k)/\Chg S w w'
 knows:∀ w x S s i,Glob w->F w x S s ->
  Calls Tryz.prog 22 #[.pointer (some ⟨x,0,none⟩),.int .i64 i] w fun e w'=>e=.returned (.tuple #[.int .i64 (knowsR s.kn i).1,.int .i64 (knowsR s.kn i).2])/\∃ S',F w' x S' s/\(∀ k,S' k->S k\/w.heap.size<=k)/\Chg S w w'
structure ProgWait (F:Stt) (G:List Nat->Stt):Prop where
 inn:∀ {w x S s},F w x S s->∃ wt,G wt w x S s
 see:∀ wt,ProgSee (G wt)
 frm:∀ wt,ProgFrame (G wt)
 bnd:∀ {wt w x S s},G wt w x S s->∀ k,wt.getD k 0<=100
 waiting:∀ wt w x S s (i:Nat),G wt w x S s->i<s.kn.length->Calls Tryz.prog 37 #[.pointer (some ⟨x,0,none⟩),.int .i64 (i:Int)] w fun e w'=>e=.returned (.tuple #[.int .i64 ((wt.getD i 0:Nat):Int),.int .i64 0])/\∃ S',G wt w' x S' s/\(∀ k,S' k->S k\/w.heap.size<=k)/\Chg S w w'
 dels:∀ wt w x S s f,Glob w->G wt w x S s->Calls Tryz.prog 31 #[.pointer (some ⟨x,0,none⟩),.int .i64 f] w fun e w'=>e=.returned (.tuple #[.int .i64 (delR s f).1,.int .i64 (delR s f).2])/\∃ S' s',DelTo s f s'/\(s'.kn=s.kn->G wt w' x S' s')/\(∀ k,S' k->S k\/w.heap.size<=k)/\Chg S w w'
section
variable {T:Nat->Prop} {w wx wy:World} {x:Nat} {s s':St}
theorem KAt.asksS (hF:ProgSee F) (h:KAt F T w x s wx) (i:Int) {t:ByteArray} (ht:t.size<=1048576) :
  Calls Tryz.prog 24 #[.pointer (some ⟨x,0,none⟩),.int .i64 i,.string t] wx fun e w'=>∃ u,e=.returned (.tuple #[.string u,.int .i64 (askR s.es s.kn i (toL t)).2])/\toL u=(askR s.es s.kn i (toL t)).1/\KAt F T w x s w'/\Chg (Mk w.heap.size T) wx w':=by
 obtain ⟨S,f1,s1⟩:=h.f
 refine Calls.mono (hF.asks wx x S s i t h.glob f1 ht) ?_
 rintro e w2 ⟨u,rfl,hu,S2,f2,s2,hc2⟩
 exact ⟨u,rfl,hu,h.next s1 f2 s2 hc2⟩
theorem KAt.knowsS (hF:ProgSee F) (h:KAt F T w x s wx) (i:Int) :
  Calls Tryz.prog 22 #[.pointer (some ⟨x,0,none⟩),.int .i64 i] wx fun e w'=>e=.returned (.tuple #[.int .i64 (knowsR s.kn i).1,.int .i64 (knowsR s.kn i).2])/\KAt F T w x s w'/\Chg (Mk w.heap.size T) wx w':=by
 obtain ⟨S,f1,s1⟩:=h.f
 refine Calls.mono (hF.knows wx x S s i h.glob f1) ?_
 rintro e w2 ⟨rfl,S2,f2,s2,hc2⟩
 exact ⟨rfl,h.next s1 f2 s2 hc2⟩
theorem KAt.waiting {G:List Nat->Stt} (hW:ProgWait F G) {wt:List Nat} (h:KAt (G wt) T w x s wx) {i:Nat} (hi:i<s.kn.length) :
  Calls Tryz.prog 37 #[.pointer (some ⟨x,0,none⟩),.int .i64 (i:Int)] wx fun e w'=>e=.returned (.tuple #[.int .i64 ((wt.getD i 0:Nat):Int),.int .i64 0])/\KTo (G wt) T w x s wx w':=by
 obtain ⟨S,f1,s1⟩:=h.f
 refine Calls.mono (hW.waiting wt wx x S s i f1 hi) ?_
 rintro e w2 ⟨rfl,S2,f2,s2,hc2⟩
 exact ⟨rfl,h.next s1 f2 s2 hc2⟩
theorem KAt.delsW {G:List Nat->Stt} (hW:ProgWait F G) {wt:List Nat} (h:KAt (G wt) T w x s wx) (f:Int) (hk:∀ s',DelTo s f s'->s'.kn=s.kn) :
  Calls Tryz.prog 31 #[.pointer (some ⟨x,0,none⟩),.int .i64 f] wx fun e w'=>e=.returned (.tuple #[.int .i64 (delR s f).1,.int .i64 (delR s f).2])/\∃ s',DelTo s f s'/\KAt (G wt) T w x s' w'/\Chg (Mk w.heap.size T) wx w':=by
 obtain ⟨S,f1,s1⟩:=h.f
 refine Calls.mono (hW.dels wt wx x S s f h.glob f1) ?_
 rintro e w2 ⟨rfl,S2,s2',hs,f2,s2,hc2⟩
 exact ⟨rfl,s2',hs,h.next s1 (f2 (hk s2' hs)) s2 hc2⟩
theorem KAt.wt {G:List Nat->Stt} (hW:ProgWait F G) (h:KAt F T w x s wx):∃ wt,KAt (G wt) T w x s wx:=by
 obtain ⟨S,f1,s1⟩:=h.f
 obtain ⟨wt,f2⟩:=hW.inn f1
 exact ⟨wt,⟨S,f2,s1⟩,h.tl,h.bel,h.gw⟩
end

set_option maxHeartbeats 8000000 in
set_option maxRecDepth 100000 in
theorem tells_see (hF:ProgSee F) (hP:ProgFrame F) (T:Nat->Prop) (w w0:World) (x:Nat) (s:St) (h:KAt F T w x s w0) (hE:EvsOk s) (hK:∀ l∈s.kn,l.length<=1000) (i:Int) :
  Calls Tryz.prog 21 #[.pointer (some ⟨x,0,none⟩),.int .i64 i] w0 fun e w'=>∃ u,e=.returned (.string u)/\toL u=tellsL s i/\u.size<=200000/\KTo F T w x s w0 w':=by
 have H0:Hid (KTo F T w x s w0 w0):=⟨h,Chg.refl _ _⟩
 have Hp:Hid (∀ (k:Nat) wx,k<12->Calls Tryz.prog 42 #[.int .i64 (k:Int)] wx fun r w'=>r=.returned (.string (placeB k))/\w'=wx):=fun k wx hk=>by
  have:=kplace_any (k:Int) wx ⟨by omega,by omega⟩
  rw[pickN_small hk] at this
  exact this
 have Ha:Hid (∀ (k:Nat) wx,KTo F T w x s w0 wx->Calls Tryz.prog 24 #[.pointer (some ⟨x,0,none⟩),.int .i64 i,.string (placeB k)] wx fun e w'=>∃ (u:ByteArray) (r:Int),e=.returned (.tuple #[.string u,.int .i64 r])/\u.size<=11000/\0<=r/\r<=4/\Hid (tellOne s i k=toL u ++ ([46] ++ (Thk.digits r ++ [32])))/\Hid (KTo F T w x s w0 w')):=fun k wx hx=>by
  have hps:=(placeB_size k).2
  refine Calls.mono (hx.1.asksS hF i (t:=placeB k) (by omega)) ?_
  rintro e w' ⟨u,rfl,hu,hk⟩
  have hl:=ask_len s hE i (toL (placeB k))
  have he:=ask_err s i (toL (placeB k))
  refine ⟨u,_,rfl, ?_,he.1,he.2, ?_,hx.trans hk⟩
  ·rw[<- hu] at hl;simpa[toL] using hl
  ·unfold Hid tellOne;rw[hu]
 have Hd:Hid (∀ (n:Int) wx,0<=n->n<=1000->KTo F T w x s w0 wx->Calls Tryz.prog 26 #[.int .i64 n] wx fun e w'=>∃ t,e=.returned (.string t)/\Hid (toL t=Thk.digits n)/\t.size<=200/\Hid (KTo F T w x s w0 w')):=fun n wx h1 h2 hx=>by
  refine Calls.mono (kdigits_any n wx (by omega)) ?_
  rintro e w' ⟨t,rfl,ht,hts,hb⟩
  exact ⟨t,rfl,ht,hts,hx.trans (hx.1.below hP hb)⟩
 have Hk:Hid (∀ wx,KTo F T w x s w0 wx->Calls Tryz.prog 22 #[.pointer (some ⟨x,0,none⟩),.int .i64 i] wx fun e w'=>∃ a b:Int,e=.returned (.tuple #[.int .i64 a,.int .i64 b])/\0<=a/\a<=1000/\0<=b/\b<=2/\Hid (tellsL s i=tellsTo s i 12 ++ (Thk.digits a ++ ([46] ++ Thk.digits b)))/\Hid (KTo F T w x s w0 w')):=fun wx hx=>by
  refine Calls.mono (hx.1.knowsS hF i) ?_
  rintro e w' ⟨rfl,hk⟩
  have hb:=know_bd s.kn hK i
  exact ⟨_,_,rfl,hb.1,hb.2.1,hb.2.2.1,hb.2.2.2,rfl,hx.trans hk⟩
 clear hF hP h hE hK
 go_enter Tryz.func21,Tryz.ntmps21
 go_wp2
 go_loopw [5,6] (fun v5 v6 wr=>∃ (k:Nat) (u:ByteArray),v6=.int .i64 (k:Int)/\v5=.string u/\k<=12/\u.size<=12000*k/\Hid (toL u=tellsTo s i k)/\Hid (KTo F T w x s w0 wr)) (fun _ v6 _=>12-(intOf v6).toNat)
 case atStart=>exact ⟨0,⟨#[]⟩,rfl,rfl,by omega,by decide,rfl,H0⟩
 case round =>
  obtain ⟨k,u,rfl,rfl,hk,hus,Hu,HK⟩:=hrel
  by_cases hk2:k<12
  ·go_wp2_with fail
   refine Calls.mono (Hp.out k _ hk2) ?_
   rintro e w1 ⟨rfl,rfl⟩
   go_wp2_with fail
   refine Calls.mono (Ha.out k _ HK.out) ?_
   rintro e w2 ⟨t,r,rfl,hts,hr0,hr1,HT,HK2⟩
   clear HK
   go_wp2_with fail
   refine Calls.mono (Hd.out r _ hr0 (by omega) HK2.out) ?_
   rintro e w3 ⟨d,rfl,Hdd,hds,HK3⟩
   clear HK2
   have Hn:Hid (toL (u ++ t ++ ⟨#[46]⟩ ++ d ++ ⟨#[32]⟩)=tellsTo s i (k+1)):=app4 Hu.out HT.out (by rw[Hdd.out])
   have Hsz:Hid ((u ++ t ++ ⟨#[46]⟩ ++ d ++ ⟨#[32]⟩).size<=12000*(k+1)):=by
    unfold Hid
    simp only[ByteArray.size_append]
    have e1:(⟨#[46]⟩:ByteArray).size=1:=rfl
    have e2:(⟨#[32]⟩:ByteArray).size=1:=rfl
    omega
   clear Hu HT Hdd
   go_wp2
   go_roundw
   case rel=>exact ⟨k+1,_,by first | rfl | go_num,rfl,by omega,Hsz.out,Hn,HK3⟩
   case measure=>simp[intOf] <;> omega
  ·have h12:k=12:=by omega
   subst h12
   go_wp2_with fail
   refine Calls.mono (Hk.out _ HK.out) ?_
   rintro e w1 ⟨a,b,rfl,ha0,ha1,hb0,hb1,HT,HK1⟩
   clear HK
   go_wp2_with fail
   refine Calls.mono (Hd.out a _ ha0 ha1 HK1.out) ?_
   rintro e w2 ⟨d1,rfl,Hd1,hds1,HK2⟩
   clear HK1
   go_wp2_with fail
   refine Calls.mono (Hd.out b _ hb0 (by omega) HK2.out) ?_
   rintro e w3 ⟨d2,rfl,Hd2,hds2,HK3⟩
   clear HK2
   go_wp2
   go_ret
   refine ⟨_,rfl, ?_, ?_,HK3.out⟩
   ·rw[HT.out,<- Hu.out,<- Hd1.out,<- Hd2.out]
    simp only[toL_append,List.append_assoc]
    rfl
   ·simp only[ByteArray.size_append]
    have e1:(⟨#[46]⟩:ByteArray).size=1:=rfl
    omega
end Go.Proofs.YtfmmllpjgkgeaaaGreatDoor

