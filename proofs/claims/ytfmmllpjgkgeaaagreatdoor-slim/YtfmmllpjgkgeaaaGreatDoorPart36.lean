import Derived.Test.YtfmmllpjgkgeaaaGreatDoorPart35
set_option linter.unusedVariables false
set_option linter.unusedSimpArgs false
set_option maxHeartbeats 16000000
set_option maxRecDepth 100000
namespace Go.Proofs.YtfmmllpjgkgeaaaGreatDoor
open Go.RowKit
variable {F:Stt} {R:Nat->Prop}

def PlOut (F:Stt) (T:Nat->Prop) (w w0:World) (x tb n ev:Nat) (a:ActD) (s:St) (w':World):Prop :=
 ∃ s',PlayTo n s a s'/\KAt F T w x s' w'/\TalAt w' tb s'.fs.length (ev+evMore a)/\Chg (fun k=>Mk w.heap.size T k\/k=tb) w0 w'

theorem tal_ev {w:World} {tb fr ev:Nat} (h:TalAt w tb fr ev):TalAt (w.setCell ⟨tb,1,none⟩ (.int .i64 ((ev:Int)+1))) tb fr (ev+1):=Blk.set h 1 _
theorem tal_fr {w:World} {tb fr ev:Nat} (h:TalAt w tb fr ev):TalAt (w.setCell ⟨tb,0,none⟩ (.int .i64 ((fr:Int)+1))) tb (fr+1) ev:=Blk.set h 0 _

theorem play_do (hF:ProgOK F R) (hP:ProgFrame F) (T:Nat->Prop) (w w0:World) (x tb n c ev:Nat) (a:ActD) (s:St) (hK:KOk n c s) (hc:c<=400) (hev:ev<=1000) (ha:a.ok) (h:KAt F T w x s w0) (ht:TalAt w0 tb s.fs.length ev) (hT:T tb) (hB:w.heap.size<=tb) (hkd:pickN a.kd 8<3) :
  Calls Tryz.prog 19 #[.pointer (some ⟨tb,0,none⟩),.pointer (some ⟨x,0,none⟩),.int .i64 (n:Int),a.val] w0 fun e w'=>e=.returned (.bool true)/\PlOut F T w w0 x tb n ev a s w':=by
 obtain ⟨a0,a1,a2,a3,a4⟩:=ha
 have hn2:=hK.n2
 have hn4:=hK.n4
 obtain ⟨e0,he0⟩:=evFor hK hc (pickN a.i n) (pickN_lt a.k (show 1<=12 by omega)) (pickN_lt a.v (show 1<=40 by omega))
 have hi:=pickN_lt a.i (show 1<=n by omega)
 have H1:Hid (Pl F T w w0 x tb w0.heap.size s.fs.length ev a s (w0.alloc (.cells #[.int .i64 a.kd,.int .i64 a.i,.int .i64 a.j,.int .i64 a.k,.int .i64 a.v] 35))):=Pl.start hP h ht hT hB
 have HpI:Hid (∀ wx,Calls Tryz.prog 18 #[.int .i64 a.i,.int .i64 (n:Int)] wx fun r w'=>r=.returned (.int .i64 (pickN a.i n:Int))/\w'=wx):=fun wx=>kpick_any a.i n wx a1 (by omega) (by omega)
 have HpJ:Hid (∀ wx,Calls Tryz.prog 18 #[.int .i64 a.j,.int .i64 (n:Int)] wx fun r w'=>r=.returned (.int .i64 (pickN a.j n:Int))/\w'=wx):=fun wx=>kpick_any a.j n wx a2 (by omega) (by omega)
 have HpK:Hid (∀ wx,Calls Tryz.prog 18 #[.int .i64 a.kd,.int .i64 8] wx fun r w'=>r=.returned (.int .i64 (pickN a.kd 8:Int))/\w'=wx):=fun wx=>kpick_any a.kd 8 wx a0 (by decide) (by decide)
 have HC:Hid (∀ wx,Pl F T w w0 x tb w0.heap.size s.fs.length ev a s wx->Calls Tryz.prog 33 #[.int .i64 a.k,.int .i64 a.v] wx fun e w'=>∃ t:ByteArray,e=.returned (.string t)/\t.size<=300/\Hid (toL t=changeL (pickN a.k 12) (pickN a.v 40))/\Hid (Pl F T w w0 x tb w0.heap.size s.fs.length ev a s w')):=fun wx hx=>by
  refine Calls.mono (kchange_any a.k a.v wx a3 a4) ?_
  rintro e w' ⟨t,rfl,h1,h2,hb⟩
  exact ⟨t,rfl,h2,h1,hx.below hP hb⟩
 have HD:Hid (∀ wx t,Pl F T w w0 x tb w0.heap.size s.fs.length ev a s wx->t.size<=300->toL t=changeL (pickN a.k 12) (pickN a.v 40)->Calls Tryz.prog 23 #[.pointer (some ⟨x,0,none⟩),.int .i64 (pickN a.i n:Int),.string t] wx fun e w'=>e=.returned (.int .i64 0)/\Hid (Pl F T w w0 x tb w0.heap.size s.fs.length ev a ⟨s.es ++ [e0],s.kn.set (pickN a.i n) (moreOf (s.kn.getD (pickN a.i n) []) s.es.length),s.fs⟩ w')):=fun wx t hx h1 h2=>by
  refine Calls.mono (hx.k.does hF (by omega) (he0.out hK hc hi h2)) ?_
  rintro e w' ⟨rfl,hk⟩
  exact ⟨rfl,hx.calls hk⟩
 have HO:Hid (∀ wx,Pl F T w w0 x tb w0.heap.size s.fs.length ev a ⟨s.es ++ [e0],s.kn.set (pickN a.i n) (moreOf (s.kn.getD (pickN a.i n) []) s.es.length),s.fs⟩ wx->PlOut F T w w0 x tb n ev a s (wx.setCell ⟨tb,1,none⟩ (.int .i64 ((ev:Int)+1)))):=fun wx hx=>by
  refine ⟨_, ?_,(hx.k.store hP (p:=⟨tb,1,none⟩) (Or.inl hT) hB _).less (fun k hk=>Or.inl hk), ?_,Chg.setCell (M:=fun k=>Mk w.heap.size T k\/k=tb) hx.c (Or.inr rfl) _⟩
  ·unfold PlayTo;rw[if_pos hkd];exact ⟨e0,he0,rfl⟩
  ·unfold evMore;rw[if_pos hkd];exact tal_ev hx.t
 clear hF hP hK hc a0 a1 a2 a3 a4 h ht hT hB he0 hi
 unfold ActD.val
 generalize pickN a.i n=i at *
 generalize pickN a.j n=j at *
 generalize pickN a.kd 8=kd at *
 have b1:(w0.alloc (.cells #[.int .i64 a.kd,.int .i64 a.i,.int .i64 a.j,.int .i64 a.k,.int .i64 a.v] 35)).cell? ⟨w0.heap.size,1,none⟩=some (.int .i64 a.i):=by simp
 obtain rfl | rfl | rfl:kd=0\/kd=1\/kd=2:=by omega
 all_goals
  go_enter Tryz.func19,Tryz.ntmps19
  go_wp2_with fail
  refine Calls.mono (HpI.out _) ?_
  rintro e w1 ⟨rfl,rfl⟩
  go_wp2_with fail
  refine Calls.mono (HpJ.out _) ?_
  rintro e w1 ⟨rfl,rfl⟩
  go_wp2_with fail
  refine Calls.mono (HpK.out _) ?_
  rintro e w1 ⟨rfl,rfl⟩
  go_wp2_with fail
  refine Calls.mono (HC.out _ H1.out) ?_
  rintro e w2 ⟨t,rfl,ht,Ht,H2⟩
  clear H1
  go_wp2_with fail
  refine Calls.mono (HD.out _ t H2.out ht Ht.out) ?_
  rintro e w3 ⟨rfl,H3⟩
  have c1:w3.cell? ⟨tb,1,none⟩=some (.int .i64 (ev:Int)):=H3.out.t.cell 1
  have f1:w3.frozen? ⟨tb,1,none⟩=false:=H3.out.t.frozen 1
  clear H2 Ht ht HC HD
  go_wp2
  go_ret
  exact ⟨rfl,HO.out _ H3.out⟩
end Go.Proofs.YtfmmllpjgkgeaaaGreatDoor
namespace Go.Proofs.YtfmmllpjgkgeaaaGreatDoor
open Go.RowKit
variable {F:Stt} {R:Nat->Prop}

section
variable {T:Nat->Prop} {w wx wy:World} {x:Nat} {s s':St}
theorem KAt.crash (hK:ProgTick F) (h:KAt F T w x s wx) {i:Nat} (hi:i<s.kn.length) :
  Calls Tryz.prog 41 #[.pointer (some ⟨x,0,none⟩),.int .i64 (i:Int)] wx fun e w'=>e=.returned (.int .i64 0)/\KTo F T w x s wx w':=by
 obtain ⟨S,f1,s1⟩:=h.f
 refine Calls.mono (hK.crash wx x S s (i:Int) h.glob f1) ?_
 rw[if_pos ⟨by omega,by omega⟩]
 rintro e w2 ⟨rfl,S2,f2,s2,hc2⟩
 exact ⟨rfl,h.next s1 f2 s2 hc2⟩
theorem KAt.tick (hK:ProgTick F) (h:KAt F T w x s wx) {i:Nat} (hi:i<s.kn.length) :
  Calls Tryz.prog 36 #[.pointer (some ⟨x,0,none⟩),.int .i64 (i:Int)] wx fun e w'=>e=.returned (.int .i64 0)/\KTo F T w x s wx w':=by
 obtain ⟨S,f1,s1⟩:=h.f
 refine Calls.mono (hK.tick wx x S s (i:Int) h.glob f1) ?_
 rw[if_pos ⟨by omega,by omega⟩]
 rintro e w2 ⟨rfl,S2,f2,s2,hc2⟩
 exact ⟨rfl,h.next s1 f2 s2 hc2⟩
end

theorem PlOut.same {T:Nat->Prop} {w w0 wx:World} {x tb ab n ev:Nat} {a:ActD} {s:St} (hp:PlayTo n s a s) (he:evMore a=0) (h:Pl F T w w0 x tb ab s.fs.length ev a s wx):PlOut F T w w0 x tb n ev a s wx :=
 ⟨s,hp,h.k.less (fun k hk=>Or.inl hk),by rw[he];exact h.t,h.c⟩
theorem PlOut.frame (hP:ProgFrame F) {T:Nat->Prop} {w w0 wx:World} {x tb ab n ev:Nat} {a:ActD} {s s':St} (hp:PlayTo n s a s') (hl:s'.fs.length=s.fs.length+1) (he:evMore a=0) (h:Pl F T w w0 x tb ab s.fs.length ev a s' wx):PlOut F T w w0 x tb n ev a s (wx.setCell ⟨tb,0,none⟩ (.int .i64 ((s.fs.length:Int)+1))):=by
 refine ⟨s',hp,(h.k.store hP (p:=⟨tb,0,none⟩) (Or.inl h.ht) h.tB _).less (fun k hk=>Or.inl hk), ?_,Chg.setCell (M:=fun k=>Mk w.heap.size T k\/k=tb) h.c (Or.inr rfl) _⟩
 rw[he,hl]
 exact tal_fr h.t

theorem play_tick (hP:ProgFrame F) (hT:ProgTick F) (T:Nat->Prop) (w w0:World) (x tb n c ev:Nat) (a:ActD) (s:St) (hK:KOk n c s) (ha:a.ok) (h:KAt F T w x s w0) (ht:TalAt w0 tb s.fs.length ev) (hTt:T tb) (hB:w.heap.size<=tb) (hkd:pickN a.kd 8=7) :
  Calls Tryz.prog 19 #[.pointer (some ⟨tb,0,none⟩),.pointer (some ⟨x,0,none⟩),.int .i64 (n:Int),a.val] w0 fun e w'=>e=.returned (.bool true)/\PlOut F T w w0 x tb n ev a s w':=by
 obtain ⟨a0,a1,a2,a3,a4⟩:=ha
 have hn2:=hK.n2
 have hn4:=hK.n4
 have hi:=pickN_lt a.i (show 1<=n by omega)
 have hv:=pickN_lt a.v (show 1<=2 by omega)
 have H1:Hid (Pl F T w w0 x tb w0.heap.size s.fs.length ev a s (w0.alloc (.cells #[.int .i64 a.kd,.int .i64 a.i,.int .i64 a.j,.int .i64 a.k,.int .i64 a.v] 35))):=Pl.start hP h ht hTt hB
 have HpI:Hid (∀ wx,Calls Tryz.prog 18 #[.int .i64 a.i,.int .i64 (n:Int)] wx fun r w'=>r=.returned (.int .i64 (pickN a.i n:Int))/\w'=wx):=fun wx=>kpick_any a.i n wx a1 (by omega) (by omega)
 have HpJ:Hid (∀ wx,Calls Tryz.prog 18 #[.int .i64 a.j,.int .i64 (n:Int)] wx fun r w'=>r=.returned (.int .i64 (pickN a.j n:Int))/\w'=wx):=fun wx=>kpick_any a.j n wx a2 (by omega) (by omega)
 have HpK:Hid (∀ wx,Calls Tryz.prog 18 #[.int .i64 a.kd,.int .i64 8] wx fun r w'=>r=.returned (.int .i64 7)/\w'=wx):=fun wx=>by
  have:=kpick_any a.kd 8 wx a0 (by decide) (by decide)
  rw[hkd] at this
  exact this
 have HpV:Hid (∀ wx,Calls Tryz.prog 18 #[.int .i64 a.v,.int .i64 2] wx fun r w'=>r=.returned (.int .i64 (pickN a.v 2:Int))/\w'=wx):=fun wx=>kpick_any a.v 2 wx a4 (by decide) (by decide)
 have HC:Hid (∀ wx,Pl F T w w0 x tb w0.heap.size s.fs.length ev a s wx->Calls Tryz.prog 41 #[.pointer (some ⟨x,0,none⟩),.int .i64 (pickN a.i n:Int)] wx fun e w'=>e=.returned (.int .i64 0)/\Hid (Pl F T w w0 x tb w0.heap.size s.fs.length ev a s w')):=fun wx hx=>by
  refine Calls.mono (hx.k.crash hT (by rw[hK.len];exact hi)) ?_
  rintro e w' ⟨rfl,hk⟩
  exact ⟨rfl,hx.calls hk⟩
 have HT:Hid (∀ wx,Pl F T w w0 x tb w0.heap.size s.fs.length ev a s wx->Calls Tryz.prog 36 #[.pointer (some ⟨x,0,none⟩),.int .i64 (pickN a.i n:Int)] wx fun e w'=>e=.returned (.int .i64 0)/\Hid (Pl F T w w0 x tb w0.heap.size s.fs.length ev a s w')):=fun wx hx=>by
  refine Calls.mono (hx.k.tick hT (by rw[hK.len];exact hi)) ?_
  rintro e w' ⟨rfl,hk⟩
  exact ⟨rfl,hx.calls hk⟩
 have HO:Hid (∀ wx,Pl F T w w0 x tb w0.heap.size s.fs.length ev a s wx->PlOut F T w w0 x tb n ev a s wx):=fun wx hx=>PlOut.same (by unfold PlayTo;rw[hkd];rfl) (by unfold evMore;rw[hkd];rfl) hx
 clear hP hT hK a0 a1 a2 a3 a4 h ht hTt hB hi hkd
 unfold ActD.val
 generalize pickN a.i n=i at *
 generalize pickN a.j n=j at *
 generalize pickN a.v 2=v at *
 obtain rfl | rfl:v=0\/v=1:=by omega
 ·go_enter Tryz.func19,Tryz.ntmps19
  go_wp2_with fail
  refine Calls.mono (HpI.out _) ?_
  rintro e w1 ⟨rfl,rfl⟩
  go_wp2_with fail
  refine Calls.mono (HpJ.out _) ?_
  rintro e w1 ⟨rfl,rfl⟩
  go_wp2_with fail
  refine Calls.mono (HpK.out _) ?_
  rintro e w1 ⟨rfl,rfl⟩
  go_wp2_with fail
  refine Calls.mono (HpV.out _) ?_
  rintro e w1 ⟨rfl,rfl⟩
  go_wp2_with fail
  refine Calls.mono (HC.out _ H1.out) ?_
  rintro e w2 ⟨rfl,H2⟩
  clear H1
  go_wp2
  go_ret
  exact ⟨rfl,HO.out _ H2.out⟩
 ·go_enter Tryz.func19,Tryz.ntmps19
  go_wp2_with fail
  refine Calls.mono (HpI.out _) ?_
  rintro e w1 ⟨rfl,rfl⟩
  go_wp2_with fail
  refine Calls.mono (HpJ.out _) ?_
  rintro e w1 ⟨rfl,rfl⟩
  go_wp2_with fail
  refine Calls.mono (HpK.out _) ?_
  rintro e w1 ⟨rfl,rfl⟩
  go_wp2_with fail
  refine Calls.mono (HpV.out _) ?_
  rintro e w1 ⟨rfl,rfl⟩
  go_wp2_with fail
  refine Calls.mono (HT.out _ H1.out) ?_
  rintro e w2 ⟨rfl,H2⟩
  clear H1
  go_wp2
  go_ret
  exact ⟨rfl,HO.out _ H2.out⟩

theorem play_send (hF:ProgOK F R) (hP:ProgFrame F) (T:Nat->Prop) (w w0:World) (x tb n c ev:Nat) (a:ActD) (s:St) (hK:KOk n c s) (hc:c<=400) (ha:a.ok) (h:KAt F T w x s w0) (ht:TalAt w0 tb s.fs.length ev) (hTt:T tb) (hB:w.heap.size<=tb) (hkd:pickN a.kd 8=3\/pickN a.kd 8=4) :
  Calls Tryz.prog 19 #[.pointer (some ⟨tb,0,none⟩),.pointer (some ⟨x,0,none⟩),.int .i64 (n:Int),a.val] w0 fun e w'=>e=.returned (.bool true)/\PlOut F T w w0 x tb n ev a s w':=by
 obtain ⟨a0,a1,a2,a3,a4⟩:=ha
 have hn2:=hK.n2
 have hn4:=hK.n4
 have hfl:=hK.fl
 have hln:=hK.len
 have hi:=pickN_lt a.i (show 1<=n by omega)
 have hj:=pickN_lt a.j (show 1<=n by omega)
 have hev:evMore a=0:=by unfold evMore;rw[if_neg (by omega)]
 have H1:Hid (Pl F T w w0 x tb w0.heap.size s.fs.length ev a s (w0.alloc (.cells #[.int .i64 a.kd,.int .i64 a.i,.int .i64 a.j,.int .i64 a.k,.int .i64 a.v] 35))):=Pl.start hP h ht hTt hB
 have HpI:Hid (∀ wx,Calls Tryz.prog 18 #[.int .i64 a.i,.int .i64 (n:Int)] wx fun r w'=>r=.returned (.int .i64 (pickN a.i n:Int))/\w'=wx):=fun wx=>kpick_any a.i n wx a1 (by omega) (by omega)
 have HpJ:Hid (∀ wx,Calls Tryz.prog 18 #[.int .i64 a.j,.int .i64 (n:Int)] wx fun r w'=>r=.returned (.int .i64 (pickN a.j n:Int))/\w'=wx):=fun wx=>kpick_any a.j n wx a2 (by omega) (by omega)
 have HpK:Hid (∀ wx,Calls Tryz.prog 18 #[.int .i64 a.kd,.int .i64 8] wx fun r w'=>r=.returned (.int .i64 (pickN a.kd 8:Int))/\w'=wx):=fun wx=>kpick_any a.kd 8 wx a0 (by decide) (by decide)
 by_cases hij:pickN a.i n=pickN a.j n
 ·have HS:Hid (∀ wx,Pl F T w w0 x tb w0.heap.size s.fs.length ev a s wx->Calls Tryz.prog 27 #[.pointer (some ⟨x,0,none⟩),.int .i64 (pickN a.i n:Int),.int .i64 (pickN a.j n:Int)] wx fun e w'=>e=.returned (.tuple #[.int .i64 0,.int .i64 1])/\Hid (Pl F T w w0 x tb w0.heap.size s.fs.length ev a s w')):=fun wx hx=>by
   have hR:sendR s (pickN a.i n:Int) (pickN a.j n:Int)=(0,1):=by
    unfold sendR
    rw[if_pos ⟨⟨by omega,by omega⟩,by omega,by omega⟩,if_pos (by omega)]
   refine Calls.mono (hx.k.sends hF (pickN a.i n:Int) (pickN a.j n:Int)) ?_
   rw[hR]
   rintro e w' ⟨rfl,s',⟨t1,t2,t3⟩,hk⟩
   rw[hR,if_neg (by decide)] at t3
   obtain ⟨b1,b2,b3⟩:=s'
   simp only at t1 t2 t3
   subst t1 t2 t3
   exact ⟨rfl,hx.calls hk⟩
  have HO:Hid (∀ wx,Pl F T w w0 x tb w0.heap.size s.fs.length ev a s wx->PlOut F T w w0 x tb n ev a s wx):=fun wx hx=>PlOut.same (by unfold PlayTo;rw[if_neg (by omega),if_pos (by omega),if_pos hij]) hev hx
  clear hF hP hK a0 a1 a2 a3 a4 h ht hTt hB hi hj hev hc hfl hln
  unfold ActD.val
  generalize pickN a.i n=i at *
  generalize pickN a.j n=j at *
  generalize pickN a.kd 8=kd at *
  subst hij
  obtain rfl | rfl:=hkd
  all_goals
   go_enter Tryz.func19,Tryz.ntmps19
   go_wp2_with fail
   refine Calls.mono (HpI.out _) ?_
   rintro e w1 ⟨rfl,rfl⟩
   go_wp2_with fail
   refine Calls.mono (HpJ.out _) ?_
   rintro e w1 ⟨rfl,rfl⟩
   go_wp2_with fail
   refine Calls.mono (HpK.out _) ?_
   rintro e w1 ⟨rfl,rfl⟩
   go_wp2_with fail
   refine Calls.mono (HS.out _ H1.out) ?_
   rintro e w2 ⟨rfl,H2⟩
   clear H1
   go_wp2
   go_ret
   exact ⟨rfl,HO.out _ H2.out⟩
 ·have HS:Hid (∀ wx,Pl F T w w0 x tb w0.heap.size s.fs.length ev a s wx->Calls Tryz.prog 27 #[.pointer (some ⟨x,0,none⟩),.int .i64 (pickN a.i n:Int),.int .i64 (pickN a.j n:Int)] wx fun e w'=>e=.returned (.tuple #[.int .i64 ((s.fs.length:Int)+1),.int .i64 0])/\Hid (TalAt w' tb s.fs.length ev)/\Hid (PlOut F T w w0 x tb n ev a s (w'.setCell ⟨tb,0,none⟩ (.int .i64 ((s.fs.length:Int)+1))))):=fun wx hx=>by
   have hR:=sendR_ok (s:=s) (i:=pickN a.i n) (j:=pickN a.j n) (by omega) (by omega) hij (by omega)
   refine Calls.mono (hx.k.sends hF (pickN a.i n:Int) (pickN a.j n:Int)) ?_
   rw[hR]
   rintro e w' ⟨rfl,s',hs,hk⟩
   have hl:s'.fs.length=s.fs.length+1:=by
    obtain ⟨t1,t2,t3⟩:=hs
    rw[hR,if_pos rfl] at t3
    obtain ⟨b,t3⟩:=t3
    rw[t3];simp
   have hx2:=hx.calls hk
   exact ⟨rfl,hx2.t,PlOut.frame hP (by unfold PlayTo;rw[if_neg (by omega),if_pos (by omega),if_neg hij];exact hs) hl hev hx2⟩
  have hN:s.fs.length<=400:=by omega
  clear hF hP hK a0 a1 a2 a3 a4 h ht hTt hB hi hj hev hc hln hfl
  unfold ActD.val
  generalize pickN a.i n=i at *
  generalize pickN a.j n=j at *
  generalize pickN a.kd 8=kd at *
  have hij':¬(i:Int)=(j:Int):=by omega
  generalize s.fs.length=N at *
  obtain rfl | rfl:=hkd
  all_goals
   go_enter Tryz.func19,Tryz.ntmps19
   go_wp2_with fail
   refine Calls.mono (HpI.out _) ?_
   rintro e w1 ⟨rfl,rfl⟩
   go_wp2_with fail
   refine Calls.mono (HpJ.out _) ?_
   rintro e w1 ⟨rfl,rfl⟩
   go_wp2_with fail
   refine Calls.mono (HpK.out _) ?_
   rintro e w1 ⟨rfl,rfl⟩
   go_wp2_with fail
   refine Calls.mono (HS.out _ H1.out) ?_
   rintro e w2 ⟨rfl,HT2,HO⟩
   have c0:w2.cell? ⟨tb,0,none⟩=some (.int .i64 (N:Int)):=HT2.out.cell 0
   have f0:w2.frozen? ⟨tb,0,none⟩=false:=HT2.out.frozen 0
   have c1:(w2.setCell ⟨tb,0,none⟩ (.int .i64 ((N:Int)+1))).cell? ⟨tb,0,none⟩=some (.int .i64 ((N:Int)+1)):=(tal_fr HT2.out).cell 0
   clear H1 HS
   go_wp2
   go_ret
   exact ⟨rfl,HO.out⟩
end Go.Proofs.YtfmmllpjgkgeaaaGreatDoor

