import Derived.Test.YtfmmllpjgkgeaaaGreatDoorPart36
set_option linter.unusedVariables false
set_option linter.unusedSimpArgs false
set_option maxHeartbeats 16000000
set_option maxRecDepth 100000
namespace Go.Proofs.YtfmmllpjgkgeaaaGreatDoor
open Go.RowKit
variable {F:Stt} {R:Nat->Prop}

theorem Pl.drew (hP:ProgFrame F) {T:Nat->Prop} {w w0 wx:World} {x tb ab fr ev:Nat} {a:ActD} {s:St} (h:Pl F T w w0 x tb ab fr ev a s wx):Pl F T w w0 x tb ab fr ev a s wx.drew:=h.below hP (Below.refl _ _).drew
theorem Pl.c0 {T:Nat->Prop} {w w0 wx:World} {x tb ab fr ev:Nat} {a:ActD} {s:St} (h:Pl F T w w0 x tb ab fr ev a s wx):wx.cell? ⟨tb,0,none⟩=some (.int .i64 (fr:Int)):=h.t.cell 0
theorem Pl.a3 {T:Nat->Prop} {w w0 wx:World} {x tb ab fr ev:Nat} {a:ActD} {s:St} (h:Pl F T w w0 x tb ab fr ev a s wx):wx.cell? ⟨ab,3,none⟩=some (.int .i64 a.k):=h.a.cell 3

theorem play_del0 (hP:ProgFrame F) (T:Nat->Prop) (w w0:World) (x tb n c ev:Nat) (a:ActD) (s:St) (hK:KOk n c s) (ha:a.ok) (h:KAt F T w x s w0) (ht:TalAt w0 tb s.fs.length ev) (hTt:T tb) (hB:w.heap.size<=tb) (hkd:pickN a.kd 8=5\/pickN a.kd 8=6) (h0:s.fs.length=0) :
  Calls Tryz.prog 19 #[.pointer (some ⟨tb,0,none⟩),.pointer (some ⟨x,0,none⟩),.int .i64 (n:Int),a.val] w0 fun e w'=>e=.returned (.bool true)/\PlOut F T w w0 x tb n ev a s w':=by
 obtain ⟨a0,a1,a2,a3,a4⟩:=ha
 have hn2:=hK.n2
 have hn4:=hK.n4
 have hev:evMore a=0:=by unfold evMore;rw[if_neg (by omega)]
 have H1:Hid (Pl F T w w0 x tb w0.heap.size s.fs.length ev a s (w0.alloc (.cells #[.int .i64 a.kd,.int .i64 a.i,.int .i64 a.j,.int .i64 a.k,.int .i64 a.v] 35))):=Pl.start hP h ht hTt hB
 have HpI:Hid (∀ wx,Calls Tryz.prog 18 #[.int .i64 a.i,.int .i64 (n:Int)] wx fun r w'=>r=.returned (.int .i64 (pickN a.i n:Int))/\w'=wx):=fun wx=>kpick_any a.i n wx a1 (by omega) (by omega)
 have HpJ:Hid (∀ wx,Calls Tryz.prog 18 #[.int .i64 a.j,.int .i64 (n:Int)] wx fun r w'=>r=.returned (.int .i64 (pickN a.j n:Int))/\w'=wx):=fun wx=>kpick_any a.j n wx a2 (by omega) (by omega)
 have HpK:Hid (∀ wx,Calls Tryz.prog 18 #[.int .i64 a.kd,.int .i64 8] wx fun r w'=>r=.returned (.int .i64 (pickN a.kd 8:Int))/\w'=wx):=fun wx=>kpick_any a.kd 8 wx a0 (by decide) (by decide)
 have HO:Hid (PlOut F T w w0 x tb n ev a s (w0.alloc (.cells #[.int .i64 a.kd,.int .i64 a.i,.int .i64 a.j,.int .i64 a.k,.int .i64 a.v] 35))):=PlOut.same (by unfold PlayTo;rw[if_neg (by omega),if_neg (by omega),if_pos (by omega),if_pos h0]) hev H1.out
 have c0:(w0.alloc (.cells #[.int .i64 a.kd,.int .i64 a.i,.int .i64 a.j,.int .i64 a.k,.int .i64 a.v] 35)).cell? ⟨tb,0,none⟩=some (.int .i64 0):=by
  have:=H1.out.t.cell 0
  rw[h0] at this;exact this
 clear hP hK a0 a1 a2 a3 a4 h ht hTt hB hev h0 H1
 unfold ActD.val
 generalize pickN a.i n=i at *
 generalize pickN a.j n=j at *
 generalize pickN a.kd 8=kd at *
 obtain rfl | rfl:=hkd
 all_goals
  go_enter Tryz.func19,Tryz.ntmps19
  go_wp2_with fail
  refine Calls.mono (HpI.out _) ?_
  rintro e w1 ⟨rfl,rfl⟩
  go_wp2_with fail
  refine Calls.mono (HpJ.out _) ?_
  rintro e w1 ⟨rfl,rfl⟩
  go_wp2_with fail
  refine Calls.mono (HpK.out _) ?_
  rintro e w1 ⟨rfl,rfl⟩
  go_wp2
  go_ret
  exact ⟨rfl,HO.out⟩

theorem play_del (hF:ProgOK F R) (hP:ProgFrame F) (T:Nat->Prop) (w w0:World) (x tb n c ev:Nat) (a:ActD) (s:St) (hK:KOk n c s) (hc:c<=400) (ha:a.ok) (h:KAt F T w x s w0) (ht:TalAt w0 tb s.fs.length ev) (hTt:T tb) (hB:w.heap.size<=tb) (hkd:pickN a.kd 8=5\/pickN a.kd 8=6) (h0:s.fs.length≠0) :
  Calls Tryz.prog 19 #[.pointer (some ⟨tb,0,none⟩),.pointer (some ⟨x,0,none⟩),.int .i64 (n:Int),a.val] w0 fun e w'=>e=.returned (.bool true)/\PlOut F T w w0 x tb n ev a s w':=by
 obtain ⟨a0,a1,a2,a3,a4⟩:=ha
 have hn2:=hK.n2
 have hn4:=hK.n4
 have hfl:=hK.fl
 have hev:evMore a=0:=by unfold evMore;rw[if_neg (by omega)]
 obtain ⟨W,hW⟩:∃ W,w0.alloc (.cells #[.int .i64 a.kd,.int .i64 a.i,.int .i64 a.j,.int .i64 a.k,.int .i64 a.v] 35)=W:=⟨_,rfl⟩
 have HW:Hid (w0.alloc (.cells #[.int .i64 a.kd,.int .i64 a.i,.int .i64 a.j,.int .i64 a.k,.int .i64 a.v] 35)=W):=hW
 have H1:Hid (Pl F T w w0 x tb w0.heap.size s.fs.length ev a s W):=by rw[<- hW];exact Pl.start hP h ht hTt hB
 clear hW
 have HpI:Hid (∀ wx,Calls Tryz.prog 18 #[.int .i64 a.i,.int .i64 (n:Int)] wx fun r w'=>r=.returned (.int .i64 (pickN a.i n:Int))/\w'=wx):=fun wx=>kpick_any a.i n wx a1 (by omega) (by omega)
 have HpJ:Hid (∀ wx,Calls Tryz.prog 18 #[.int .i64 a.j,.int .i64 (n:Int)] wx fun r w'=>r=.returned (.int .i64 (pickN a.j n:Int))/\w'=wx):=fun wx=>kpick_any a.j n wx a2 (by omega) (by omega)
 have HpK:Hid (∀ wx,Calls Tryz.prog 18 #[.int .i64 a.kd,.int .i64 8] wx fun r w'=>r=.returned (.int .i64 (pickN a.kd 8:Int))/\w'=wx):=fun wx=>kpick_any a.kd 8 wx a0 (by decide) (by decide)
 have HpF:Hid (∀ wx,Calls Tryz.prog 18 #[.int .i64 a.k,.int .i64 (s.fs.length:Int)] wx fun r w'=>r=.returned (.int .i64 (pickN a.k s.fs.length:Int))/\w'=wx/\True):=fun wx=>Calls.mono (kpick_any a.k s.fs.length wx a3 (by omega) (by omega)) (fun _ _ h=>⟨h.1,h.2,trivial⟩)
 have hpk:=pickN_lt a.k (show 1<=s.fs.length by omega)
 have hpto:∀ s',DelTo s (1+(pickN a.k s.fs.length:Int)) s'->PlayTo n s a s':=fun s' hd=>by
  unfold PlayTo;rw[if_neg (by omega),if_neg (by omega),if_pos (by omega),if_neg h0];exact hd
 obtain ⟨g,hg,hf⟩:=frNo_pick (k:=a.k) h0
 have c0:W.cell? ⟨tb,0,none⟩=some (.int .i64 (s.fs.length:Int)):=H1.out.t.cell 0
 have c3:W.cell? ⟨w0.heap.size,3,none⟩=some (.int .i64 a.k):=H1.out.a.cell 3
 have hN:s.fs.length<=400:=by omega
 have hN0:¬(s.fs.length:Int)=0:=by omega
 by_cases hack:g.ack=0
 ·have HD:Hid (∀ wx,Pl F T w w0 x tb w0.heap.size s.fs.length ev a s wx->Calls Tryz.prog 31 #[.pointer (some ⟨x,0,none⟩),.int .i64 (1+(pickN a.k s.fs.length:Int))] wx fun e w'=>e=.returned (.tuple #[.int .i64 ((s.fs.length:Int)+1),.int .i64 0])/\w'.cell? ⟨tb,0,none⟩=some (.int .i64 (s.fs.length:Int))/\w'.cell? ⟨w0.heap.size,3,none⟩=some (.int .i64 a.k)/\Hid (TalAt w' tb s.fs.length ev)/\Hid (PlOut F T w w0 x tb n ev a s (w'.setCell ⟨tb,0,none⟩ (.int .i64 ((s.fs.length:Int)+1))))):=fun wx hx=>by
   refine Calls.mono (hx.k.dels hF _) ?_
   rw[delR_new hf hack (by omega)]
   rintro e w' ⟨rfl,s',hd,hk⟩
   have hl:s'.fs.length=s.fs.length+1:=by
    obtain ⟨_,_,b,h3⟩:=hd.new hf hack (by omega)
    rw[h3];simp
   have hx2:=hx.calls hk
   exact ⟨rfl,hx2.c0,hx2.a3,hx2.t,PlOut.frame hP (hpto s' hd) hl hev hx2⟩
  have HP:Hid (ProgFrame F):=hP
  clear hF hP hK a0 a1 a2 a3 a4 h ht hTt hB hev hc hfl hpto hg hf hack h0
  unfold ActD.val
  generalize pickN a.i n=i at *
  generalize pickN a.j n=j at *
  generalize pickN a.kd 8=kd at *
  generalize pickN a.k s.fs.length=f at *
  generalize s.fs.length=N at *
  have Hwr:Hid (IntKind.i64.wrap (1+(f:Int))=1+(f:Int)):=wrap_in _ (by omega) (by omega)
  obtain rfl | rfl:=hkd
  all_goals
   go_enter Tryz.func19,Tryz.ntmps19
   go_wp2_with fail
   refine Calls.mono (HpI.out _) ?_
   rintro e w1 ⟨rfl,rfl⟩
   go_wp2_with fail
   refine Calls.mono (HpJ.out _) ?_
   rintro e w1 ⟨rfl,rfl⟩
   go_wp2_with fail
   refine Calls.mono (HpK.out _) ?_
   rintro e w1 ⟨rfl,rfl⟩
   clear HpI HpJ HpK
   rw[HW.out]
   go_wp2_with fail
   have hA:=H1.out
   clear H1
   go_region_held3 (fun w'=>w'.cell? ⟨tb,0,none⟩=some (.int .i64 (N:Int))/\w'.cell? ⟨w0.heap.size,3,none⟩=some (.int .i64 a.k)) ((refine ⟨?_, ?_⟩ <;> (first | assumption | (exact Pl.c0 (by assumption)) | (exact Pl.a3 (by assumption))))) (first | (have hpick2:=hpick;go_at_call 31;rw[Hwr.out];refine Calls.mono (HD.out _ ?_) ?_;(exact hA.drew HP.out);rintro e w2 ⟨rfl,c2,c23,HT2,HO⟩) | (go_at_call 18;refine Calls.mono (HpF.out _) ?_;rintro e w1 ⟨rfl,rfl,hpick⟩))
   have f2:w2.frozen? ⟨tb,0,none⟩=false:=HT2.out.frozen 0
   have c4:(w2.setCell ⟨tb,0,none⟩ (.int .i64 ((N:Int)+1))).cell? ⟨tb,0,none⟩=some (.int .i64 ((N:Int)+1)):=(tal_fr HT2.out).cell 0
   have hp1:(0:Int)<(N:Int)+1:=by omega
   have hp2:¬(N:Int)+1=0:=by omega
   clear HD HpF c0 c3 hA
   go_wp2
   go_ret
   exact ⟨rfl,HO.out⟩
 ·have HD:Hid (∀ wx,Pl F T w w0 x tb w0.heap.size s.fs.length ev a s wx->Calls Tryz.prog 31 #[.pointer (some ⟨x,0,none⟩),.int .i64 (1+(pickN a.k s.fs.length:Int))] wx fun e w'=>e=.returned (.tuple #[.int .i64 0,.int .i64 0])/\w'.cell? ⟨tb,0,none⟩=some (.int .i64 (s.fs.length:Int))/\w'.cell? ⟨w0.heap.size,3,none⟩=some (.int .i64 a.k)/\Hid (PlOut F T w w0 x tb n ev a s w')):=fun wx hx=>by
   refine Calls.mono (hx.k.dels hF _) ?_
   rw[delR_ack hf (by omega)]
   rintro e w' ⟨rfl,s',hd,hk⟩
   have hd0:=hd
   have hs:=hd.old hf (by omega)
   subst hs
   have hx2:=hx.calls hk
   exact ⟨rfl,hx2.c0,hx2.a3,PlOut.same (hpto _ hd0) hev hx2⟩
  have HP:Hid (ProgFrame F):=hP
  clear hF hP hK a0 a1 a2 a3 a4 h ht hTt hB hev hc hfl hpto hg hf hack h0
  unfold ActD.val
  generalize pickN a.i n=i at *
  generalize pickN a.j n=j at *
  generalize pickN a.kd 8=kd at *
  generalize pickN a.k s.fs.length=f at *
  generalize s.fs.length=N at *
  have Hwr:Hid (IntKind.i64.wrap (1+(f:Int))=1+(f:Int)):=wrap_in _ (by omega) (by omega)
  obtain rfl | rfl:=hkd
  all_goals
   go_enter Tryz.func19,Tryz.ntmps19
   go_wp2_with fail
   refine Calls.mono (HpI.out _) ?_
   rintro e w1 ⟨rfl,rfl⟩
   go_wp2_with fail
   refine Calls.mono (HpJ.out _) ?_
   rintro e w1 ⟨rfl,rfl⟩
   go_wp2_with fail
   refine Calls.mono (HpK.out _) ?_
   rintro e w1 ⟨rfl,rfl⟩
   clear HpI HpJ HpK
   rw[HW.out]
   go_wp2_with fail
   have hA:=H1.out
   clear H1
   go_region_held3 (fun w'=>w'.cell? ⟨tb,0,none⟩=some (.int .i64 (N:Int))/\w'.cell? ⟨w0.heap.size,3,none⟩=some (.int .i64 a.k)) ((refine ⟨?_, ?_⟩ <;> (first | assumption | (exact Pl.c0 (by assumption)) | (exact Pl.a3 (by assumption))))) (first | (have hpick2:=hpick;go_at_call 31;rw[Hwr.out];refine Calls.mono (HD.out _ ?_) ?_;(exact hA.drew HP.out);rintro e w2 ⟨rfl,c2,c23,HO⟩) | (go_at_call 18;refine Calls.mono (HpF.out _) ?_;rintro e w1 ⟨rfl,rfl,hpick⟩))
   clear HD HpF c0 c3 hA
   go_wp2
   go_ret
   exact ⟨rfl,HO.out⟩

theorem play_any (hF:ProgOK F R) (hP:ProgFrame F) (hT:ProgTick F) (T:Nat->Prop) (w w0:World) (x tb n c ev:Nat) (a:ActD) (s:St) (hK:KOk n c s) (hc:c<=400) (hev:ev<=1000) (ha:a.ok) (h:KAt F T w x s w0) (ht:TalAt w0 tb s.fs.length ev) (hTt:T tb) (hB:w.heap.size<=tb) :
  Calls Tryz.prog 19 #[.pointer (some ⟨tb,0,none⟩),.pointer (some ⟨x,0,none⟩),.int .i64 (n:Int),a.val] w0 fun e w'=>e=.returned (.bool true)/\PlOut F T w w0 x tb n ev a s w':=by
 have hk:=pickN_lt a.kd (show 1<=8 by omega)
 by_cases h1:pickN a.kd 8<3
 ·exact play_do hF hP T w w0 x tb n c ev a s hK hc hev ha h ht hTt hB h1
 ·by_cases h2:pickN a.kd 8<5
  ·exact play_send hF hP T w w0 x tb n c ev a s hK hc ha h ht hTt hB (by omega)
  ·by_cases h3:pickN a.kd 8<7
   ·by_cases h4:s.fs.length=0
    ·exact play_del0 hP T w w0 x tb n c ev a s hK ha h ht hTt hB (by omega) h4
    ·exact play_del hF hP T w w0 x tb n c ev a s hK hc ha h ht hTt hB (by omega) h4
   ·exact play_tick hP hT T w w0 x tb n c ev a s hK ha h ht hTt hB (by omega)
end Go.Proofs.YtfmmllpjgkgeaaaGreatDoor

