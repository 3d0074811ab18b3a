import Derived.Test.YtfmmllpjgkgeaaaGreatDoorPart29
set_option linter.unusedVariables false
set_option linter.unusedSimpArgs false
namespace Go.Proofs.YtfmmllpjgkgeaaaGreatDoor
open Go.RowKit Go.Maps Go.WideMaps Go.MuLone Go.Deep

set_option maxHeartbeats 4000000 in
set_option maxRecDepth 100000 in
theorem CDel_bad (w:World) (x q cap:Nat) (fv:Value) (ds:List RepD) (bs:List (Nat × ByteArray)) (hC:CluP w x q cap fv 0 ds bs) (f:Int) (hf:¬(1<=f/\f<=bs.length)) :
  Calls Tryz.prog 31 #[.pointer (some ⟨x,0,none⟩),.int .i64 f] w fun e w'=>e=.returned (.tuple #[.int .i64 0,.int .i64 9])/\CluP w' x q cap fv 0 ds bs/\Chg (fun k=>k=x) w w':=by
 have k0:w.cell? ⟨x,0,none⟩=some (.int .i32 0):=(hC.blk.cell 0).trans rfl
 have z0:w.frozen? ⟨x,0,none⟩=false:=hC.blk.frozen 0
 have HC1:Hid (CluP (w.setCell ⟨x,0,none⟩ (.int .i32 1)) x q cap fv 1 ds bs):=hC.turn 1
 have Hch:Hid (Chg (fun k=>k=x) w (w.setCell ⟨x,0,none⟩ (.int .i32 1))):=chg_turn (M:=fun k=>k=x) rfl _
 clear hC
 generalize hW1:w.setCell ⟨x,0,none⟩ (.int .i32 1)=W1 at *
 have HW1:Hid (w.setCell ⟨x,0,none⟩ (.int .i32 1)=W1):=hW1
 clear hW1
 have HS:Hid (∀ wx,CluP wx x q cap fv 1 ds bs->Calls Tryz.prog 55 #[.pointer (some ⟨x,0,none⟩),.int .i64 f] wx fun e w'=>e=.returned (.bool false)/\w'=wx):=fun wx hx=>by
  have:=isSent_any wx x q cap fv 1 ds bs hx f
  rw[decide_eq_false hf] at this;exact this
 clear hf
 go_enter_defers Tryz.func31,Tryz.ntmps31
 go_wp2_with (go_at_call 43;refine (lock_free YtfmmllpjgkgeaaaGreatDoor.muLib ⟨x,0,none⟩ _ k0 z0).mono ?_;rintro e w' ⟨rfl,rfl⟩)
 rw[HW1.out]
 refine Calls.mono (HS.out _ HC1.out) ?_
 rintro e w2 ⟨rfl,rfl⟩
 clear HS
 go_wp2_with fail
 refine leaves_cons (f:=44) (args:=#[.pointer (some ⟨x,0,none⟩)]) (by simp) (by simp[go_sem]) ?_
 refine (unlock_deferred YtfmmllpjgkgeaaaGreatDoor.muLib ⟨x,0,none⟩ .returning _ ((HC1.out.blk.cell 0).trans rfl) (HC1.out.blk.frozen 0)).mono ?_
 rintro e u' w9 ⟨rfl,rfl,rfl⟩
 exact ⟨_,results_tmp2 rfl _ _ _,rfl,HC1.out.turn 0,Chg.setCell (M:=fun k=>k=x) (p:=⟨x,0,none⟩) Hch.out rfl _⟩

set_option maxHeartbeats 8000000 in
set_option maxRecDepth 100000 in
theorem CDel_of (w:World) (x q cap:Nat) (fv:Value) (ds:List RepD) (bs:List (Nat × ByteArray)) (hC:CluP w x q cap fv 0 ds bs) (k:Nat) (hk:k<bs.length) (M:Nat->Prop) (hM:M x) (Q:Int->Int->World->Prop)
  (hcome:∀ wx,CluP wx x q cap fv 1 ds bs->Chg (fun k=>k=x) w wx->Calls Tryz.prog 57 #[.pointer (some ⟨x,0,none⟩),.int .i64 (bs[k].1:Int),.string bs[k].2] wx fun e w'=>∃ n r fv' ds' bs',e=.returned (.tuple #[.int .i64 n,.int .i64 r])/\CluP w' x q cap fv' 1 ds' bs'/\(CluP (w'.setCell ⟨x,0,none⟩ (.int .i32 0)) x q cap fv' 0 ds' bs'->Chg M w (w'.setCell ⟨x,0,none⟩ (.int .i32 0))->Q n r (w'.setCell ⟨x,0,none⟩ (.int .i32 0)))/\Chg M w w') :
  Calls Tryz.prog 31 #[.pointer (some ⟨x,0,none⟩),.int .i64 ((k:Int)+1)] w fun e w'=>∃ n r,e=.returned (.tuple #[.int .i64 n,.int .i64 r])/\Q n r w':=by
 have k0:w.cell? ⟨x,0,none⟩=some (.int .i32 0):=(hC.blk.cell 0).trans rfl
 have z0:w.frozen? ⟨x,0,none⟩=false:=hC.blk.frozen 0
 have HC1:Hid (CluP (w.setCell ⟨x,0,none⟩ (.int .i32 1)) x q cap fv 1 ds bs):=hC.turn 1
 have Hch:Hid (Chg (fun k=>k=x) w (w.setCell ⟨x,0,none⟩ (.int .i32 1))):=chg_turn (M:=fun k=>k=x) rfl _
 have hb5:=hC.b500
 clear hC
 generalize hW1:w.setCell ⟨x,0,none⟩ (.int .i32 1)=W1 at *
 have HW1:Hid (w.setCell ⟨x,0,none⟩ (.int .i32 1)=W1):=hW1
 clear hW1
 have HS:Hid (∀ wx,CluP wx x q cap fv 1 ds bs->Calls Tryz.prog 55 #[.pointer (some ⟨x,0,none⟩),.int .i64 ((k:Int)+1)] wx fun e w'=>e=.returned (.bool true)/\w'=wx):=fun wx hx=>by
  have:=isSent_any wx x q cap fv 1 ds bs hx ((k:Int)+1)
  rw[decide_eq_true (by omega)] at this;exact this
 obtain ⟨g,c,hfv⟩:=own_some HC1.out.fr (by omega)
 have c3:W1.cell? ⟨x,3,none⟩=some (.slice (some ⟨g,0,none⟩) bs.length c):=by rw[<- hfv];exact (HC1.out.blk.cell 3).trans rfl
 have cs0:W1.cell? ⟨g,k*2,none⟩=some (.int .i64 (bs[k].1:Int)):=by
  have:=HC1.out.fr
  rw[hfv] at this
  rw[this.cellAt (k*2) (by omega)];exact (frV_at bs k hk).1
 have cs1:W1.cell? ⟨g,k*2+1,none⟩=some (.string bs[k].2):=by
  have:=HC1.out.fr
  rw[hfv] at this
  rw[this.cellAt (k*2+1) (by omega)];exact (frV_at bs k hk).2
 have hidx:IntKind.i64.wrap (k:Int)=(k:Int):=wrap_in _ (by omega) (by omega)
 have hk0:(0:Int)<=(k:Int):=by omega
 have hkI:(k:Int)<(bs.length:Int):=by omega
 have hcap:bs.length<=c:=by
  obtain ⟨ao,c',e1,e2⟩:=HC1.out.fvS
  rw[hfv] at e1
  simp only[Value.slice.injEq] at e1
  omega
 have HK:Hid (∀ wx,wx.heap=W1.heap->wx.os=W1.os->wx.tape=W1.tape->wx.output=W1.output->Calls Tryz.prog 57 #[.pointer (some ⟨x,0,none⟩),.int .i64 (bs[k].1:Int),.string bs[k].2] wx fun e w'=>∃ n r fv' ds' bs',e=.returned (.tuple #[.int .i64 n,.int .i64 r])/\CluP w' x q cap fv' 1 ds' bs'/\(CluP (w'.setCell ⟨x,0,none⟩ (.int .i32 0)) x q cap fv' 0 ds' bs'->Chg M w (w'.setCell ⟨x,0,none⟩ (.int .i32 0))->Q n r (w'.setCell ⟨x,0,none⟩ (.int .i32 0)))/\Chg M w w'):=fun wx hx ho ht hp=>by
  have hbx:Below W1.heap.size W1 wx:=⟨ho,ht,hp,by rw[hx];exact Nat.le_refl _,fun k _=>by rw[hx]⟩
  exact hcome wx (HC1.out.below hbx) (Hch.out.below hbx)
 have hM':Hid (M x):=hM
 clear hcome hfv hM
 generalize bs[k].1=dn at *
 generalize bs[k].2=bt at *
 go_enter_defers Tryz.func31,Tryz.ntmps31
 go_wp2_with (go_at_call 43;refine (lock_free YtfmmllpjgkgeaaaGreatDoor.muLib ⟨x,0,none⟩ _ k0 z0).mono ?_;rintro e w' ⟨rfl,rfl⟩)
 rw[HW1.out]
 refine Calls.mono (HS.out _ HC1.out) ?_
 rintro e w2 ⟨rfl,rfl⟩
 clear HS k0 z0
 go_wp2_with fail
 refine wp_region_noPanic ?_
 go_region_law (go_simp;refine Calls.mono (HK.out _ rfl rfl rfl rfl) ?_;rintro e w3 ⟨n,r,fv',ds',bs',rfl,hC3,hQ3,hc3⟩)
 all_goals
  refine NoPanic.normal ?_
  have HC3:Hid (CluP w3 x q cap fv' 1 ds' bs'):=hC3
  have HQ3:Hid (CluP (w3.setCell ⟨x,0,none⟩ (.int .i32 0)) x q cap fv' 0 ds' bs'->Chg M w (w3.setCell ⟨x,0,none⟩ (.int .i32 0))->Q n r (w3.setCell ⟨x,0,none⟩ (.int .i32 0))):=hQ3
  have Hc3:Hid (Chg M w w3):=hc3
  clear HK c3 cs0 cs1 hC3 hQ3 hc3
  go_wp2_with fail
  refine leaves_cons (f:=44) (args:=#[.pointer (some ⟨x,0,none⟩)]) (by simp) (by simp[go_sem]) ?_
  refine (unlock_deferred YtfmmllpjgkgeaaaGreatDoor.muLib ⟨x,0,none⟩ .returning _ ((HC3.out.blk.cell 0).trans rfl) (HC3.out.blk.frozen 0)).mono ?_
  rintro e u' w9 ⟨rfl,rfl,rfl⟩
  exact ⟨_,results_tmp2 rfl _ _ _,n,r,rfl,HQ3.out (HC3.out.turn 0) (Hc3.out.setCell (p:=⟨x,0,none⟩) hM'.out _)⟩
end Go.Proofs.YtfmmllpjgkgeaaaGreatDoor

