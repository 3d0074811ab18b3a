import Derived.Test.YtfmmllpjgkgeaaaGreatDoorPart43
set_option linter.unusedVariables false
set_option linter.unusedSimpArgs false
set_option maxHeartbeats 16000000
set_option maxRecDepth 100000
namespace Go.Proofs.YtfmmllpjgkgeaaaGreatDoor
open Go.RowKit Go.Maps Go.WideMaps Go.MuLone Go.Deep

theorem tear_renews {B:Nat} {r:RD} {j:Int} : Renews0 B r { r with cut:=true,k:=j }:=⟨rfl,rfl,rfl,fun _ h=>Or.inl h⟩
def RD.woken (r:RD) (io co lo:Nat) (K:Nat->Nat) (C:Nat->Option Thk.Ch) (n:Nat):RD:={ r with io:=some io,co:=some co,lo:=some lo,pv:=.slice none 0 0,dr:=sizeK K,A:=fun _=>0,ps:=[],K:=K,C:=C,n:=n,cut:=false }
theorem wake_renews {B:Nat} {r:RD} {io co lo:Nat} {K:Nat->Nat} {C:Nat->Option Thk.Ch} {n:Nat} (h:B<=io/\B<=co/\B<=lo):Renews0 B r (r.woken io co lo K C n):=⟨rfl,rfl,rfl,(crash_renews h).own⟩

theorem CTear_any (w:World) (x q cap:Nat) (fv:Value) (ds:List RepD) (bs:List (Nat × ByteArray)) (hC:CluP w x q cap fv 0 ds bs) (k:Nat) (hk:k<ds.length) (j:Nat) :
  Calls Tryz.prog 32 #[.pointer (some ⟨x,0,none⟩),.int .i64 (k:Int),.int .i64 (j:Int)] w fun e w'=>e=.returned (.int .i64 0)/\CluP w' x q cap fv 0 (ds.set k { ds[k] with cut:=true,k:=(j:Int) }) bs/\Chg (cluOwn x ds) w w':=by
 have k0:w.cell? ⟨x,0,none⟩=some (.int .i32 0):=(hC.blk.cell 0).trans rfl
 have z0:w.frozen? ⟨x,0,none⟩=false:=hC.blk.frozen 0
 have HC1:Hid (CluP (w.setCell ⟨x,0,none⟩ (.int .i32 1)) x q cap fv 1 ds bs):=hC.turn 1
 have hlen:=hC.len
 clear hC
 go_enter_defers Tryz.func32,Tryz.ntmps32
 go_wp2_with (go_at_call 43;refine (lock_free muLib ⟨x,0,none⟩ _ k0 z0).mono ?_;rintro e w' ⟨rfl,rfl⟩)
 have h1b:Below (w.setCell ⟨x,0,none⟩ (.int .i32 1)).heap.size (w.setCell ⟨x,0,none⟩ (.int .i32 1)) ((w.setCell ⟨x,0,none⟩ (.int .i32 1)).alloc (.cells #[.int .i64 (k:Int)] 3)):=(Below.refl _ _).alloc (Nat.le_refl _) _
 have hgc:((w.setCell ⟨x,0,none⟩ (.int .i32 1)).alloc (.cells #[.int .i64 (k:Int)] 3)).cell? ⟨w.heap.size,0,none⟩=some (.int .i64 (k:Int)):=by
  have:=(Blk.new (w.setCell ⟨x,0,none⟩ (.int .i32 1)) #[.int .i64 (k:Int)] 3).cell 0
  simpa using this
 have hch:Chg (fun k=>k=x) w ((w.setCell ⟨x,0,none⟩ (.int .i32 1)).alloc (.cells #[.int .i64 (k:Int)] 3)):=(chg_turn (M:=fun k=>k=x) rfl _).below h1b
 have HB:=HC1.out.below h1b
 refine Calls.mono (named_any _ x q cap fv 1 ds bs HB w.heap.size (k:Int) hgc) ?_
 rintro e w1 ⟨rfl,hw1⟩
 rw[<- hw1] at HB hch
 clear hgc h1b hw1 HC1 k0 z0
 have HC1:Hid (CluP w1 x q cap fv 1 ds bs):=HB
 have Hch:Hid (Chg (fun k=>k=x) w w1):=hch
 clear HB hch
 have hn:namedR ds.length (k:Int)=0:=by unfold namedR;rw[if_pos (by omega)]
 rw[hn]
 have c2:w1.cell? ⟨x,2,none⟩=some (.slice (some ⟨q,0,none⟩) ds.length cap):=(HC1.out.blk.cell 2).trans rfl
 have hcap:=HC1.out.cap
 have cq:=HC1.out.cell k hk
 have hj:¬(j:Int)<0:=by omega
 have HK:Hid (Calls Tryz.prog 59 #[.pointer (some ⟨ds[k].rb,0,none⟩),.int .i64 (j:Int)] w1 fun e w'=>e=.returned (.tuple #[])/\Hid (CluP w' x q cap fv 1 (ds.set k { ds[k] with cut:=true,k:=(j:Int) }) bs/\Chg (cluOwn x ds) w w')):=by
  refine Calls.mono (rTear_any w1 ds[k] (HC1.out.rep k hk) (j:Int)) ?_
  rintro e w' ⟨rfl,h1,h2⟩
  exact ⟨rfl,HC1.out.renew0 k hk h1 tear_renews h2,(Hch.out.wide (fun _ e=>Or.inl e)).then (h2.wide (fun _ e=>Or.inr ⟨k,hk,e⟩))⟩
 clear hn Hch HC1
 go_wp2_with fail
 refine Calls.mono HK.out ?_
 rintro e w2 ⟨rfl,H2⟩
 have HC2:Hid (CluP w2 x q cap fv 1 (ds.set k { ds[k] with cut:=true,k:=(j:Int) }) bs):=H2.out.1
 clear HK c2 cq
 go_wp2_with fail
 refine leaves_cons (f:=44) (args:=#[.pointer (some ⟨x,0,none⟩)]) (by simp) (by simp[go_sem]) ?_
 refine (unlock_deferred muLib ⟨x,0,none⟩ .returning _ ((HC2.out.blk.cell 0).trans rfl) (HC2.out.blk.frozen 0)).mono ?_
 rintro e u' w3 ⟨rfl,rfl,rfl⟩
 exact ⟨_,results_tmp rfl _ _ _,rfl,HC2.out.turn 0,Chg.setCell (M:=cluOwn x ds) (p:=⟨x,0,none⟩) H2.out.2 (Or.inl rfl) _⟩

section
variable {w:World} {x q cap:Nat} {fv:Value} {ds:List RepD} {bs:List (Nat × ByteArray)} {k:Nat} {hk:k<ds.length} {K:Nat->Nat} {C:Nat->Option Thk.Ch} {n:Nat}
theorem CluX.rep {st:Int} (h:CluX w x q cap fv st ds bs k hk K C n):RepDn w ds[k] K C n:=by obtain ⟨_,_,_,h3⟩:=h;exact h3
theorem CluX.cap' {st:Int} (h:CluX w x q cap fv st ds bs k hk K C n):ds.length<=cap/\ds.length<=6:=by obtain ⟨_,h1,_⟩:=h;exact ⟨h1.cap,h1.len⟩
theorem up_down {st:Int} (hC:CluX w x q cap fv st ds bs k hk K C n) (g:Nat) (hg:w.cell? ⟨g,0,none⟩=some (.int .i64 (k:Int))) :
  Calls Tryz.prog 45 #[.pointer (some ⟨x,0,none⟩),.slice (some ⟨g,0,none⟩) 1 1] w fun e w'=>e=.returned (.int .i64 3)/\w'=w:=by
 have c2:w.cell? ⟨x,2,none⟩=some (.slice (some ⟨q,0,none⟩) ds.length cap):=(hC.blk.cell 2).trans rfl
 have hq:=hC.cell
 have hkc:=hC.cap'.1
 have hl6:=hC.cap'.2
 have HD:Hid (_):=IsDown_down w ds[k] K C n hC.rep
 have hIk:=isReplica_any w x q cap ds.length c2 (k:Int)
 rw[decide_eq_true (by omega)] at hIk
 clear hC
 generalize ds[k].rb=rbk at *
 go_enter Tryz.func45,Tryz.ntmps45
 go_wp2
 go_loopg [6,9] 1 (fun gh v6 v9 wx=>gh=1/\v9=.int .i64 0/\wx=w)
 case atStart=>exact ⟨rfl,rfl,rfl⟩
 case round =>
  obtain ⟨rfl,rfl,rfl⟩:=hrel
  go_wp2_with fail
  refine Calls.mono hIk ?_
  rintro e w2 ⟨rfl,rfl⟩
  go_wp2_with fail
  refine Calls.mono HD.out ?_
  rintro e w3 ⟨rfl,rfl⟩
  go_wp2
  go_ret
  exact ⟨rfl,rfl⟩

theorem CKnows_down (hC:CluX w x q cap fv 0 ds bs k hk K C n) :
  Calls Tryz.prog 22 #[.pointer (some ⟨x,0,none⟩),.int .i64 (k:Int)] w fun e w'=>e=.returned (.tuple #[.int .i64 0,.int .i64 3])/\CluX w' x q cap fv 0 ds bs k hk K C n/\Chg (fun k=>k=x) w w':=by
 have k0:w.cell? ⟨x,0,none⟩=some (.int .i32 0):=(hC.blk.cell 0).trans rfl
 have z0:w.frozen? ⟨x,0,none⟩=false:=hC.blk.frozen 0
 have HC1:Hid (CluX (w.setCell ⟨x,0,none⟩ (.int .i32 1)) x q cap fv 1 ds bs k hk K C n):=hC.turn 1
 clear hC
 go_enter_defers Tryz.func22,Tryz.ntmps22
 go_wp2_with (go_at_call 43;refine (lock_free muLib ⟨x,0,none⟩ _ k0 z0).mono ?_;rintro e w' ⟨rfl,rfl⟩)
 have h1b:Below (w.setCell ⟨x,0,none⟩ (.int .i32 1)).heap.size (w.setCell ⟨x,0,none⟩ (.int .i32 1)) ((w.setCell ⟨x,0,none⟩ (.int .i32 1)).alloc (.cells #[.int .i64 (k:Int)] 3)):=(Below.refl _ _).alloc (Nat.le_refl _) _
 have hgc:((w.setCell ⟨x,0,none⟩ (.int .i32 1)).alloc (.cells #[.int .i64 (k:Int)] 3)).cell? ⟨w.heap.size,0,none⟩=some (.int .i64 (k:Int)):=by
  have:=(Blk.new (w.setCell ⟨x,0,none⟩ (.int .i32 1)) #[.int .i64 (k:Int)] 3).cell 0
  simpa using this
 have hch:Chg (fun k=>k=x) w ((w.setCell ⟨x,0,none⟩ (.int .i32 1)).alloc (.cells #[.int .i64 (k:Int)] 3)):=(chg_turn (M:=fun k=>k=x) rfl _).below h1b
 have HB:=HC1.out.below h1b
 refine Calls.mono (up_down HB w.heap.size hgc) ?_
 rintro e w1 ⟨rfl,hw1⟩
 rw[<- hw1] at HB hch
 clear hgc h1b hw1 HC1 k0 z0
 have HC2:Hid (CluX w1 x q cap fv 1 ds bs k hk K C n):=HB
 have Hch:Hid (Chg (fun k=>k=x) w w1):=hch
 clear HB hch
 go_wp2_with fail
 refine leaves_cons (f:=44) (args:=#[.pointer (some ⟨x,0,none⟩)]) (by simp) (by simp[go_sem]) ?_
 refine (unlock_deferred muLib ⟨x,0,none⟩ .returning _ ((HC2.out.blk.cell 0).trans rfl) (HC2.out.blk.frozen 0)).mono ?_
 rintro e u' w3 ⟨rfl,rfl,rfl⟩
 exact ⟨_,results_tmp2 rfl _ _ _,rfl,HC2.out.turn 0,Chg.setCell (M:=fun k=>k=x) (p:=⟨x,0,none⟩) Hch.out rfl _⟩

theorem CWake_any (hG:Glob w) (hC:CluX w x q cap fv 0 ds bs k hk K C n) (hx4:4<=x) (hr4:4<=ds[k].rb) :
  Calls Tryz.prog 34 #[.pointer (some ⟨x,0,none⟩),.int .i64 (k:Int)] w fun e w'=>e=.returned (.int .i64 0)/\(∃ io co lo,(w.heap.size<=io/\w.heap.size<=co/\w.heap.size<=lo)/\CluP w' x q cap fv 0 (ds.set k (ds[k].woken io co lo K C n)) bs)/\Chg (cluOwn x ds) w w':=by
 have k0:w.cell? ⟨x,0,none⟩=some (.int .i32 0):=(hC.blk.cell 0).trans rfl
 have z0:w.frozen? ⟨x,0,none⟩=false:=hC.blk.frozen 0
 have hC1:=hC.turn 1
 have hch1:Chg (fun k=>k=x) w (w.setCell ⟨x,0,none⟩ (.int .i32 1)):=chg_turn (M:=fun k=>k=x) rfl _
 have hkc:=hC.cap'.1
 have hl6:=hC.cap'.2
 have hsz:(w.setCell ⟨x,0,none⟩ (.int .i32 1)).heap.size=w.heap.size:=by simp
 clear hC
 generalize hW1:w.setCell ⟨x,0,none⟩ (.int .i32 1)=W1 at *
 have HW1:Hid (w.setCell ⟨x,0,none⟩ (.int .i32 1)=W1):=hW1
 clear hW1
 have c2:W1.cell? ⟨x,2,none⟩=some (.slice (some ⟨q,0,none⟩) ds.length cap):=(hC1.blk.cell 2).trans rfl
 have cq:=hC1.cell
 have HD:Hid (_):=IsDown_down W1 ds[k] K C n hC1.rep
 have hIk:=isReplica_any W1 x q cap ds.length c2 (k:Int)
 rw[decide_eq_true (by omega)] at hIk
 have HI:Hid (_):=hIk
 have HK:Hid (Calls Tryz.prog 63 #[.pointer (some ⟨ds[k].rb,0,none⟩)] W1 fun e w'=>e=.returned (.tuple #[])/\Hid (∃ io co lo,(w.heap.size<=io/\w.heap.size<=co/\w.heap.size<=lo)/\CluP w' x q cap fv 1 (ds.set k (ds[k].woken io co lo K C n)) bs/\Chg (cluOwn x ds) w w')):=by
  obtain ⟨w0,h1,h2,h3⟩:=hC1
  refine Calls.mono (Wake_any W1 (hG.chg4 hch1 (fun k e=>by subst e;exact hx4)) ds[k] K C n h3 hr4) ?_
  rintro e w' ⟨rfl,io,co,lo,a1,a2,a3⟩
  have hz:=h2.size
  exact ⟨rfl,io,co,lo,by rw[hsz] at a2;exact a2,h1.renew0 k hk a1 (wake_renews (by omega)) (h2.trans a3),(hch1.wide (fun _ e=>Or.inl e)).then (a3.wide (fun _ e=>Or.inr ⟨k,hk,e⟩))⟩
 clear hIk hC1 hG hch1
 go_enter_defers Tryz.func34,Tryz.ntmps34
 go_wp2_with (go_at_call 43;refine (lock_free muLib ⟨x,0,none⟩ _ k0 z0).mono ?_;rintro e w' ⟨rfl,rfl⟩)
 rw[HW1.out]
 refine Calls.mono HI.out ?_
 rintro e w2 ⟨rfl,rfl⟩
 go_wp2_with fail
 refine Calls.mono HD.out ?_
 rintro e w3 ⟨rfl,rfl⟩
 go_wp2_with fail
 refine Calls.mono HK.out ?_
 rintro e w4 ⟨rfl,H4⟩
 obtain ⟨io,co,lo,h1,h2,h3⟩:=H4.out
 have HC2:Hid (CluP w4 x q cap fv 1 (ds.set k (ds[k].woken io co lo K C n)) bs):=h2
 have HX:Hid ((w.heap.size<=io/\w.heap.size<=co/\w.heap.size<=lo)/\Chg (cluOwn x ds) w w4):=⟨h1,h3⟩
 clear HK HD HI H4 h1 h2 h3 c2 cq
 go_wp2_with fail
 refine leaves_cons (f:=44) (args:=#[.pointer (some ⟨x,0,none⟩)]) (by simp) (by simp[go_sem]) ?_
 refine (unlock_deferred muLib ⟨x,0,none⟩ .returning _ ((HC2.out.blk.cell 0).trans rfl) (HC2.out.blk.frozen 0)).mono ?_
 rintro e u' w9 ⟨rfl,rfl,rfl⟩
 exact ⟨_,results_tmp rfl _ _ _,rfl,⟨io,co,lo,HX.out.1,HC2.out.turn 0⟩,Chg.setCell (M:=cluOwn x ds) (p:=⟨x,0,none⟩) HX.out.2 (Or.inl rfl) _⟩

theorem CWake_up (hC:CluP w x q cap fv 0 ds bs) (hk:k<ds.length) :
  Calls Tryz.prog 34 #[.pointer (some ⟨x,0,none⟩),.int .i64 (k:Int)] w fun e w'=>e=.returned (.int .i64 10)/\CluP w' x q cap fv 0 ds bs/\Chg (fun k=>k=x) w w':=by
 have k0:w.cell? ⟨x,0,none⟩=some (.int .i32 0):=(hC.blk.cell 0).trans rfl
 have z0:w.frozen? ⟨x,0,none⟩=false:=hC.blk.frozen 0
 have hC1:=hC.turn 1
 have Hch:Hid (Chg (fun k=>k=x) w (w.setCell ⟨x,0,none⟩ (.int .i32 1))):=chg_turn (M:=fun k=>k=x) rfl _
 have hkc:=hC.cap
 have hl6:=hC.len
 clear hC
 generalize hW1:w.setCell ⟨x,0,none⟩ (.int .i32 1)=W1 at *
 have HW1:Hid (w.setCell ⟨x,0,none⟩ (.int .i32 1)=W1):=hW1
 clear hW1
 have c2:W1.cell? ⟨x,2,none⟩=some (.slice (some ⟨q,0,none⟩) ds.length cap):=(hC1.blk.cell 2).trans rfl
 have cq:=hC1.cell k hk
 have HD:Hid (_):=IsDown_any W1 ds[k] (hC1.rep k hk)
 have hIk:=isReplica_any W1 x q cap ds.length c2 (k:Int)
 rw[decide_eq_true (by omega)] at hIk
 have HI:Hid (_):=hIk
 have HC2:Hid (CluP W1 x q cap fv 1 ds bs):=hC1
 clear hIk hC1
 go_enter_defers Tryz.func34,Tryz.ntmps34
 go_wp2_with (go_at_call 43;refine (lock_free muLib ⟨x,0,none⟩ _ k0 z0).mono ?_;rintro e w' ⟨rfl,rfl⟩)
 rw[HW1.out]
 refine Calls.mono HI.out ?_
 rintro e w2 ⟨rfl,hw2⟩
 rw[hw2]
 clear hw2 w2
 go_wp2_with fail
 refine Calls.mono HD.out ?_
 rintro e w3 ⟨rfl,hw3⟩
 rw[hw3]
 clear hw3 w3
 go_wp2_with fail
 refine leaves_cons (f:=44) (args:=#[.pointer (some ⟨x,0,none⟩)]) (by simp) (by simp[go_sem]) ?_
 refine (unlock_deferred muLib ⟨x,0,none⟩ .returning _ ((HC2.out.blk.cell 0).trans rfl) (HC2.out.blk.frozen 0)).mono ?_
 rintro e u' w3 ⟨rfl,rfl,rfl⟩
 exact ⟨_,results_tmp rfl _ _ _,rfl,HC2.out.turn 0,Chg.setCell (M:=fun k=>k=x) (p:=⟨x,0,none⟩) Hch.out rfl _⟩
end
end Go.Proofs.YtfmmllpjgkgeaaaGreatDoor

