import Derived.Test.YtfmmllpjgkgeaaaGreatDoorPart29
set_option linter.unusedVariables false
set_option linter.unusedSimpArgs false
namespace Go.Proofs.YtfmmllpjgkgeaaaGreatDoor
open Go.RowKit Go.Maps Go.WideMaps Go.MuLone Go.Deep

def waitD (ds:List RepD) (i:Int):Int × Int:=if 0<=i/\i<ds.length then (((ds[i.toNat]?.map fun d=>d.ps.length).getD 0:Nat),0) else (0,2)
def LetD (B:Nat) (ds:List RepD) (i:Int) (P:RD->RD->Prop) (ds':List RepD):Prop :=
 (¬(0<=i/\i<ds.length)/\ds'=ds)\/∃ (k:Nat) (hk:k<ds.length) (r':RD),i=(k:Int)/\Renews B ds[k] r'/\P ds[k] r'/\ds'=ds.set k r'
def crashP (r r':RD):Prop:=∃ io co lo:Nat,r' = { r with io:=some io,co:=some co,lo:=some lo,pv:=.slice none 0 0,dr:=sizeK r.K,A:=fun _=>0,ps:=[] }
def tickPP (r r':RD):Prop:=∃ pv,r' = { r with pv:=pv,dr:=tickD r.nb r.A r.dr r.ps,A:=r.A,ps:=tickP r.nb r.A r.ps }
theorem crash_renews {B:Nat} {r:RD} {io co lo:Nat} (h:B<=io/\B<=co/\B<=lo):Renews B r { r with io:=some io,co:=some co,lo:=some lo,pv:=.slice none 0 0,dr:=sizeK r.K,A:=fun _=>0,ps:=[] }:=by
 refine ⟨rfl,rfl,rfl,rfl,fun b hb=>?_⟩
 rcases hb with hb | hb | hb | hb
 ·exact Or.inl (Or.inl hb)
 ·refine Or.inr ?_
  rcases hb with e | e | e <;> (have e':=Option.some.inj e;omega)
 ·rcases hb with hb | hb | hb | ⟨p,hp,hb⟩
  ·exact Or.inl (Or.inr (Or.inr (Or.inl (Or.inl hb))))
  ·cases hb
  ·exact Or.inl (Or.inr (Or.inr (Or.inl (Or.inr (Or.inr (Or.inl hb))))))
  ·exact absurd hp (by show p ∉ ([]:List PcD);simp)
 ·exact Or.inl (Or.inr (Or.inr (Or.inr hb)))
theorem tickP_mem {nb:List Nat} {A:Nat->Nat} : ∀ {ps:List PcD} {p:PcD},p∈tickP nb A ps->p∈ps
 | [],p,h=>h
 | q :: ps,p,h=>by
  unfold tickP at h
  split at h
  ·exact List.mem_cons_of_mem _ (tickP_mem h)
  ·exact h
theorem tick_renews {B:Nat} {r:RD} {pv:Value} (h:pv.ownBlock=r.pv.ownBlock):Renews B r { r with pv:=pv,dr:=tickD r.nb r.A r.dr r.ps,A:=r.A,ps:=tickP r.nb r.A r.ps }:=by
 refine ⟨rfl,rfl,rfl,rfl,fun b hb=>Or.inl ?_⟩
 rcases hb with hb | hb | hb | hb
 ·exact Or.inl hb
 ·exact Or.inr (Or.inl hb)
 ·rcases hb with hb | hb | hb | ⟨p,hp,hb⟩
  ·exact Or.inr (Or.inr (Or.inl (Or.inl hb)))
  ·exact Or.inr (Or.inr (Or.inl (Or.inr (Or.inl (by rw[<- h];exact hb)))))
  ·exact Or.inr (Or.inr (Or.inl (Or.inr (Or.inr (Or.inl hb)))))
  ·exact Or.inr (Or.inr (Or.inl (Or.inr (Or.inr (Or.inr ⟨p,tickP_mem hp,hb⟩)))))
 ·exact Or.inr (Or.inr (Or.inr hb))

set_option maxHeartbeats 4000000 in
set_option maxRecDepth 100000 in
theorem CWaiting_any (w:World) (x q cap:Nat) (fv:Value) (ds:List RepD) (bs:List (Nat × ByteArray)) (hC:CluP w x q cap fv 0 ds bs) (i:Int) :
  Calls Tryz.prog 37 #[.pointer (some ⟨x,0,none⟩),.int .i64 i] w fun e w'=>e=.returned (.tuple #[.int .i64 (waitD ds i).1,.int .i64 (waitD ds i).2])/\CluP w' x q cap fv 0 ds bs/\Chg (fun k=>k=x) w w':=by
 have HC:Hid (CluP w x q cap fv 0 ds bs):=hC
 have k0:w.cell? ⟨x,0,none⟩=some (.int .i32 0):=(hC.blk.cell 0).trans rfl
 have z0:w.frozen? ⟨x,0,none⟩=false:=hC.blk.frozen 0
 have HC1:Hid (CluP (w.setCell ⟨x,0,none⟩ (.int .i32 1)) x q cap fv 1 ds bs):=hC.turn 1
 have hxl:=hC.blk.lt
 clear hC
 go_enter_defers Tryz.func37,Tryz.ntmps37
 go_wp2_with (go_at_call 43;refine (lock_free YtfmmllpjgkgeaaaGreatDoor.muLib ⟨x,0,none⟩ _ k0 z0).mono ?_;rintro e w' ⟨rfl,rfl⟩)
 have h1b:Below (w.setCell ⟨x,0,none⟩ (.int .i32 1)).heap.size (w.setCell ⟨x,0,none⟩ (.int .i32 1)) ((w.setCell ⟨x,0,none⟩ (.int .i32 1)).alloc (.cells #[.int .i64 i] 3)):=(Below.refl _ _).alloc (Nat.le_refl _) _
 have hgc:((w.setCell ⟨x,0,none⟩ (.int .i32 1)).alloc (.cells #[.int .i64 i] 3)).cell? ⟨w.heap.size,0,none⟩=some (.int .i64 i):=by
  have:=(Blk.new (w.setCell ⟨x,0,none⟩ (.int .i32 1)) #[.int .i64 i] 3).cell 0
  simpa using this
 have hch:Chg (fun k=>k=x) w ((w.setCell ⟨x,0,none⟩ (.int .i32 1)).alloc (.cells #[.int .i64 i] 3)):=(chg_turn (M:=fun k=>k=x) rfl _).below h1b
 have HB:=HC1.out.below h1b
 refine Calls.mono (named_any _ x q cap fv 1 ds bs HB w.heap.size i hgc) ?_
 rintro e w1 ⟨rfl,hw1⟩
 rw[<- hw1] at HB hch
 clear hgc h1b hw1 HC1 k0 z0 hxl
 have HC1:Hid (CluP w1 x q cap fv 1 ds bs):=HB
 have Hch:Hid (Chg (fun k=>k=x) w w1):=hch
 clear HB hch HC
 by_cases hi:0<=i/\i<ds.length
 ·obtain ⟨k,rfl⟩:=Int.eq_ofNat_of_zero_le hi.1
  have hk:k<ds.length:=by omega
  have hn:namedR ds.length (k:Int)=0:=by unfold namedR;rw[if_pos hi]
  have hkd:Hid (waitD ds (k:Int)=((ds[k].ps.length:Int),0)):=by unfold Hid waitD;rw[if_pos hi];simp[hk]
  rw[hn]
  have c2:w1.cell? ⟨x,2,none⟩=some (.slice (some ⟨q,0,none⟩) ds.length cap):=(HC1.out.blk.cell 2).trans rfl
  have cq:=HC1.out.cell k hk
  have HK:Hid (_):=rWaiting_any w1 ds[k] (HC1.out.rep k hk)
  clear hn hi
  go_wp2_with fail
  refine Calls.mono HK.out ?_
  rintro e w2 ⟨rfl,rfl⟩
  have HC2:Hid (CluP w2 x q cap fv 1 ds bs):=HC1.out
  have Hch2:Hid (Chg (fun k=>k=x) w w2):=Hch.out
  clear HK HC1 Hch c2 cq
  go_wp2_with fail
  refine leaves_cons (f:=44) (args:=#[.pointer (some ⟨x,0,none⟩)]) (by simp) (by simp[go_sem]) ?_
  refine (unlock_deferred YtfmmllpjgkgeaaaGreatDoor.muLib ⟨x,0,none⟩ .returning _ ((HC2.out.blk.cell 0).trans rfl) (HC2.out.blk.frozen 0)).mono ?_
  rintro e u' w3 ⟨rfl,rfl,rfl⟩
  exact ⟨_,results_tmp2 rfl _ _ _,by rw[hkd.out];rfl,HC2.out.turn 0,Chg.setCell (M:=fun k=>k=x) (p:=⟨x,0,none⟩) Hch2.out rfl _⟩
 ·have hn:namedR ds.length i=2:=by unfold namedR;rw[if_neg hi]
  have hkd:Hid (waitD ds i=(0,2)):=by unfold Hid waitD;rw[if_neg hi]
  rw[hn]
  clear hn hi
  go_wp2_with fail
  refine leaves_cons (f:=44) (args:=#[.pointer (some ⟨x,0,none⟩)]) (by simp) (by simp[go_sem]) ?_
  refine (unlock_deferred YtfmmllpjgkgeaaaGreatDoor.muLib ⟨x,0,none⟩ .returning _ ((HC1.out.blk.cell 0).trans rfl) (HC1.out.blk.frozen 0)).mono ?_
  rintro e u' w3 ⟨rfl,rfl,rfl⟩
  exact ⟨_,results_tmp2 rfl _ _ _,by rw[hkd.out];rfl,HC1.out.turn 0,Chg.setCell (M:=fun k=>k=x) (p:=⟨x,0,none⟩) Hch.out rfl _⟩

set_option maxHeartbeats 4000000 in
set_option maxRecDepth 100000 in
theorem let_crash (w:World) (hG:Glob w) (x q cap:Nat) (fv:Value) (ds:List RepD) (bs:List (Nat × ByteArray)) (hC:CluP w x q cap fv 0 ds bs) (i:Int) :
  Calls Tryz.prog 64 #[.pointer (some ⟨x,0,none⟩),.int .i64 i,.func (.func 76) #[] #[]] w fun e w'=>∃ ds',e=.returned (.int .i64 (namedR ds.length i))/\LetD w.heap.size ds i crashP ds'/\CluP w' x q cap fv 0 ds' bs/\Chg (cluOwn x ds) w w':=by
 have HC:Hid (CluP w x q cap fv 0 ds bs):=hC
 have k0:w.cell? ⟨x,0,none⟩=some (.int .i32 0):=(hC.blk.cell 0).trans rfl
 have z0:w.frozen? ⟨x,0,none⟩=false:=hC.blk.frozen 0
 have HC1:Hid (CluP (w.setCell ⟨x,0,none⟩ (.int .i32 1)) x q cap fv 1 ds bs):=hC.turn 1
 have HG:Hid (Glob w):=hG
 clear hC hG
 go_enter_defers Tryz.func64,Tryz.ntmps64
 go_wp2_with (go_at_call 43;refine (lock_free YtfmmllpjgkgeaaaGreatDoor.muLib ⟨x,0,none⟩ _ k0 z0).mono ?_;rintro e w' ⟨rfl,rfl⟩)
 have h1b:Below (w.setCell ⟨x,0,none⟩ (.int .i32 1)).heap.size (w.setCell ⟨x,0,none⟩ (.int .i32 1)) ((w.setCell ⟨x,0,none⟩ (.int .i32 1)).alloc (.cells #[.int .i64 i] 3)):=(Below.refl _ _).alloc (Nat.le_refl _) _
 have hgc:((w.setCell ⟨x,0,none⟩ (.int .i32 1)).alloc (.cells #[.int .i64 i] 3)).cell? ⟨w.heap.size,0,none⟩=some (.int .i64 i):=by
  have:=(Blk.new (w.setCell ⟨x,0,none⟩ (.int .i32 1)) #[.int .i64 i] 3).cell 0
  simpa using this
 have hch:Chg (fun k=>k=x) w ((w.setCell ⟨x,0,none⟩ (.int .i32 1)).alloc (.cells #[.int .i64 i] 3)):=(chg_turn (M:=fun k=>k=x) rfl _).below h1b
 have HB:=HC1.out.below h1b
 refine Calls.mono (named_any _ x q cap fv 1 ds bs HB w.heap.size i hgc) ?_
 rintro e w1 ⟨rfl,hw1⟩
 rw[<- hw1] at HB hch
 clear hgc h1b hw1 HC1 k0 z0
 have HC1:Hid (CluP w1 x q cap fv 1 ds bs):=HB
 have Hch:Hid (Chg (fun k=>k=x) w w1):=hch
 have G1:Hid (Glob w1):=HG.out.chg4 hch (fun k e=>by subst e;exact HC.out.x4)
 clear HB hch HC HG
 by_cases hi:0<=i/\i<ds.length
 ·obtain ⟨k,rfl⟩:=Int.eq_ofNat_of_zero_le hi.1
  have hk:k<ds.length:=by omega
  have hn:namedR ds.length (k:Int)=0:=by unfold namedR;rw[if_pos hi]
  have Hn:Hid (namedR ds.length (k:Int)=0):=hn
  rw[hn]
  have c2:w1.cell? ⟨x,2,none⟩=some (.slice (some ⟨q,0,none⟩) ds.length cap):=(HC1.out.blk.cell 2).trans rfl
  have cq:=HC1.out.cell k hk
  have HK:Hid (Calls Tryz.prog 76 #[.pointer (some ⟨ds[k].rb,0,none⟩)] w1 fun e w'=>e=.returned (.tuple #[])/\∃ r',LetD w.heap.size ds (k:Int) crashP (ds.set k r')/\CluP w' x q cap fv 1 (ds.set k r') bs/\Chg (cluOwn x ds) w w'):=by
   have hz:=Hch.out.size
   refine Calls.mono (Crash_any w1 G1.out ds[k] (HC1.out.rep k hk)) ?_
   rintro e w' ⟨rfl,io,co,lo,h1,h2,h3⟩
   refine ⟨rfl,_,Or.inr ⟨k,hk,_,rfl,crash_renews (by omega),⟨io,co,lo,rfl⟩,rfl⟩,HC1.out.renew k hk h1 (crash_renews h2) h3,(Hch.out.wide (fun _ e=>Or.inl e)).then (h3.wide (fun _ e=>Or.inr ⟨k,hk,e⟩))⟩
  clear hn hi
  go_wp2_with fail
  refine Calls.mono HK.out ?_
  rintro e w2 ⟨rfl,r',h1,h2,h3⟩
  have HC2:Hid (CluP w2 x q cap fv 1 (ds.set k r') bs):=h2
  have H2:Hid (LetD w.heap.size ds (k:Int) crashP (ds.set k r')/\Chg (cluOwn x ds) w w2):=⟨h1,h3⟩
  clear HK HC1 Hch c2 cq h1 h2 h3
  go_wp2_with fail
  refine leaves_cons (f:=44) (args:=#[.pointer (some ⟨x,0,none⟩)]) (by simp) (by simp[go_sem]) ?_
  refine (unlock_deferred YtfmmllpjgkgeaaaGreatDoor.muLib ⟨x,0,none⟩ .returning _ ((HC2.out.blk.cell 0).trans rfl) (HC2.out.blk.frozen 0)).mono ?_
  rintro e u' w3 ⟨rfl,rfl,rfl⟩
  exact ⟨_,results_tmp rfl _ _ _,ds.set k r',by rw[Hn.out];rfl,H2.out.1,HC2.out.turn 0,Chg.setCell (M:=cluOwn x ds) (p:=⟨x,0,none⟩) H2.out.2 (Or.inl rfl) _⟩
 ·have hn:namedR ds.length i=2:=by unfold namedR;rw[if_neg hi]
  have HL:Hid (LetD w.heap.size ds i crashP ds):=Or.inl ⟨hi,rfl⟩
  have Hn:Hid (namedR ds.length i=2):=hn
  rw[hn]
  clear hn hi
  go_wp2_with fail
  refine leaves_cons (f:=44) (args:=#[.pointer (some ⟨x,0,none⟩)]) (by simp) (by simp[go_sem]) ?_
  refine (unlock_deferred YtfmmllpjgkgeaaaGreatDoor.muLib ⟨x,0,none⟩ .returning _ ((HC1.out.blk.cell 0).trans rfl) (HC1.out.blk.frozen 0)).mono ?_
  rintro e u' w3 ⟨rfl,rfl,rfl⟩
  exact ⟨_,results_tmp rfl _ _ _,ds,by rw[Hn.out];rfl,HL.out,HC1.out.turn 0,Chg.setCell (M:=cluOwn x ds) (p:=⟨x,0,none⟩) (Hch.out.wide (fun k e=>Or.inl e)) (Or.inl rfl) _⟩
set_option maxHeartbeats 1000000 in
theorem CCrash_any (w:World) (hG:Glob w) (x q cap:Nat) (fv:Value) (ds:List RepD) (bs:List (Nat × ByteArray)) (hC:CluP w x q cap fv 0 ds bs) (i:Int) :
  Calls Tryz.prog 41 #[.pointer (some ⟨x,0,none⟩),.int .i64 i] w fun e w'=>∃ ds',e=.returned (.int .i64 (namedR ds.length i))/\LetD w.heap.size ds i crashP ds'/\CluP w' x q cap fv 0 ds' bs/\Chg (cluOwn x ds) w w':=by
 have HL:Hid (_):=let_crash w hG x q cap fv ds bs hC i
 clear hG hC
 go_enter Tryz.func41,Tryz.ntmps41
 go_wp2_with fail
 refine Calls.mono HL.out ?_
 rintro e w1 ⟨ds',rfl,h1⟩
 have H1:Hid (LetD w.heap.size ds i crashP ds'/\CluP w1 x q cap fv 0 ds' bs/\Chg (cluOwn x ds) w w1):=h1
 clear h1 HL
 go_wp2
 go_ret
 exact ⟨ds',rfl,H1.out⟩

set_option maxHeartbeats 4000000 in
set_option maxRecDepth 100000 in
theorem let_tick (w:World) (hG:Glob w) (x q cap:Nat) (fv:Value) (ds:List RepD) (bs:List (Nat × ByteArray)) (hC:CluP w x q cap fv 0 ds bs) (i:Int) :
  Calls Tryz.prog 64 #[.pointer (some ⟨x,0,none⟩),.int .i64 i,.func (.func 65) #[] #[]] w fun e w'=>∃ ds',e=.returned (.int .i64 (namedR ds.length i))/\LetD w.heap.size ds i tickPP ds'/\CluP w' x q cap fv 0 ds' bs/\Chg (cluOwn x ds) w w':=by
 have HC:Hid (CluP w x q cap fv 0 ds bs):=hC
 have k0:w.cell? ⟨x,0,none⟩=some (.int .i32 0):=(hC.blk.cell 0).trans rfl
 have z0:w.frozen? ⟨x,0,none⟩=false:=hC.blk.frozen 0
 have HC1:Hid (CluP (w.setCell ⟨x,0,none⟩ (.int .i32 1)) x q cap fv 1 ds bs):=hC.turn 1
 have HG:Hid (Glob w):=hG
 clear hC hG
 go_enter_defers Tryz.func64,Tryz.ntmps64
 go_wp2_with (go_at_call 43;refine (lock_free YtfmmllpjgkgeaaaGreatDoor.muLib ⟨x,0,none⟩ _ k0 z0).mono ?_;rintro e w' ⟨rfl,rfl⟩)
 have h1b:Below (w.setCell ⟨x,0,none⟩ (.int .i32 1)).heap.size (w.setCell ⟨x,0,none⟩ (.int .i32 1)) ((w.setCell ⟨x,0,none⟩ (.int .i32 1)).alloc (.cells #[.int .i64 i] 3)):=(Below.refl _ _).alloc (Nat.le_refl _) _
 have hgc:((w.setCell ⟨x,0,none⟩ (.int .i32 1)).alloc (.cells #[.int .i64 i] 3)).cell? ⟨w.heap.size,0,none⟩=some (.int .i64 i):=by
  have:=(Blk.new (w.setCell ⟨x,0,none⟩ (.int .i32 1)) #[.int .i64 i] 3).cell 0
  simpa using this
 have hch:Chg (fun k=>k=x) w ((w.setCell ⟨x,0,none⟩ (.int .i32 1)).alloc (.cells #[.int .i64 i] 3)):=(chg_turn (M:=fun k=>k=x) rfl _).below h1b
 have HB:=HC1.out.below h1b
 refine Calls.mono (named_any _ x q cap fv 1 ds bs HB w.heap.size i hgc) ?_
 rintro e w1 ⟨rfl,hw1⟩
 rw[<- hw1] at HB hch
 clear hgc h1b hw1 HC1 k0 z0
 have HC1:Hid (CluP w1 x q cap fv 1 ds bs):=HB
 have Hch:Hid (Chg (fun k=>k=x) w w1):=hch
 have G1:Hid (Glob w1):=HG.out.chg4 hch (fun k e=>by subst e;exact HC.out.x4)
 clear HB hch HC HG
 by_cases hi:0<=i/\i<ds.length
 ·obtain ⟨k,rfl⟩:=Int.eq_ofNat_of_zero_le hi.1
  have hk:k<ds.length:=by omega
  have hn:namedR ds.length (k:Int)=0:=by unfold namedR;rw[if_pos hi]
  have Hn:Hid (namedR ds.length (k:Int)=0):=hn
  rw[hn]
  have c2:w1.cell? ⟨x,2,none⟩=some (.slice (some ⟨q,0,none⟩) ds.length cap):=(HC1.out.blk.cell 2).trans rfl
  have cq:=HC1.out.cell k hk
  have HK:Hid (Calls Tryz.prog 65 #[.pointer (some ⟨ds[k].rb,0,none⟩)] w1 fun e w'=>e=.returned (.tuple #[])/\∃ r',LetD w.heap.size ds (k:Int) tickPP (ds.set k r')/\CluP w' x q cap fv 1 (ds.set k r') bs/\Chg (cluOwn x ds) w w'):=by
   have hz:=Hch.out.size
   refine Calls.mono (rTick_any w1 ds[k] (HC1.out.rep k hk)) ?_
   rintro e w' ⟨rfl,pv,h1,h2,h3⟩
   refine ⟨rfl,_,Or.inr ⟨k,hk,_,rfl,tick_renews h1,⟨pv,rfl⟩,rfl⟩,HC1.out.renew k hk h2 (tick_renews h1) h3,(Hch.out.wide (fun _ e=>Or.inl e)).then (h3.wide (fun _ e=>Or.inr ⟨k,hk,e⟩))⟩
  clear hn hi
  go_wp2_with fail
  refine Calls.mono HK.out ?_
  rintro e w2 ⟨rfl,r',h1,h2,h3⟩
  have HC2:Hid (CluP w2 x q cap fv 1 (ds.set k r') bs):=h2
  have H2:Hid (LetD w.heap.size ds (k:Int) tickPP (ds.set k r')/\Chg (cluOwn x ds) w w2):=⟨h1,h3⟩
  clear HK HC1 Hch c2 cq h1 h2 h3
  go_wp2_with fail
  refine leaves_cons (f:=44) (args:=#[.pointer (some ⟨x,0,none⟩)]) (by simp) (by simp[go_sem]) ?_
  refine (unlock_deferred YtfmmllpjgkgeaaaGreatDoor.muLib ⟨x,0,none⟩ .returning _ ((HC2.out.blk.cell 0).trans rfl) (HC2.out.blk.frozen 0)).mono ?_
  rintro e u' w3 ⟨rfl,rfl,rfl⟩
  exact ⟨_,results_tmp rfl _ _ _,ds.set k r',by rw[Hn.out];rfl,H2.out.1,HC2.out.turn 0,Chg.setCell (M:=cluOwn x ds) (p:=⟨x,0,none⟩) H2.out.2 (Or.inl rfl) _⟩
 ·have hn:namedR ds.length i=2:=by unfold namedR;rw[if_neg hi]
  have HL:Hid (LetD w.heap.size ds i tickPP ds):=Or.inl ⟨hi,rfl⟩
  have Hn:Hid (namedR ds.length i=2):=hn
  rw[hn]
  clear hn hi
  go_wp2_with fail
  refine leaves_cons (f:=44) (args:=#[.pointer (some ⟨x,0,none⟩)]) (by simp) (by simp[go_sem]) ?_
  refine (unlock_deferred YtfmmllpjgkgeaaaGreatDoor.muLib ⟨x,0,none⟩ .returning _ ((HC1.out.blk.cell 0).trans rfl) (HC1.out.blk.frozen 0)).mono ?_
  rintro e u' w3 ⟨rfl,rfl,rfl⟩
  exact ⟨_,results_tmp rfl _ _ _,ds,by rw[Hn.out];rfl,HL.out,HC1.out.turn 0,Chg.setCell (M:=cluOwn x ds) (p:=⟨x,0,none⟩) (Hch.out.wide (fun k e=>Or.inl e)) (Or.inl rfl) _⟩
set_option maxHeartbeats 1000000 in
theorem CTick_any (w:World) (hG:Glob w) (x q cap:Nat) (fv:Value) (ds:List RepD) (bs:List (Nat × ByteArray)) (hC:CluP w x q cap fv 0 ds bs) (i:Int) :
  Calls Tryz.prog 36 #[.pointer (some ⟨x,0,none⟩),.int .i64 i] w fun e w'=>∃ ds',e=.returned (.int .i64 (namedR ds.length i))/\LetD w.heap.size ds i tickPP ds'/\CluP w' x q cap fv 0 ds' bs/\Chg (cluOwn x ds) w w':=by
 have HL:Hid (_):=let_tick w hG x q cap fv ds bs hC i
 clear hG hC
 go_enter Tryz.func36,Tryz.ntmps36
 go_wp2_with fail
 refine Calls.mono HL.out ?_
 rintro e w1 ⟨ds',rfl,h1⟩
 have H1:Hid (LetD w.heap.size ds i tickPP ds'/\CluP w1 x q cap fv 0 ds' bs/\Chg (cluOwn x ds) w w1):=h1
 clear h1 HL
 go_wp2
 go_ret
 exact ⟨ds',rfl,H1.out⟩
end Go.Proofs.YtfmmllpjgkgeaaaGreatDoor

