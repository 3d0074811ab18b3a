import Derived.Test.YtfmmllpjgkgeaaaGreatDoorPart29
set_option linter.unusedVariables false
set_option linter.unusedSimpArgs false
namespace Go.Proofs.YtfmmllpjgkgeaaaGreatDoor
open Go.RowKit Go.Maps Go.WideMaps Go.MuLone Go.Deep

def FrBy (s:ByteArray) (r:RD) (j:Nat):Prop:=∃ S C rs its,SendS r j S C/\StoB S C/\toL s=sealL (encFm r.a (sizeK r.K) rs its)/\EncOf S C rs its/\s.size<=700000

def SendD (ds:List RepD) (bs:List (Nat × ByteArray)) (i j:Int) (n r:Int) (bs':List (Nat × ByteArray)):Prop :=
 (¬((0<=i/\i<ds.length)/\(0<=j/\j<ds.length))/\n=0/\r=2/\bs'=bs) \/
 (((0<=i/\i<ds.length)/\(0<=j/\j<ds.length))/\i=j/\n=0/\r=1/\bs'=bs) \/
 (((0<=i/\i<ds.length)/\(0<=j/\j<ds.length))/\¬i=j/\500<=bs.length/\n=0/\r=7/\bs'=bs) \/
 ∃ (k k':Nat) (hk:k<ds.length) (s:ByteArray),i=(k:Int)/\j=(k':Int)/\k'<ds.length/\¬i=j/\bs.length<500/\n=((bs.length+1:Nat):Int)/\r=0/\bs'=bs ++ [(k',s)]/\FrBy s ds[k] k'

set_option maxHeartbeats 8000000 in
set_option maxRecDepth 100000 in
theorem CSend_any (w:World) (hG:Glob w) (x q cap:Nat) (fv:Value) (ds:List RepD) (bs:List (Nat × ByteArray)) (hC:CluP w x q cap fv 0 ds bs) (hB:∀ j (h:j<ds.length),PcOK ds[j]/\sizeK ds[j].K<=505) (i j:Int) :
  Calls Tryz.prog 27 #[.pointer (some ⟨x,0,none⟩),.int .i64 i,.int .i64 j] w fun e w'=>∃ n r bs' fv',e=.returned (.tuple #[.int .i64 n,.int .i64 r])/\SendD ds bs i j n r bs'/\CluP w' x q cap fv' 0 ds bs' /\
   Chg (fun k=>k=x\/fv.ownBlock=some k) w w'/\(∀ k,fv'.ownBlock=some k->fv.ownBlock=some k\/w.heap.size<=k):=by
 have HB:Hid (∀ j (h:j<ds.length),PcOK ds[j]/\sizeK ds[j].K<=505):=hB
 clear hB
 have HC:Hid (CluP w x q cap fv 0 ds bs):=hC
 have k0:w.cell? ⟨x,0,none⟩=some (.int .i32 0):=(hC.blk.cell 0).trans rfl
 have z0:w.frozen? ⟨x,0,none⟩=false:=hC.blk.frozen 0
 have HC1:Hid (CluP (w.setCell ⟨x,0,none⟩ (.int .i32 1)) x q cap fv 1 ds bs):=hC.turn 1
 have HG:Hid (Glob w):=hG
 clear hC hG
 go_enter_defers Tryz.func27,Tryz.ntmps27
 go_wp2_with (go_at_call 43;refine (lock_free YtfmmllpjgkgeaaaGreatDoor.muLib ⟨x,0,none⟩ _ k0 z0).mono ?_;rintro e w' ⟨rfl,rfl⟩)
 have h1b:Below (w.setCell ⟨x,0,none⟩ (.int .i32 1)).heap.size (w.setCell ⟨x,0,none⟩ (.int .i32 1)) ((w.setCell ⟨x,0,none⟩ (.int .i32 1)).alloc (.cells #[.int .i64 i,.int .i64 j] 3)):=(Below.refl _ _).alloc (Nat.le_refl _) _
 have hgc:((w.setCell ⟨x,0,none⟩ (.int .i32 1)).alloc (.cells #[.int .i64 i,.int .i64 j] 3)).cell? ⟨w.heap.size,0,none⟩=some (.int .i64 i):=by
  have:=(Blk.new (w.setCell ⟨x,0,none⟩ (.int .i32 1)) #[.int .i64 i,.int .i64 j] 3).cell 0
  simpa using this
 have hgd:((w.setCell ⟨x,0,none⟩ (.int .i32 1)).alloc (.cells #[.int .i64 i,.int .i64 j] 3)).cell? ⟨w.heap.size,1,none⟩=some (.int .i64 j):=by
  have:=(Blk.new (w.setCell ⟨x,0,none⟩ (.int .i32 1)) #[.int .i64 i,.int .i64 j] 3).cell 1
  simpa using this
 have hch:Chg (fun k=>k=x) w ((w.setCell ⟨x,0,none⟩ (.int .i32 1)).alloc (.cells #[.int .i64 i,.int .i64 j] 3)):=(chg_turn (M:=fun k=>k=x) rfl _).below h1b
 have HB1:=HC1.out.below h1b
 refine Calls.mono (named_two _ x q cap fv 1 ds bs HB1 w.heap.size i j hgc hgd) ?_
 rintro e w1 ⟨rfl,hw1⟩
 rw[<- hw1] at HB1 hch
 clear hgc hgd h1b hw1 HC1 k0 z0
 have G1:Hid (Glob w1):=HG.out.chg4 hch (fun k e=>by subst e;exact HC.out.x4)
 have HC1:Hid (CluP w1 x q cap fv 1 ds bs):=HB1
 have Hch:Hid (Chg (fun k=>k=x) w w1):=hch
 clear HB1 hch HG
 have HT:Hid (CluP (w1.setCell ⟨x,0,none⟩ (.int .i32 0)) x q cap fv 0 ds bs/\Chg (fun k=>k=x\/fv.ownBlock=some k) w (w1.setCell ⟨x,0,none⟩ (.int .i32 0))/\(∀ k,fv.ownBlock=some k->fv.ownBlock=some k\/w.heap.size<=k)) :=
  ⟨HC1.out.turn 0,Chg.setCell (M:=fun k=>k=x\/fv.ownBlock=some k) (p:=⟨x,0,none⟩) (Hch.out.wide (fun k e=>Or.inl e)) (Or.inl rfl) _,fun k hk=>Or.inl hk⟩
 rw[namedL_2]
 by_cases hi:(0<=i/\i<ds.length)/\(0<=j/\j<ds.length)
 ·rw[if_pos hi]
  by_cases hij:i=j
  ·have HD:Hid (SendD ds bs i j 0 1 bs):=(Or.inr (Or.inl ⟨hi,hij,rfl,rfl,rfl⟩))
   clear hi
   subst hij
   go_wp2_with fail
   refine leaves_cons (f:=44) (args:=#[.pointer (some ⟨x,0,none⟩)]) (by simp) (by simp[go_sem]) ?_
   refine (unlock_deferred YtfmmllpjgkgeaaaGreatDoor.muLib ⟨x,0,none⟩ .returning _ ((HC1.out.blk.cell 0).trans rfl) (HC1.out.blk.frozen 0)).mono ?_
   rintro e u' w9 ⟨rfl,rfl,rfl⟩
   exact ⟨_,results_tmp2 rfl _ _ _,_,_,bs,fv,rfl,HD.out,HT.out⟩
  ·obtain ⟨k,rfl⟩:=Int.eq_ofNat_of_zero_le hi.1.1
   obtain ⟨k',rfl⟩:=Int.eq_ofNat_of_zero_le hi.2.1
   have hk:k<ds.length:=by omega
   have hk':k'<ds.length:=by omega
   by_cases h5:500<=bs.length
   ·have HD:Hid (SendD ds bs (k:Int) (k':Int) 0 7 bs):=(Or.inr (Or.inr (Or.inl ⟨hi,hij,h5,rfl,rfl,rfl⟩)))
    have HS:Hid (∀ wx,CluP wx x q cap fv 1 ds bs->Calls Tryz.prog 52 #[.pointer (some ⟨x,0,none⟩)] wx fun e w'=>e=.returned (.bool true)/\w'=wx):=fun wx hx=>by
     have:=allSent_any wx x q cap fv 1 ds bs hx
     rw[decide_eq_true h5] at this;exact this
    have hne:(((k:Int)) == ((k':Int)))=false:=beq_eq_false_iff_ne.2 hij
    clear hi
    go_wp2_with fail
    refine Calls.mono (HS.out _ HC1.out) ?_
    rintro e w2 ⟨rfl,rfl⟩
    go_wp2_with fail
    refine leaves_cons (f:=44) (args:=#[.pointer (some ⟨x,0,none⟩)]) (by simp) (by simp[go_sem]) ?_
    refine (unlock_deferred YtfmmllpjgkgeaaaGreatDoor.muLib ⟨x,0,none⟩ .returning _ ((HC1.out.blk.cell 0).trans rfl) (HC1.out.blk.frozen 0)).mono ?_
    rintro e u' w9 ⟨rfl,rfl,rfl⟩
    exact ⟨_,results_tmp2 rfl _ _ _,_,_,bs,fv,rfl,HD.out,HT.out⟩
   ·have HS:Hid (∀ wx,CluP wx x q cap fv 1 ds bs->Calls Tryz.prog 52 #[.pointer (some ⟨x,0,none⟩)] wx fun e w'=>e=.returned (.bool false)/\w'=wx):=fun wx hx=>by
     have:=allSent_any wx x q cap fv 1 ds bs hx
     rw[decide_eq_false h5] at this;exact this
    have hne:(((k:Int)) == ((k':Int)))=false:=beq_eq_false_iff_ne.2 hij
    have c2:w1.cell? ⟨x,2,none⟩=some (.slice (some ⟨q,0,none⟩) ds.length cap):=(HC1.out.blk.cell 2).trans rfl
    have cq:=HC1.out.cell k hk
    have hra:=HC1.out.ra k hk
    have HR:Hid (_):=rSend_any w1 G1.out ds[k] (HC1.out.rep k hk) (HB.out k hk).1 k' ((hra.2.2 k').2 ⟨hk',fun e=>hij (by omega)⟩) (HB.out k hk).2
    clear hra
    have Hij:Hid (_):=hij
    have H5:Hid (_):=h5
    clear hi
    go_wp2_with fail
    refine Calls.mono (HS.out _ HC1.out) ?_
    rintro e w2 ⟨rfl,rfl⟩
    go_wp2_with fail
    refine Calls.mono HR.out ?_
    rintro e w3 ⟨fi,fc,fl,S,C,rfl,hst3,hss3,hb3⟩
    have HC3:Hid (CluP w3 x q cap fv 1 ds bs):=HC1.out.below hb3
    have G3:Hid (Glob w3):=G1.out.mono hb3
    have Hch3:Hid (Chg (fun k=>k=x) w w3):=Hch.out.below hb3
    have ha5:=(HC3.out.rep k hk).a5
    have HZ:Hid (_):=send_any w3 x q cap fv 1 ds bs HC3.out (by have:=H5.out;omega) k' (ds[k].a:Int) (sizeK ds[k].K:Int) false fi fc fl (fun s=>FrBy s ds[k] k') (fun wx hx=>by
     refine Calls.mono (Bytes_st wx (G3.out.mono hx) ds[k].a (sizeK ds[k].K) ha5 (HB.out k hk).2 fi fc fl S C (hst3.below hx)) ?_
     rintro e w' ⟨s,rs,its,rfl,h1,h2,h3,h4⟩
     exact ⟨s,rfl,⟨S,C,rs,its,hss3,hst3.b,h1,h2,h3⟩,h4⟩)
    clear hst3 hss3 ha5
    clear HR HS hb3 c2 cq G1
    go_wp2_with fail
    refine Calls.mono HZ.out ?_
    rintro e w4 ⟨s,fv',rfl,hP,hC4,hc4,hn4⟩
    have HC4:Hid (CluP w4 x q cap fv' 1 ds (bs ++ [(k',s)])):=hC4
    have HE:Hid (SendD ds bs (k:Int) (k':Int) ((bs.length+1:Nat):Int) 0 (bs ++ [(k',s)])/\Chg (fun k=>k=x\/fv.ownBlock=some k) w w4/\(∀ b,fv'.ownBlock=some b->fv.ownBlock=some b\/w.heap.size<=b)) :=
     ⟨Or.inr (Or.inr (Or.inr ⟨k,k',hk,s,rfl,rfl,hk',Hij.out,by have:=H5.out;omega,rfl,rfl,rfl,hP⟩)),(Hch3.out.wide (fun k e=>Or.inl e)).trans hc4,fun b hb=>(hn4 b hb).imp id (fun h=>Nat.le_trans Hch3.out.size h)⟩
    clear HZ HC3 hP hC4 hc4 hn4 Hch3 G3
    go_wp2_with fail
    refine leaves_cons (f:=44) (args:=#[.pointer (some ⟨x,0,none⟩)]) (by simp) (by simp[go_sem]) ?_
    refine (unlock_deferred YtfmmllpjgkgeaaaGreatDoor.muLib ⟨x,0,none⟩ .returning _ ((HC4.out.blk.cell 0).trans rfl) (HC4.out.blk.frozen 0)).mono ?_
    rintro e u' w9 ⟨rfl,rfl,rfl⟩
    exact ⟨_,results_tmp2 rfl _ _ _,_,_,_,fv',rfl,HE.out.1,HC4.out.turn 0,Chg.setCell (M:=fun k=>k=x\/fv.ownBlock=some k) (p:=⟨x,0,none⟩) HE.out.2.1 (Or.inl rfl) _,HE.out.2.2⟩
 ·rw[if_neg hi]
  have HD:Hid (SendD ds bs i j 0 2 bs):=(Or.inl ⟨hi,rfl,rfl,rfl⟩)
  clear hi
  go_wp2_with fail
  refine leaves_cons (f:=44) (args:=#[.pointer (some ⟨x,0,none⟩)]) (by simp) (by simp[go_sem]) ?_
  refine (unlock_deferred YtfmmllpjgkgeaaaGreatDoor.muLib ⟨x,0,none⟩ .returning _ ((HC1.out.blk.cell 0).trans rfl) (HC1.out.blk.frozen 0)).mono ?_
  rintro e u' w9 ⟨rfl,rfl,rfl⟩
  exact ⟨_,results_tmp2 rfl _ _ _,_,_,bs,fv,rfl,HD.out,HT.out⟩

def frameD (bs:List (Nat × ByteArray)) (f:Int):ByteArray × Int:=if 1<=f/\f<=bs.length then (((bs[f.toNat-1]?.map Prod.snd).getD ⟨#[]⟩),0) else (⟨#[]⟩,9)

set_option maxHeartbeats 4000000 in
set_option maxRecDepth 100000 in
theorem CFrame_any (w:World) (x q cap:Nat) (fv:Value) (ds:List RepD) (bs:List (Nat × ByteArray)) (hC:CluP w x q cap fv 0 ds bs) (hz:∀ p∈bs,p.2.size<=1000000000) (f:Int) :
  Calls Tryz.prog 28 #[.pointer (some ⟨x,0,none⟩),.int .i64 f] w fun e w'=>e=.returned (.tuple #[.string (frameD bs f).1,.int .i64 (frameD bs f).2])/\CluP w' x q cap fv 0 ds bs/\Chg (fun k=>k=x) w w':=by
 have HC:Hid (CluP w x q cap fv 0 ds bs):=hC
 have k0:w.cell? ⟨x,0,none⟩=some (.int .i32 0):=(hC.blk.cell 0).trans rfl
 have z0:w.frozen? ⟨x,0,none⟩=false:=hC.blk.frozen 0
 have HC1:Hid (CluP (w.setCell ⟨x,0,none⟩ (.int .i32 1)) x q cap fv 1 ds bs):=hC.turn 1
 have Hch:Hid (Chg (fun k=>k=x) w (w.setCell ⟨x,0,none⟩ (.int .i32 1))):=chg_turn (M:=fun k=>k=x) rfl _
 have hb5:=hC.b500
 clear hC
 generalize hW1:w.setCell ⟨x,0,none⟩ (.int .i32 1)=W1 at *
 have HW1:Hid (w.setCell ⟨x,0,none⟩ (.int .i32 1)=W1):=hW1
 clear hW1
 by_cases hf:1<=f/\f<=bs.length
 ·obtain ⟨k,rfl⟩:∃ k:Nat,f=(k:Int)+1:=⟨(f-1).toNat,by omega⟩
  have hk:k<bs.length:=by omega
  have HS:Hid (∀ wx,CluP wx x q cap fv 1 ds bs->Calls Tryz.prog 55 #[.pointer (some ⟨x,0,none⟩),.int .i64 ((k:Int)+1)] wx fun e w'=>e=.returned (.bool true)/\w'=wx):=fun wx hx=>by
   have:=isSent_any wx x q cap fv 1 ds bs hx ((k:Int)+1)
   rw[decide_eq_true hf] at this;exact this
  have hfd:Hid (frameD bs ((k:Int)+1)=(bs[k].2,0)):=by
   unfold Hid frameD
   rw[if_pos hf]
   have:((k:Int)+1).toNat-1=k:=by omega
   rw[this];simp[hk]
  have hzk:=hz _ (List.getElem_mem hk)
  obtain ⟨g,c,rfl⟩:=own_some HC1.out.fr (by omega)
  have c3:W1.cell? ⟨x,3,none⟩=some (.slice (some ⟨g,0,none⟩) bs.length c):=(HC1.out.blk.cell 3).trans rfl
  have cs:W1.cell? ⟨g,k*2+1,none⟩=some (.string bs[k].2):=by
   rw[HC1.out.fr.cellAt (k*2+1) (by omega)];exact (frV_at bs k hk).2
  have hcap:bs.length<=c:=by
   obtain ⟨ao,c',e1,e2⟩:=HC1.out.fvS
   simp only[Value.slice.injEq] at e1
   omega
  rw[hfd.out]
  generalize bs[k].2=bt at *
  have HCl:Hid (_):=CloneB_any bt W1 hzk
  clear hf hz hfd
  go_enter_defers Tryz.func28,Tryz.ntmps28
  go_wp2_with (go_at_call 43;refine (lock_free YtfmmllpjgkgeaaaGreatDoor.muLib ⟨x,0,none⟩ _ k0 z0).mono ?_;rintro e w' ⟨rfl,rfl⟩)
  rw[HW1.out]
  refine Calls.mono (HS.out _ HC1.out) ?_
  rintro e w2 ⟨rfl,rfl⟩
  clear HS
  go_wp2_with fail
  refine Calls.mono HCl.out ?_
  rintro e w3 ⟨rfl,hb3⟩
  have HC3:Hid (CluP w3 x q cap (.slice (some ⟨g,0,none⟩) bs.length c) 1 ds bs):=HC1.out.below hb3
  have Hch3:Hid (Chg (fun k=>k=x) w w3):=Hch.out.below hb3
  clear HCl hb3 c3 cs
  go_wp2_with fail
  refine leaves_cons (f:=44) (args:=#[.pointer (some ⟨x,0,none⟩)]) (by simp) (by simp[go_sem]) ?_
  refine (unlock_deferred YtfmmllpjgkgeaaaGreatDoor.muLib ⟨x,0,none⟩ .returning _ ((HC3.out.blk.cell 0).trans rfl) (HC3.out.blk.frozen 0)).mono ?_
  rintro e u' w9 ⟨rfl,rfl,rfl⟩
  exact ⟨_,results_tmp2 rfl _ _ _,rfl,HC3.out.turn 0,Chg.setCell (M:=fun k=>k=x) (p:=⟨x,0,none⟩) Hch3.out rfl _⟩
 ·have HS:Hid (∀ wx,CluP wx x q cap fv 1 ds bs->Calls Tryz.prog 55 #[.pointer (some ⟨x,0,none⟩),.int .i64 f] wx fun e w'=>e=.returned (.bool false)/\w'=wx):=fun wx hx=>by
   have:=isSent_any wx x q cap fv 1 ds bs hx f
   rw[decide_eq_false hf] at this;exact this
  have hfd:frameD bs f=(⟨#[]⟩,9):=by unfold frameD;rw[if_neg hf]
  rw[hfd]
  clear hf hz hfd
  go_enter_defers Tryz.func28,Tryz.ntmps28
  go_wp2_with (go_at_call 43;refine (lock_free YtfmmllpjgkgeaaaGreatDoor.muLib ⟨x,0,none⟩ _ k0 z0).mono ?_;rintro e w' ⟨rfl,rfl⟩)
  rw[HW1.out]
  refine Calls.mono (HS.out _ HC1.out) ?_
  rintro e w2 ⟨rfl,rfl⟩
  clear HS
  go_wp2_with fail
  refine leaves_cons (f:=44) (args:=#[.pointer (some ⟨x,0,none⟩)]) (by simp) (by simp[go_sem]) ?_
  refine (unlock_deferred YtfmmllpjgkgeaaaGreatDoor.muLib ⟨x,0,none⟩ .returning _ ((HC1.out.blk.cell 0).trans rfl) (HC1.out.blk.frozen 0)).mono ?_
  rintro e u' w9 ⟨rfl,rfl,rfl⟩
  exact ⟨_,results_tmp2 rfl _ _ _,rfl,HC1.out.turn 0,Chg.setCell (M:=fun k=>k=x) (p:=⟨x,0,none⟩) Hch.out rfl _⟩
end Go.Proofs.YtfmmllpjgkgeaaaGreatDoor

