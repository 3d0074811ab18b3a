import Derived.Test.YtfmmllpjgkgeaaaGreatDoorPart31
set_option linter.unusedVariables false
set_option linter.unusedSimpArgs false
namespace Go.Proofs.YtfmmllpjgkgeaaaGreatDoor
open Go.RowKit Go.Maps Go.WideMaps Go.MuLone Go.Deep

theorem come_up {w:World} {x q cap:Nat} {fv:Value} {st:Int} {ds:List RepD} {bs:List (Nat × ByteArray)} (hC:CluP w x q cap fv st ds bs) {k:Nat} (hk:k<ds.length) :
  Calls Tryz.prog 45 #[.pointer (some ⟨x,0,none⟩),.slice (some ⟨w.heap.size,0,none⟩) 1 1] (w.alloc (.cells #[.int .i64 (k:Int)] 3)) fun e w'=>e=.returned (.int .i64 0)/\Below w.heap.size w w':=by
 have hb:Below w.heap.size w (w.alloc (.cells #[.int .i64 (k:Int)] 3)):=(Below.refl _ w).alloc (Nat.le_refl _) _
 have hn:namedR ds.length (k:Int)=0:=by unfold namedR;rw[if_pos (by omega)]
 have:=named_any (w.alloc (.cells #[.int .i64 (k:Int)] 3)) x q cap fv st ds bs (hC.below hb) w.heap.size (k:Int) (((Blk.new w #[.int .i64 (k:Int)] 3).cell 0).trans rfl)
 rw[hn] at this
 refine Calls.mono this ?_
 rintro e w' ⟨rfl,rfl⟩
 exact ⟨rfl,hb⟩

set_option maxHeartbeats 4000000 in
set_option maxRecDepth 100000 in
theorem come_bad (w:World) (x q cap:Nat) (fv:Value) (ds:List RepD) (bs:List (Nat × ByteArray)) (hC:CluP w x q cap fv 1 ds bs) (k:Nat) (hk:k<ds.length) (s:ByteArray) (hsz:s.size<=900000) (hs:unsealL (toL s)=none) :
  Calls Tryz.prog 57 #[.pointer (some ⟨x,0,none⟩),.int .i64 (k:Int),.string s] w fun e w'=>e=.returned (.tuple #[.int .i64 0,.int .i64 9])/\Below w.heap.size w w':=by
 have HU:Hid (_):=come_up hC hk
 have HR:Hid (∀ wx,Below w.heap.size w wx->Calls Tryz.prog 101 #[.string s] wx fun e w'=>e=.returned (.tuple #[.agg #[.int .i64 0,.int .i64 0,.bool false,.map none,.map none,.map none],.bool false])/\Below w.heap.size w w'):=fun wx hb=>by
  refine Calls.mono (fRead_bad wx s hsz hs) ?_
  rintro e w' ⟨rfl,h1⟩
  exact ⟨rfl,hb.trans (h1.mono hb.size)⟩
 clear hC hs
 go_enter Tryz.func57,Tryz.ntmps57
 go_wp2_with fail
 refine Calls.mono HU.out ?_
 rintro e w1 ⟨rfl,hb1⟩
 go_wp2_with fail
 refine Calls.mono (HR.out _ hb1) ?_
 rintro e w2 ⟨rfl,hb2⟩
 have HB:Hid (∀ ob,Below w.heap.size w (w2.alloc ob)):=fun ob=>hb2.alloc hb2.size ob
 clear HR HU hb1 hb2
 go_wp2_with fail
 go_ret2
 exact ⟨rfl,HB.out _⟩

def RD.ack (r:RD) (j m:Nat):RD:={ r with pv:=r.pv,dr:=r.dr,A:=(fun x=>if x=j then max (r.A j) m else r.A x),ps:=r.ps }
theorem ack_renews (B:Nat) (r:RD) (j m:Nat):Renews B r (r.ack j m):=⟨rfl,rfl,rfl,rfl,fun b hb=>Or.inl hb⟩

set_option maxHeartbeats 4000000 in
set_option maxRecDepth 100000 in
theorem come_ack (w:World) (x q cap:Nat) (fv:Value) (ds:List RepD) (bs:List (Nat × ByteArray)) (hC:CluP w x q cap fv 1 ds bs) (k:Nat) (hk:k<ds.length) (s:ByteArray) (a m:Nat) (ha:a<ds.length) (hak:a≠k) (hm:m<=505) (hs:toL s=sealL (encAm a m)) :
  Calls Tryz.prog 57 #[.pointer (some ⟨x,0,none⟩),.int .i64 (k:Int),.string s] w fun e w'=>e=.returned (.tuple #[.int .i64 0,.int .i64 0])/\CluP w' x q cap fv 1 (ds.set k (ds[k].ack a m)) bs/\Chg ds[k].own w w':=by
 have HU:Hid (_):=come_up hC hk
 have ha5:a<=5:=by have:=hC.len;omega
 have hnb:a∈ds[k].nb:=((hC.ra k hk).2.2 a).2 ⟨ha,hak⟩
 have HC:Hid (CluP w x q cap fv 1 ds bs):=hC
 have HR:Hid (∀ wx,Below w.heap.size w wx->Calls Tryz.prog 101 #[.string s] wx fun e w'=>e=.returned (.tuple #[.agg #[.int .i64 (a:Int),.int .i64 (m:Int),.bool true,.map none,.map none,.map none],.bool true])/\Below w.heap.size w w'):=fun wx hb=>by
  refine Calls.mono (fRead_ack wx s a m ha5 hm hs) ?_
  rintro e w' ⟨rfl,h1⟩
  exact ⟨rfl,hb.trans (h1.mono hb.size)⟩
 clear hC hs
 go_enter Tryz.func57,Tryz.ntmps57
 go_wp2_with fail
 refine Calls.mono HU.out ?_
 rintro e w1 ⟨rfl,hb1⟩
 go_wp2_with fail
 refine Calls.mono (HR.out _ hb1) ?_
 rintro e w2 ⟨rfl,hb2⟩
 obtain ⟨W,hW⟩:∃ W,W=w2.alloc (.cells #[.int .i64 (a:Int),.int .i64 (m:Int),.bool true,.map none,.map none,.map none] 104):=⟨_,rfl⟩
 have hbW:Below w.heap.size w W:=by rw[hW];exact hb2.alloc hb2.size _
 have kf:Blk W w2.heap.size #[.int .i64 (a:Int),.int .i64 (m:Int),.bool true,.map none,.map none,.map none] 104:=by rw[hW];exact Blk.new w2 _ _
 have hCW:=HC.out.below hbW
 have c2:W.cell? ⟨x,2,none⟩=some (.slice (some ⟨q,0,none⟩) ds.length cap):=(hCW.blk.cell 2).trans rfl
 have cq:=hCW.cell k hk
 have f0:=(kf.cell 0).trans rfl
 have f1:=(kf.cell 1).trans rfl
 have f2:=(kf.cell 2).trans rfl
 have f3:=(kf.cell 3).trans rfl
 have f4:=(kf.cell 4).trans rfl
 have f5:=(kf.cell 5).trans rfl
 have hkc:=hCW.cap
 have HA:Hid (∀ wx,wx.heap=W.heap->wx.os=W.os->wx.tape=W.tape->wx.output=W.output->Calls Tryz.prog 102 #[.pointer (some ⟨ds[k].rb,0,none⟩),.agg #[.int .i64 (a:Int),.int .i64 (m:Int),.bool true,.map none,.map none,.map none]] wx fun e w'=>e=.returned (.tuple #[])/\(CluP w' x q cap fv 1 (ds.set k (ds[k].ack a m)) bs/\Chg ds[k].own w w')):=fun wx hx ho ht hp=>by
  have hbx:Below W.heap.size W wx:=⟨ho,ht,hp,by rw[hx];exact Nat.le_refl _,fun k _=>by rw[hx]⟩
  have hcl:=hCW.below hbx
  refine Calls.mono (rAck_any wx ds[k] (hcl.rep k hk) a m none none none true hnb (by omega)) ?_
  rintro e w' ⟨rfl,h1,h2⟩
  exact ⟨rfl,hcl.renew k hk h1 (ack_renews _ _ _ _) h2,(Chg.of_below (hbW.trans (hbx.mono hbW.size))).trans h2⟩
 have HW:Hid (W=w2.alloc (.cells #[.int .i64 (a:Int),.int .i64 (m:Int),.bool true,.map none,.map none,.map none] 104)):=hW
 have hkI:(k:Int)<(ds.length:Int):=by omega
 generalize ds[k].rb=rbk at *
 clear HR HU hb1 hb2 hW hbW kf hCW HC hnb ha hak
 go_wp2_with fail
 rw[<- HW.out]
 go_region_with (first | (go_at_call 102;refine Calls.mono (HA.out _ rfl rfl rfl rfl) ?_;rintro e w4 ⟨rfl,h4⟩))
 all_goals
  go_wp2_with fail
  go_ret2
  exact ⟨rfl,h4⟩

def RecD (B:Nat) (ds:List RepD) (k:Nat) (hk:k<ds.length) (fr:Nat) (K:Nat->Nat) (C:Nat->Option Thk.Ch) (ds':List RepD):Prop :=
 ((∀ d,1<=nth d->¬newD ds[k] K C d)/\ds'=ds)\/((∃ d,1<=nth d/\newD ds[k] K C d)/\∃ r',MoreD B ds[k] fr K C r'/\ds'=ds.set k r')

set_option maxHeartbeats 4000000 in
set_option maxRecDepth 100000 in
theorem come_full (w:World) (hG:Glob w) (x q cap:Nat) (fv:Value) (ds:List RepD) (bs:List (Nat × ByteArray)) (hC:CluP w x q cap fv 1 ds bs) (k:Nat) (hk:k<ds.length) (s:ByteArray) (a m:Nat) (ha:a<=5) (hm:m<=505) (S2:Nat->Prop) (C2:Nat->Option Thk.Ch) (rs:List (Nat × Nat)) (its:List (Nat × Thk.Bs)) (hs:toL s=sealL (encFm a m rs its)) (he:EncOf S2 C2 rs its) (hsz:s.size<=900000) (h5:500<=bs.length) :
  Calls Tryz.prog 57 #[.pointer (some ⟨x,0,none⟩),.int .i64 (k:Int),.string s] w fun e w'=>e=.returned (.tuple #[.int .i64 0,.int .i64 7])/\Below w.heap.size w w':=by
 have HU:Hid (_):=come_up hC hk
 have HC:Hid (CluP w x q cap fv 1 ds bs):=hC
 have HR:Hid (∀ wx,Below w.heap.size w wx->Calls Tryz.prog 101 #[.string s] wx fun e w'=>∃ ib cb lb,e=.returned (.tuple #[.agg #[.int .i64 (a:Int),.int .i64 (m:Int),.bool false,.map (some ib),.map (some cb),.map (some lb)],.bool true])/\Below w.heap.size w w'):=fun wx hb=>by
  refine Calls.mono (fRead_brings wx (hG.mono hb) s a m ha hm rs its hs hsz he.r505 he.ro he.i505 he.io) ?_
  rintro e w' ⟨ib,cb,lb,rfl,_,_,h1⟩
  exact ⟨ib,cb,lb,rfl,hb.trans (h1.mono hb.size)⟩
 have HS:Hid (∀ wx,CluP wx x q cap fv 1 ds bs->Calls Tryz.prog 52 #[.pointer (some ⟨x,0,none⟩)] wx fun e w'=>e=.returned (.bool true)/\w'=wx):=fun wx hx=>by
  have:=allSent_any wx x q cap fv 1 ds bs hx
  rw[decide_eq_true h5] at this;exact this
 clear hC hs he h5 hG
 go_enter Tryz.func57,Tryz.ntmps57
 go_wp2_with fail
 refine Calls.mono HU.out ?_
 rintro e w0 ⟨rfl,hb0⟩
 go_wp2_with fail
 refine Calls.mono (HR.out _ hb0) ?_
 rintro e w1 ⟨ib,cb,lb,rfl,hb1⟩
 have HB:Hid (∀ ob,Below w.heap.size w (w1.alloc ob)):=fun ob=>hb1.alloc hb1.size ob
 clear HR HU hb0 hb1
 go_wp2_with fail
 refine Calls.mono (HS.out _ (HC.out.below (HB.out _))) ?_
 rintro e w2 ⟨rfl,rfl⟩
 go_wp2_with fail
 go_ret2
 exact ⟨rfl,HB.out _⟩

end Go.Proofs.YtfmmllpjgkgeaaaGreatDoor

