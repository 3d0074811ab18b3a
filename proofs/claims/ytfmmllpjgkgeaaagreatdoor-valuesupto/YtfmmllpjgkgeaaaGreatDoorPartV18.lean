import Derived.Test.YtfmmllpjgkgeaaaGreatDoorPartV11
set_option linter.unusedVariables false
set_option linter.unusedSimpArgs false
set_option maxHeartbeats 16000000
set_option maxRecDepth 100000
namespace Go.Proofs.YtfmmllpjgkgeaaaGreatDoor
open Go.RowKit Go.Maps Go.WideMaps Go.Shelf

attribute [local go_sem] Oper.semAt_some

def itOf (C:Nat->Option Thk.Ch):Nat->Option Value:=fun n=>(C n).map chV

def BlkR (w:World) (rb a:Nat) (io co lo:Option Nat):Prop:=∃ (kb db:Nat) (dn:Bool),Blk w rb #[.int .i64 (a:Int),.map io,.map co,.map lo,.pointer (some ⟨kb,0,none⟩),.pointer (some ⟨db,0,none⟩),.bool dn] 125
section
variable {w w':World} {rb a:Nat} {io co lo:Option Nat}
theorem BlkR.cell (h:BlkR w rb a io co lo) (j:Nat) (hj:j<4:=by decide):w.cell? ⟨rb,j,none⟩=(#[.int .i64 (a:Int),.map io,.map co,.map lo]:Array Value)[j]?:=by
 obtain ⟨kb,db,dn,h⟩:=h
 rw[h.cell j]
 match j,hj with
 | 0,_=>rfl
 | 1,_=>rfl
 | 2,_=>rfl
 | 3,_=>rfl
theorem BlkR.lt (h:BlkR w rb a io co lo):rb<w.heap.size:=by obtain ⟨_,_,_,h⟩:=h;exact h.lt
theorem BlkR.chg {M:Nat->Prop} (h:BlkR w rb a io co lo) (hc:Chg M w w') (hm:¬M rb):BlkR w' rb a io co lo:=by obtain ⟨kb,db,dn,h⟩:=h;exact ⟨kb,db,dn,h.chg hc hm⟩
theorem BlkR.below (h:BlkR w rb a io co lo) (hb:Below w.heap.size w w'):BlkR w' rb a io co lo:=by obtain ⟨kb,db,dn,h⟩:=h;exact ⟨kb,db,dn,h.below hb⟩
theorem BlkR.alloc (h:BlkR w rb a io co lo) (o:Obj):BlkR (w.alloc o) rb a io co lo:=by obtain ⟨kb,db,dn,h⟩:=h;exact ⟨kb,db,dn,h.alloc o⟩
theorem BlkR.heap (h:BlkR w rb a io co lo) (e:w'.heap[rb]? = w.heap[rb]?):BlkR w' rb a io co lo:=by obtain ⟨kb,db,dn,h⟩:=h;exact ⟨kb,db,dn,e.trans h⟩
end

structure RepP (w:World) (rb a:Nat) (io co lo:Option Nat) (K:Nat->Nat) (C:Nat->Option Thk.Ch):Prop where
 blk:BlkR w rb a io co lo
 st:StoreR w (.map io) (.map co) (.map lo) (fun d=>nth d<=K (who d)) (itOf C)
 ok:∀ k c,C k=some c->c.path.length<=1048576
 k500:∀ x,K x<=500
 a5:a<=5
theorem RepP.chg {M:Nat->Prop} {w w':World} {rb a:Nat} {io co lo:Option Nat} {K:Nat->Nat} {C:Nat->Option Thk.Ch} (h:RepP w rb a io co lo K C) (hc:Chg M w w') (h1:¬M rb) (h2:∀ b,io=some b\/co=some b\/lo=some b->¬M b):RepP w' rb a io co lo K C :=
 ⟨h.blk.chg hc h1,h.st.chg hc (fun b hb=>h2 b (by rcases hb with h | h | h <;> cases h <;> simp)),h.ok,h.k500,h.a5⟩
theorem RepP.below {w w':World} {rb a:Nat} {io co lo:Option Nat} {K:Nat->Nat} {C:Nat->Option Thk.Ch} (h:RepP w rb a io co lo K C) (hb:Below w.heap.size w w'):RepP w' rb a io co lo K C:=h.chg (M:=fun _=>False) (Chg.of_below hb) (fun h=>h) (fun _ _ h=>h)
theorem itOf_v {C:Nat->Option Thk.Ch} {n:Nat} {v:Value} (h:itOf C n=some v):∃ c,C n=some c/\v=chV c:=by
 unfold itOf at h
 cases hc:C n with
 | none=>rw[hc] at h;cases h
 | some c=>rw[hc] at h;cases h;exact ⟨c,rfl,rfl⟩
theorem itOf_item {C:Nat->Option Thk.Ch} {n:Nat} {v:Value} (h:itOf C n=some v):ItemV v:=by
 obtain ⟨c,_,rfl⟩:=itOf_v h;exact ⟨_,_,_,_,rfl⟩
theorem itOf_none {C:Nat->Option Thk.Ch} {n:Nat} : itOf C n≠none↔C n≠none:=by unfold itOf;cases C n <;> simp

def covC (dp:Thk.Bs) (da:UInt8) (dv:Thk.Bs) (c:Thk.Ch):Bool:=covB dp da dv c.path c.act (toL (keptVal c.act ⟨c.val.toArray⟩))
end Go.Proofs.YtfmmllpjgkgeaaaGreatDoor
namespace Go.Proofs.YtfmmllpjgkgeaaaGreatDoor
open Go.RowKit Go.Maps Go.WideMaps Go.Shelf

attribute [local go_sem] Oper.semAt_some

def covOf (dp:Thk.Bs) (da:UInt8) (dv:Thk.Bs) (C:Nat->Option Thk.Ch) (xs:List Itm):List Nat:=(xs.filter (fun x=>match C x.n with | some c=>covC dp da dv c | none=>false)).map Itm.n
theorem covOf_snoc (dp:Thk.Bs) (da:UInt8) (dv:Thk.Bs) (C:Nat->Option Thk.Ch) (xs:List Itm) (x:Itm) (c:Thk.Ch) (hc:C x.n=some c):covOf dp da dv C (xs ++ [x])=covOf dp da dv C xs ++ (if covC dp da dv c=true then [x.n] else []):=by
 unfold covOf
 rw[List.filter_append,List.map_append]
 congr 1
 simp only[List.filter_cons,List.filter_nil,hc]
 split <;> simp

theorem covered_any (w:World) (rb a:Nat) (io co lo:Option Nat) (K:Nat->Nat) (C:Nat->Option Thk.Ch) (hR:RepP w rb a io co lo K C) (dp dv:ByteArray) (da:UInt8) (dn:Int) (hdp:dp.size<=1048576) (m:Int) (hm:w.cell? ⟨0,0,none⟩=some (.int .i64 m)) :
  Calls Tryz.prog 89 #[.pointer (some ⟨rb,0,none⟩),.agg #[.string dp,.int .u8 (da.toNat:Int),.string dv,.int .i64 dn]] w fun e w'=>∃ v ns,e=.returned v/\SliceD w' v ns/\ns.length<=4000/\(∀ k,k∈ns↔∃ c,C k=some c/\covC (toL dp) da (toL dv) c=true)/\Below w.heap.size w w':=by
 obtain ⟨i0,hi,hz0,hz1,hz2⟩:=info_parts Tryz.infoDot
 have r0:=(hR.blk.cell 1).trans rfl
 have r1:=(hR.blk.cell 2).trans rfl
 have r2:=(hR.blk.cell 3).trans rfl
 have hrl:=hR.blk.lt
 have h0l:0<w.heap.size:=block_lt_of_cell hm
 have r0A:∀ o o',((w.alloc o).alloc o').cell? ⟨rb,1,none⟩=some (.map io):=fun o o'=>(((hR.blk.alloc o).alloc o').cell 1).trans rfl
 have r1A:∀ o o',((w.alloc o).alloc o').cell? ⟨rb,2,none⟩=some (.map co):=fun o o'=>(((hR.blk.alloc o).alloc o').cell 2).trans rfl
 have r2A:∀ o o',((w.alloc o).alloc o').cell? ⟨rb,3,none⟩=some (.map lo):=fun o o'=>(((hR.blk.alloc o).alloc o').cell 3).trans rfl
 have HR:Hid (RepP w rb a io co lo K C):=hR
 have hmB:Hid (∀ wx,Below w.heap.size w wx->wx.cell? ⟨0,0,none⟩=some (.int .i64 m)):=fun wx hx=>(hx.cell (p:=⟨0,0,none⟩) h0l).trans hm
 have HAll:Hid (∀ wx,Calls Tryz.prog 148 #[.agg #[.map io,.map co,.map lo]] wx _):=fun wx=>All_any wx io co lo
 clear hR hm
 refine (callsIn_wide (n:=3)).1 ?_
 refine callsIn_of_wp_marks Tryz.func89 rfl trivial ?_ rfl
 simp only[Tryz.ntmps89,List.size_toArray,List.length_cons,List.length_nil,Nat.reduceAdd,Nat.reduceSub,Array.replicate_succ,Array.replicate_zero,List.push_toArray,List.append_toArray,List.nil_append,List.cons_append]
 gi_wp2_with fail
 refine ⟨trivial,(callsIn_wide.2 (HAll.out _)).mono ?_⟩
 rintro e w1 ⟨rfl,rfl⟩
 gi_wp2_with fail
 have hb3:Below w.heap.size w (((w.alloc (.cells #[.string dp,.int .u8 (da.toNat:Int),.string dv,.int .i64 dn] 86)).alloc (.cells #[.slice none 0 0] 137)).alloc (.cells #[.map io,.map co,.map lo] 102)):=((((Below.refl _ w).alloc (Nat.le_refl _) _).alloc (by simp) _).alloc (by simp;omega) _)
 have kc:Blk (((w.alloc (.cells #[.string dp,.int .u8 (da.toNat:Int),.string dv,.int .i64 dn] 86)).alloc (.cells #[.slice none 0 0] 137)).alloc (.cells #[.map io,.map co,.map lo] 102)) w.heap.size #[.string dp,.int .u8 (da.toNat:Int),.string dv,.int .i64 dn] 86:=((Blk.new w _ _).alloc _).alloc _
 have kf:Blk (((w.alloc (.cells #[.string dp,.int .u8 (da.toNat:Int),.string dv,.int .i64 dn] 86)).alloc (.cells #[.slice none 0 0] 137)).alloc (.cells #[.map io,.map co,.map lo] 102)) (w.heap.size+1) #[.slice none 0 0] 137:=by
  have:=(Blk.new (w.alloc (.cells #[.string dp,.int .u8 (da.toNat:Int),.string dv,.int .i64 dn] 86)) #[.slice none 0 0] 137).alloc (.cells #[.map io,.map co,.map lo] 102)
  rwa [World.size_alloc] at this
 have ks:Blk (((w.alloc (.cells #[.string dp,.int .u8 (da.toNat:Int),.string dv,.int .i64 dn] 86)).alloc (.cells #[.slice none 0 0] 137)).alloc (.cells #[.map io,.map co,.map lo] 102)) (w.heap.size+2) #[.map io,.map co,.map lo] 102:=by
  have:=Blk.new ((w.alloc (.cells #[.string dp,.int .u8 (da.toNat:Int),.string dv,.int .i64 dn] 86)).alloc (.cells #[.slice none 0 0] 137)) #[.map io,.map co,.map lo] 102
  simp only[World.size_alloc] at this
  exact this
 generalize (((w.alloc (.cells #[.string dp,.int .u8 (da.toNat:Int),.string dv,.int .i64 dn] 86)).alloc (.cells #[.slice none 0 0] 137)).alloc (.cells #[.map io,.map co,.map lo] 102))=w3 at *
 have hIt:Iter Tryz.prog 202 #[.pointer (some ⟨w.heap.size+2,0,none⟩)] (fun x:Itm=>#[dotE x.n,Value.agg #[.string x.p,.int .u8 x.a,.string x.v,.int .i64 x.m]]) (SAll (itOf C)) (fun k=>k=w.heap.size+2\/io=some k) w3:=by
  obtain ⟨N,hN⟩:=HR.out.st.its
  exact All1_iter w3 (w.heap.size+2) io co lo (itOf C) N ks (hN.below hb3) (fun k hk=>(HR.out.st.ok k hk).1) (fun k v h=>itOf_item h)
 have hiol:∀ k,io=some k->k<w.heap.size:=fun k hk=>HR.out.st.lt k (Or.inl (by rw[hk]))
 have hs3:w.heap.size+2<w3.heap.size:=ks.lt
 have hlen:∀ ys pre:List Itm,SAll (itOf C) ys->pre <+: ys->(covOf (toL dp) da (toL dv) C pre).length<=3072:=fun ys pre hy hp=>by
  have h1:=nodup_lt 3072 (ys.map Itm.n) hy.1.1 (fun k hk=>okD_lt (HR.out.st.ok k ((hy.1.2 k).1 hk)).1)
  have h2:(covOf (toL dp) da (toL dv) C pre).length<=pre.length:=by unfold covOf;rw[List.length_map];exact List.length_filter_le _ _
  have h3:=hp.length_le
  simp at h1
  omega
 refine range_iter (gf:=202) (lb:=#[.pointer (some ⟨w.heap.size+2,0,none⟩)]) rfl (enters_of Tryz.func202 (by kernel_rfl) rfl) hIt (KeepT.refl _ _) (fun k hk=>by rcases hk with rfl | hk;exact hs3;have:=hiol k hk;omega) (fun _=>rfl)
  (fun T pre W=>Coll w (w.heap.size+1) 137 134 2 (dcells (covOf (toL dp) da (toL dv) C pre)) (covOf (toL dp) da (toL dv) C pre).length T W/\Blk W w.heap.size #[.string dp,.int .u8 (da.toNat:Int),.string dv,.int .i64 dn] 86/\¬T w.heap.size) (fun _ _ _ _=>False)
  (fun T T' pre W W' h hc hT=>⟨h.1.stab hc hT,h.2.1.chg hc h.2.2,fun hk=>by rcases (hT _ hk).1 with h1 | h1;exact h.2.2 h1;have:=h.2.1.lt;omega⟩) (fun _ _ _ _ _ _ h _ _=>h)
  ⟨⟨_,kf,World.ownsRow_nil _ _ _ _,fun h=>h,fun _ _ h=>h,hb3,fun _ h=>h.elim,by omega⟩,kc,fun h=>h⟩ ?round ?done ?stop
 case round =>
  rintro l T pre x W hTl hT ⟨⟨v,hC⟩,hkc,hTw⟩ hEW ⟨ys,hys,hpre⟩
  have hxy:x∈ys:=hpre.subset (by simp)
  obtain ⟨c,hc,hveq⟩:=itOf_v (hys.2 x hxy)
  have hcl:=HR.out.ok _ _ hc
  have hln:(covOf (toL dp) da (toL dv) C (pre ++ [x])).length<=3072:=hlen ys _ hys hpre
  rw[covOf_snoc _ _ _ _ _ _ _ hc] at hln
  have Hsn:Hid (covOf (toL dp) da (toL dv) C (pre ++ [x])=covOf (toL dp) da (toL dv) C pre ++ (if covC (toL dp) da (toL dv) c=true then [x.n] else [])):=covOf_snoc _ _ _ _ _ _ _ hc
  obtain ⟨xn,xp,xa,xv,xm⟩:=x
  simp only[chV,Value.agg.injEq] at hveq
  simp at hveq
  obtain ⟨rfl,rfl,rfl,rfl⟩:=hveq
  simp only at hc hln Hsn
  gi_wp2
  have hsW:w.heap.size+2<W.heap.size:=by have:=hEW.1;omega
  refine ⟨⟨by simp;omega,fun k hk=>?_⟩, ?_⟩
  ·refine (((Below.refl W.heap.size W).alloc (Nat.le_refl _) _).alloc (by simp) _).block k (hk.elim (fun h=>?_) (fun h=>(hT k h).2))
   rcases h with rfl | h
   ·omega
   ·have:=hiol k h;omega
  intro W2 hc2 hs2 hE2
  have hTs:∀ k,T k->k<W2.heap.size:=fun k hk=>by rw[hs2];have:=(hT k hk).2;simp;omega
  have hch:Chg T W W2:=(Chg.of_below ((((Below.refl W.heap.size W).alloc (Nat.le_refl _) _).alloc (by simp) _))).trans hc2
  have hC2:=hC.stab hch (fun k hk=>⟨Or.inl hk,hTs k hk⟩)
  have hkc2:Blk W2 w.heap.size #[.string dp,.int .u8 (da.toNat:Int),.string dv,.int .i64 dn] 86:=hkc.chg hch hTw
  have kd:Blk W2 W.heap.size #[.int .i64 (who xn:Int),.int .i64 (nth xn:Int)] 134:=((Blk.new W _ _).alloc _).chg hc2 (fun hk=>by have:=(hT _ hk).2;omega)
  have ke:Blk W2 (W.heap.size+1) #[.string ⟨c.path.toArray⟩,.int .u8 (c.act.toNat:Int),.string (keptVal c.act ⟨c.val.toArray⟩),.int .i64 c.n] 86:=by
   have:=Blk.new (W.alloc (.cells #[.int .i64 (who xn:Int),.int .i64 (nth xn:Int)] 134)) #[.string ⟨c.path.toArray⟩,.int .u8 (c.act.toNat:Int),.string (keptVal c.act ⟨c.val.toArray⟩),.int .i64 c.n] 86
   rw[World.size_alloc] at this
   exact this.chg hc2 (fun hk=>by have:=(hT _ hk).2;omega)
  have a0:=(hkc2.cell 0).trans rfl
  have a1:=(hkc2.cell 1).trans rfl
  have a2:=(hkc2.cell 2).trans rfl
  have a3:=(hkc2.cell 3).trans rfl
  have b0:=(ke.cell 0).trans rfl
  have b1:=(ke.cell 1).trans rfl
  have b2:=(ke.cell 2).trans rfl
  have b3:=(ke.cell 3).trans rfl
  have Hcov:Hid (_):=Covers_any dp dv ⟨c.path.toArray⟩ (keptVal c.act ⟨c.val.toArray⟩) da c.act dn c.n m W2 hdp (by show c.path.toArray.size<=_;simpa using hcl) (hmB.out _ hC2.below)
  have HC2:Hid (CollV w (w.heap.size+1) 137 134 2 (dcells (covOf (toL dp) da (toL dv) C pre)) (covOf (toL dp) da (toL dv) C pre).length T W2 v):=hC2
  have Hk2:Hid (Blk W2 w.heap.size #[.string dp,.int .u8 (da.toNat:Int),.string dv,.int .i64 dn] 86/\Blk W2 W.heap.size #[.int .i64 (who xn:Int),.int .i64 (nth xn:Int)] 134):=⟨hkc2,kd⟩
  have HE2:Hid (KeepT (fun k=>k=w.heap.size+2\/io=some k) w3 W2):=hE2
  have hsW2:w.heap.size+2<W2.heap.size:=by have:=hE2.1;omega
  clear hC hC2 hkc hkc2 kd ke hch hc2 hs2 hE2 hEW
  gi_wp2_with fail
  refine ⟨trivial,CallsIn.inRound l ((callsIn_wide.2 Hcov.out).mono ?_)⟩
  rintro e w4 ⟨rfl,hb4⟩
  have hcv:covB (toL dp) da (toL dv) (toL ⟨c.path.toArray⟩) c.act (toL (keptVal c.act ⟨c.val.toArray⟩))=covC (toL dp) da (toL dv) c:=by unfold covC toL;simp
  rw[hcv]
  have hT4:∀ k,T k->k<w4.heap.size:=fun k hk=>Nat.lt_of_lt_of_le (hTs k hk) hb4.size
  have HC4:Hid (CollV w (w.heap.size+1) 137 134 2 (dcells (covOf (toL dp) da (toL dv) C pre)) (covOf (toL dp) da (toL dv) C pre).length T w4 v):=HC2.out.stab (Chg.of_below hb4) (fun k hk=>⟨Or.inl hk,hT4 k hk⟩)
  have Hk4:Hid (Blk w4 w.heap.size #[.string dp,.int .u8 (da.toNat:Int),.string dv,.int .i64 dn] 86):=Hk2.out.1.below hb4
  have Hkp4:Hid (KeepT (fun k=>(k=w.heap.size+2\/io=some k)\/T k) W2 w4):=⟨hb4.size,fun k hk=>hb4.block k (hk.elim (fun h=>by rcases h with rfl | h;exact hsW2;have:=hiol k h;omega) (hTs k))⟩
  have c0:=HC4.out.bx.cell
  have kd4:=Hk2.out.2.below hb4
  have d0:=(kd4.cell 0).trans rfl
  have d1:=(kd4.cell 1).trans rfl
  have HE4:Hid (∀ k,(k=w.heap.size+2\/io=some k)->k<w4.heap.size/\k≠w.heap.size+1/\v.ownBlock≠some k):=fun k hk=>by
   have hw4:=hb4.size
   have e1:w4.heap[k]? = w3.heap[k]?:=(hb4.block k (by rcases hk with rfl | h;exact hsW2;have:=hiol k h;omega)).trans (HE2.out.2 k hk)
   rcases hk with rfl | hk
   ·refine ⟨by omega,by omega,ownsRow_ne HC4.out.row (fun cur fz e=>?_)⟩
    rw[e1,show w3.heap[w.heap.size+2]? = _ from ks] at e
    cases e
   ·have:=hiol k hk
    refine ⟨by omega,by omega,fun e=>?_⟩
    have:=(HC4.out.row.lt k e).1
    omega
  clear hb4 kd4 Hcov a0 a1 a2 a3 b0 b1 b2 b3 HC2 Hk2 HE2
  cases hcc:covC (toL dp) da (toL dv) c with
  | false =>
   rw[hcc] at Hsn
   gi_wp2_with fail
   refine ⟨⟨?_,Hk4.out,hTw⟩,Hkp4.out⟩
   have h1:=Hsn.out
   simp only[Bool.false_eq_true,if_false,List.append_nil] at h1
   rw[h1]
   exact ⟨v,HC4.out⟩
  | true =>
   rw[hcc] at Hsn
   have hml:Hid ((covOf (toL dp) da (toL dv) C pre).length+1<=maxLen):=by
    simp only[hcc,if_true,List.length_append,List.length_singleton] at hln
    unfold Hid maxLen;omega
   have hmb:Hid (((covOf (toL dp) da (toL dv) C pre).length+1)*16<=140737488355328):=by
    simp only[hcc,if_true,List.length_append,List.length_singleton] at hln
    unfold Hid;omega
   have Hcn:Hid (∀ j u,([.int .i64 (who xn:Int),.int .i64 (nth xn:Int)]:List Value)[j]? = some u->(w4.alloc (.cells #[.int .i64 (who xn:Int),.int .i64 (nth xn:Int)] 134)).cell? ((⟨w4.heap.size,0,none⟩:Addr).add j)=some u):=fun j u hj=>by
    match j,hj with
    | 0,hj=>cases hj;simp[Addr.add]
    | 1,hj=>cases hj;simp[Addr.add]
   have hbs:w.heap.size<=w4.heap.size:=HC4.out.below.size
   gi_wp2_with (first | (gi_at_builtin;refine wpListIn_append_own_at _ rfl (.tmp 18) (.tmp 20) 137 rfl w.heap.size 134 i0 (.agg #[.int .i64 0,.int .i64 0]) 2 16 Tryz.underlying137 hi hz0 hz1 hz2 rfl (by decide) v _ _ rfl (HC4.out.row.alloc _) ⟨w4.heap.size,0,none⟩ 1 1 [.int .i64 (who xn:Int),.int .i64 (nth xn:Int)] rfl rfl Hcn.out (by simp[Value.oneCell']) hml.out hmb.out (by simp;omega) ?_;intro v' w5 hown' hg' _ hloc;have happ:=HC4.out.app2 (E:=fun k=>k=w.heap.size+2\/io=some k) (by decide) hown' hg' hloc hT4 HE4.out;obtain ⟨g',cap',rfl⟩:=ownsRow_succ hown';have hc1:=happ.1.cell;have hf1:=happ.1.frozen;have hk5:Blk w5 w.heap.size #[.string dp,.int .u8 (da.toNat:Int),.string dv,.int .i64 dn] 86:=(hg'.block w.heap.size (by simp;have:=Hk4.out.lt;omega) (fun e=>ownsRow_ne HC4.out.row (fun cur fz e2=>by rw[show w4.heap[w.heap.size]? = _ from Hk4.out] at e2;cases e2) e.symm)).trans (Hk4.out.alloc _)))
   refine ⟨⟨?_, ?_,hTw⟩,Hkp4.out.trans happ.2.2⟩
   ·have h1:=Hsn.out
    simp only[if_true] at h1
    rw[h1,dcells_snoc,List.length_append]
    exact ⟨_,happ.2.1⟩
   ·exact hk5.chg (M:=fun k=>k=w.heap.size+1) ((Chg.refl (fun k=>k=w.heap.size+1) w5).setCell (p:=⟨w.heap.size+1,0,none⟩) rfl _) (by omega)
 case done =>
  rintro D T xs W hD hTD hS' ⟨⟨v,hC⟩,hkc,hTw⟩ hT hK
  have c0:=hC.bx.cell
  have HC:Hid (CollV w (w.heap.size+1) 137 134 2 (dcells (covOf (toL dp) da (toL dv) C xs)) (covOf (toL dp) da (toL dv) C xs).length T W v):=hC
  clear hC hkc
  gi_wp2_with fail
  refine ⟨by simp,.inl ⟨_,_,rfl,run_takeDeferred hK, ?_⟩⟩
  have hl2:=hlen xs xs hS' (List.prefix_refl _)
  refine ⟨_,results_tmp rfl _ _ _,v,covOf (toL dp) da (toL dv) C xs,rfl, ?_,by omega,fun k=>?_, ?_⟩
  ·have hrow:=ownsRow_putObj HC.out.row (.deferred none) hK rfl
   obtain ⟨hx,⟨rfl,hn⟩ | ⟨g,cap,cur,rfl,hg,hh,hnc,_⟩⟩:=(id hrow:World.ownsRow _ _ _ _ _ _ _)
   ·exact Or.inl ⟨rfl,List.eq_nil_of_length_eq_zero hn⟩
   ·refine Or.inr ⟨g,0,cap,rfl,hnc,(hrow.lt g rfl).2,fun j hj=>?_⟩
    have:=dcells_get _ j hj
    rw[Nat.zero_add,hrow.cellAt (j*2) (by omega),hrow.cellAt (j*2+1) (by omega)]
    exact this
  ·unfold covOf
   simp only[List.mem_map,List.mem_filter]
   constructor
   ·rintro ⟨x,⟨hx,hcx⟩,rfl⟩
    cases hc:C x.n with
    | none=>rw[hc] at hcx;cases hcx
    | some c=>rw[hc] at hcx;exact ⟨c,rfl,hcx⟩
   ·rintro ⟨c,hc,hcc⟩
    have:k∈xs.map Itm.n:=(hS'.1.2 k).2 (itOf_none.2 (by rw[hc];simp))
    obtain ⟨x,hx,rfl⟩:=List.mem_map.1 this
    exact ⟨x,⟨hx,by rw[hc];exact hcc⟩,rfl⟩
  ·exact (HC.out.stab (T':=T) (chg_putObj W D (.deferred none) hTD) (fun k hk=>⟨Or.inl hk,by rw[size_putObj];exact (hT k hk).2⟩)).below
 case stop =>
  rintro D T c pre W _ _ h
  exact h.elim
end Go.Proofs.YtfmmllpjgkgeaaaGreatDoor
namespace Go.Proofs.YtfmmllpjgkgeaaaGreatDoor
open Go.RowKit Go.Maps Go.WideMaps

theorem RepP.ctx {w:World} {rb a:Nat} {io co lo:Option Nat} {K:Nat->Nat} {C:Nat->Option Thk.Ch} (h:RepP w rb a io co lo K C):CtxV w (.map co) (.map lo) K (fun _=>false):=h.st.ctx.first (fun _ _=>Iff.rfl)

theorem RepKnows_any (w:World) (rb a:Nat) (io co lo:Option Nat) (K:Nat->Nat) (C:Nat->Option Thk.Ch) (hR:RepP w rb a io co lo K C) :
  Calls Tryz.prog 46 #[.pointer (some ⟨rb,0,none⟩)] w fun e w'=>e=.returned (.int .i64 (sizeK K:Int))/\Below w.heap.size w w':=by
 have r0:=(hR.blk.cell 1).trans rfl
 have r1:=(hR.blk.cell 2).trans rfl
 have r2:=(hR.blk.cell 3).trans rfl
 have Hc:Hid (_):=Known_any w io co lo K hR.ctx
 clear hR
 go_enter Tryz.func46,Tryz.ntmps46
 go_wp2_with fail
 refine Calls.mono Hc.out ?_
 rintro e w1 ⟨rfl,hb⟩
 go_wp2
 go_ret
 exact ⟨rfl,hb⟩

theorem Made_any (w:World) (rb a:Nat) (io co lo:Option Nat) (K:Nat->Nat) (C:Nat->Option Thk.Ch) (hR:RepP w rb a io co lo K C) :
  Calls Tryz.prog 86 #[.pointer (some ⟨rb,0,none⟩)] w fun e w'=>e=.returned (.int .i64 (K a:Int))/\Below w.heap.size w w':=by
 have q0:=(hR.blk.cell 0).trans rfl
 have q1:=(hR.blk.cell 1).trans rfl
 have q2:=(hR.blk.cell 2).trans rfl
 have q3:=(hR.blk.cell 3).trans rfl
 have hrl:=hR.blk.lt
 have n500:=hR.k500 a
 have a5:=hR.a5
 have HX:Hid (∀ wx,Below w.heap.size w wx->Calls Tryz.prog 87 #[.agg #[.map io,.map co,.map lo],.int .i64 (a:Int)] wx fun e w'=>e=.returned (.agg #[.int .i64 (a:Int),.int .i64 ((K a+1:Nat):Int)])/\Below w.heap.size w w'):=fun wx hb=>by
  refine Calls.mono (Next_any wx io co lo a K (hR.below hb).ctx a5) ?_
  rintro e w' ⟨rfl,hb2⟩
  exact ⟨rfl,hb.trans (hb2.mono hb.size)⟩
 have Hcell:Hid (∀ wx,Below w.heap.size w wx->wx.cell? ⟨rb,0,none⟩=some (.int .i64 (a:Int))/\wx.cell? ⟨rb,1,none⟩=some (.map io)/\wx.cell? ⟨rb,2,none⟩=some (.map co)/\wx.cell? ⟨rb,3,none⟩=some (.map lo)):=fun wx hb=>⟨((hR.blk.below hb).cell 0).trans rfl,((hR.blk.below hb).cell 1).trans rfl,((hR.blk.below hb).cell 2).trans rfl,((hR.blk.below hb).cell 3).trans rfl⟩
 have hb0:Below w.heap.size w w.drew:=(Below.refl _ w).drew
 obtain ⟨n,hn⟩:∃ n,K a=n:=⟨_,rfl⟩
 rw[hn] at HX n500 ⊢
 clear hn
 have hfd:=dot_nth (a:Int) ((n:Int)+1)
 have hwr:IntKind.i64.wrap ((n:Int)+1-1)=(n:Int):=by rw[wrap_in _ (by omega) (by omega)];omega
 clear hR
 go_enter Tryz.func86,Tryz.ntmps86
 go_wp2_with fail
 go_region_held3 (fun w'=>Below w.heap.size w w'/\w'.cell? ⟨rb,0,none⟩=some (.int .i64 (a:Int))/\w'.cell? ⟨rb,1,none⟩=some (.map io)/\w'.cell? ⟨rb,2,none⟩=some (.map co)/\w'.cell? ⟨rb,3,none⟩=some (.map lo)) ((refine ⟨?_, ?_, ?_, ?_, ?_⟩ <;> (first | assumption | (exact (Hcell.out _ (by assumption)).1) | (exact (Hcell.out _ (by assumption)).2.1) | (exact (Hcell.out _ (by assumption)).2.2.1) | (exact (Hcell.out _ (by assumption)).2.2.2)))) (first | (go_at_call 87;refine Calls.mono (HX.out _ hb0) ?_;rintro e w3 ⟨rfl,hb3⟩))
 go_wp2_with fail
 go_ret
 have hw2:IntKind.i64.wrap (n:Int)=(n:Int):=wrap_in _ (by omega) (by omega)
 refine ⟨?_,by assumption⟩
 first | (simp[hw2];done) | (simp[hwr];done) | (rw[hw2]) | (rw[hwr]) | trace_state

def stepC (C:Nat->Option Thk.Ch) (c:Thk.Ch) (d:Nat):Nat->Option Thk.Ch:=fun k =>
 if k=d then (if effB c.act=true then some c else none) else (match C k with | some e=>if covC c.path c.act (toL (keptVal c.act ⟨c.val.toArray⟩)) e=true then none else some e | none=>none)

theorem accept_math {C:Nat->Option Thk.Ch} {c:Thk.Ch} {K:Nat->Nat} {d:Nat} {ns:List Nat} {s1 s2 s3:StD} {It:Nat->Option Value} (hC:∀ k,C k≠none->1<=nth k/\nth k<=K (who k)) (hd:nth d=K (who d)+1)
  (hns:∀ k,k∈ns↔∃ e,C k=some e/\covC c.path c.act (toL (keptVal c.act ⟨c.val.toArray⟩)) e=true)
  (e1:s1.S=fun k=>nth k<=K (who k)) (i1:s1.It=itOf C) (e2:s2.S=fun k=>k∈ns) (i2:s2.It=fun _=>none) (e3:s3.S=fun k=>k=d) (i3:s3.It=fun k=>if k=d/\effB c.act=true then some (chV c) else none)
  (p1:∀ k v,It k=some v->(∃ s∈[s1,s2,s3],s.It k=some v)/\¬goneAt [s1,s2,s3] k) (p2:∀ k,(∃ s∈[s1,s2,s3],s.It k≠none)->¬goneAt [s1,s2,s3] k->It k≠none) :
  It=itOf (stepC C c d)/\∀ k,1<=nth k->((∃ s∈[s1,s2,s3],s.S k)↔nth k<=inc K (who d) (who k)):=by
 have hex:∀ (Q:StD->Prop),(∃ s∈[s1,s2,s3],Q s)↔Q s1\/Q s2\/Q s3:=fun Q=>by simp
 have hgone:∀ k,goneAt [s1,s2,s3] k↔(C k=none/\nth k<=K (who k))\/k∈ns\/(k=d/\¬effB c.act=true):=fun k=>by
  unfold goneAt
  rw[hex]
  simp only[e1,i1,e2,i2,e3,i3,itOf]
  constructor
  ·rintro (⟨h1,h2⟩ | ⟨_,h2⟩ | ⟨h1,h2⟩)
   ·exact Or.inl ⟨by simpa using h1,h2⟩
   ·exact Or.inr (Or.inl h2)
   ·refine Or.inr (Or.inr ⟨h2,fun h=>?_⟩)
    rw[if_pos ⟨h2,h⟩] at h1;cases h1
  ·rintro (⟨h1,h2⟩ | h2 | ⟨h1,h2⟩)
   ·exact Or.inl ⟨by simpa using h1,h2⟩
   ·exact Or.inr (Or.inl ⟨by simp,h2⟩)
   ·exact Or.inr (Or.inr ⟨if_neg (fun h=>h2 h.2),h1⟩)
 have hsome:∀ k v,(∃ s∈[s1,s2,s3],s.It k=some v)↔(itOf C k=some v)\/(k=d/\effB c.act=true/\v=chV c):=fun k v=>by
  rw[hex]
  simp only[i1,i2,i3]
  constructor
  ·rintro (h | h | h)
   ·exact Or.inl h
   ·cases h
   ·split at h
    ·rename_i hh;cases h;exact Or.inr ⟨hh.1,hh.2,rfl⟩
    ·cases h
  ·rintro (h | ⟨h1,h2,rfl⟩)
   ·exact Or.inl h
   ·exact Or.inr (Or.inr (if_pos ⟨h1,h2⟩))
 have hn1:C d=none:=by
  cases h:C d with
  | none=>rfl
  | some e=>have:=hC d (by rw[h];simp);omega
 constructor
 ·funext k
  unfold itOf stepC
  by_cases hk:k=d
  ·subst hk
   rw[if_pos rfl]
   by_cases he:effB c.act=true
   ·rw[if_pos he]
    have hng:¬goneAt [s1,s2,s3] k:=by
     rw[hgone]
     rintro (⟨_,h⟩ | h | ⟨_,h⟩)
     ·omega
     ·obtain ⟨e,h1,_⟩:=(hns _).1 h
      rw[hn1] at h1;cases h1
     ·exact h he
    obtain ⟨v,hv⟩:=Option.ne_none_iff_exists'.1 (p2 k ((hex _).2 (Or.inr (Or.inr (by rw[i3];simp[he])))) hng)
    rw[hv]
    rcases (hsome _ _).1 (p1 _ _ hv).1 with h | ⟨_,_,rfl⟩
    ·simp[itOf,hn1] at h
    ·rfl
   ·rw[if_neg he]
    cases hv:It k with
    | none=>rfl
    | some v=>exact absurd ((hgone _).2 (Or.inr (Or.inr ⟨rfl,he⟩))) (p1 _ _ hv).2
  ·rw[if_neg hk]
   cases hCk:C k with
   | none =>
    cases hv:It k with
    | none=>rfl
    | some v =>
     rcases (hsome _ _).1 (p1 _ _ hv).1 with h | ⟨h,_⟩
     ·simp[itOf,hCk] at h
     ·exact absurd h hk
   | some e =>
    have hr:=hC k (by rw[hCk];simp)
    by_cases hcv:covC c.path c.act (toL (keptVal c.act ⟨c.val.toArray⟩)) e=true
    ·simp only[hcv,if_true]
     cases hv:It k with
     | none=>rfl
     | some v=>exact absurd ((hgone _).2 (Or.inr (Or.inl ((hns k).2 ⟨e,hCk,hcv⟩)))) (p1 _ _ hv).2
    ·simp only[hcv]
     have hng:¬goneAt [s1,s2,s3] k:=by
      rw[hgone]
      rintro (⟨h,_⟩ | h | ⟨h,_⟩)
      ·rw[hCk] at h;cases h
      ·obtain ⟨e',h1,h2⟩:=(hns k).1 h
       rw[hCk] at h1;cases h1;exact hcv h2
      ·exact hk h
     obtain ⟨v,hv⟩:=Option.ne_none_iff_exists'.1 (p2 k ((hex _).2 (Or.inl (by rw[i1];simp[itOf,hCk]))) hng)
     rw[hv]
     rcases (hsome _ _).1 (p1 _ _ hv).1 with h | ⟨h,_⟩
     ·simp[itOf,hCk] at h;simp[h]
     ·exact absurd h hk
 ·intro k hk
  rw[hex]
  simp only[e1,e2,e3]
  constructor
  ·rintro (h | h | h)
   ·by_cases e:who k=who d
    ·rw[e,inc_same];rw[e] at h;omega
    ·rw[inc_oth e];exact h
   ·obtain ⟨e,h1,_⟩:=(hns k).1 h
    have:=(hC k (by rw[h1];simp)).2
    by_cases e:who k=who d
    ·rw[e,inc_same];rw[e] at this;omega
    ·rw[inc_oth e];exact this
   ·rw[h,inc_same];omega
  ·intro h
   by_cases e:who k=who d
   ·rw[e,inc_same] at h
    by_cases e2:nth k=nth d
    ·exact Or.inr (Or.inr (dot_ext e e2))
    ·exact Or.inl (by rw[e];omega)
   ·rw[inc_oth e] at h;exact Or.inl h
end Go.Proofs.YtfmmllpjgkgeaaaGreatDoor

