import Derived.Test.YtfmmllpjgkgeaaaGreatDoorPartV24
set_option linter.unusedVariables false
set_option linter.unusedSimpArgs false
set_option maxHeartbeats 16000000
set_option maxRecDepth 100000
namespace Go.Proofs.YtfmmllpjgkgeaaaGreatDoor
open Go.RowKit Go.Maps Go.WideMaps

theorem bl_alloc {w w':World} (h:Below w.heap.size w w') (o:Obj):Below w.heap.size w (w'.alloc o):=h.alloc h.size o
theorem bl_set {w w':World} (h:Below w.heap.size w w') {b i:Nat} (hb:w.heap.size<=b) (u:Value):Below w.heap.size w (w'.setCell ⟨b,i,none⟩ u):=h.setCell (p:=⟨b,i,none⟩) hb u

theorem zfacts {w1 w3:World} {x y:Value} {t:TypeId} (h:Below (w1.alloc (.cells #[x,y] t)).drew.heap.size (w1.alloc (.cells #[x,y] t)).drew w3):w3.cell? ⟨w1.heap.size,0,none⟩=some x/\w3.cell? ⟨w1.heap.size,1,none⟩=some y/\∀ i,w3.frozen? ⟨w1.heap.size,i,none⟩=false:=by
 have k:Blk w3 w1.heap.size #[x,y] t:=(h.block _ (by show _<(w1.alloc _).heap.size;simp)).trans (Blk.new w1 _ _)
 exact ⟨(k.cell 0).trans rfl,(k.cell 1).trans rfl,k.frozen⟩
theorem kcfact1 {w1 w3:World} {b:Nat} {cs:Array Value} {t:TypeId} (h:Below w1.drew.heap.size w1.drew w3) (k:Blk w1 b cs t):Blk w3 b cs t:=(h.block b k.lt).trans k
theorem kcfact2 {w1 w3:World} {o:Obj} {b:Nat} {cs:Array Value} {t:TypeId} (h:Below (w1.alloc o).drew.heap.size (w1.alloc o).drew w3) (k:Blk w1 b cs t):Blk w3 b cs t:=(h.block b (by have:=k.lt;show b<(w1.alloc o).heap.size;simp;omega)).trans (k.alloc o)
theorem zblk {w1 w3:World} {x y:Value} {t:TypeId} (h:Below (w1.alloc (.cells #[x,y] t)).drew.heap.size (w1.alloc (.cells #[x,y] t)).drew w3):Blk w3 w1.heap.size #[x,y] t:=(h.block _ (by show _<(w1.alloc _).heap.size;simp)).trans (Blk.new w1 _ _)
theorem blk_set2 {w:World} {b:Nat} {x y u v:Value} {t:TypeId} (h:Blk w b #[x,y] t):Blk ((w.setCell ⟨b,0,none⟩ u).setCell ⟨b,1,none⟩ v) b #[u,v] t:=by
 unfold Blk at *
 simp[World.setCell,Array.getElem?_modify,h]
theorem blk_oth {w:World} {b b' i:Nat} {u:Value} {cs:Array Value} {t:TypeId} (h:Blk w b cs t) (hne:b≠b'):Blk (w.setCell ⟨b',i,none⟩ u) b cs t:=(Below.heap_setCell w ⟨b',i,none⟩ u b hne).trans h
theorem bl_drew {w w':World} (h:Below w.heap.size w w'):Below w.heap.size w w'.drew:=h.drew

theorem joins (sts:List StD):∃ It:Nat->Option Value,(∀ n v,It n=some v->(∃ s∈sts,s.It n=some v)/\¬goneAt sts n)/\(∀ n,(∃ s∈sts,s.It n≠none)->¬goneAt sts n->It n≠none):=by
 have:∀ n,∃ o:Option Value,(∀ v,o=some v->(∃ s∈sts,s.It n=some v)/\¬goneAt sts n)/\((∃ s∈sts,s.It n≠none)->¬goneAt sts n->o≠none):=fun n=>by
  by_cases hg:goneAt sts n
  ·exact ⟨none,fun v h=>(by cases h),fun _ h=>absurd hg h⟩
  ·by_cases hs:∃ s∈sts,s.It n≠none
   ·obtain ⟨s,h1,h2⟩:=hs
    obtain ⟨v,hv⟩:=Option.ne_none_iff_exists'.1 h2
    exact ⟨some v,fun v' h=>by cases h;exact ⟨⟨s,h1,hv⟩,hg⟩,fun _ _ h=>(by cases h)⟩
   ·exact ⟨none,fun v h=>(by cases h),fun h=>absurd h hs⟩
 exact ⟨fun n=>Classical.choose (this n),fun n=>(Classical.choose_spec (this n)).1,fun n=>(Classical.choose_spec (this n)).2⟩
theorem sizeK_inc {K:Nat->Nat} {a:Nat} (ha:a<=5):sizeK (inc K a)=sizeK K+1:=sumTo_upd 6 (by omega) (fun i hi=>inc_oth hi) (inc_same K a)
theorem sizeK_le {K:Nat->Nat} (h:∀ x,K x<=500):sizeK K<=3000:=by have:=sumTo_le h 6;unfold sizeK;omega
def RD.more (r:RD) (io co lo:Nat) (pv:Value) (fr:Nat) (st:StD) (K:Nat->Nat) (C:Nat->Option Thk.Ch):RD:={ r with io:=some io,co:=some co,lo:=some lo,pv:=pv,dr:=addD r.room r.dr r.ps ⟨sizeK K,fr,st⟩,ps:=addP r.room r.ps ⟨sizeK K,fr,st⟩,K:=K,C:=C,n:=r.n+1 }
structure MoreTo (w w':World) (r:RD) (fr:Nat) (K:Nat->Nat) (C:Nat->Option Thk.Ch) (r':RD):Prop where
 eq:∃ (io co lo:Nat) (st:StD) (pv:Value),r'=r.more io co lo pv fr st K C/\st.S=newD r K C/\st.It=itOf (newC r K C)/\(w.heap.size<=io/\w.heap.size<=co/\w.heap.size<=lo)/\(∀ k,st.own k->w.heap.size<=k)/\(pv.ownBlock=r.pv.ownBlock\/∃ k,pv.ownBlock=some k/\w.heap.size<=k)
 rep:RepF w' r'
 chg:Chg r.own w w'
theorem Chg.pre {M:Nat->Prop} {w wy w':World} (hb:Below w.heap.size w wy) (h:Chg M wy w'):Chg M w w':=(Chg.of_below hb).trans h

theorem accept_learn {w wz:World} {r:RD} {d:Nat} {c:Thk.Ch} {ns:List Nat} {gi gc gl xi xc xl:Nat} (hG:Glob w) (hF:RepF w r) (hcut:r.cut=false) (hd:d=mkD r.a (r.K r.a+1)) (hn:r.K r.a+1<=500)
  (hns:∀ k,k∈ns↔∃ e,r.C k=some e/\covC c.path c.act (toL (keptVal c.act ⟨c.val.toArray⟩)) e=true) (hb:Below w.heap.size w wz) (hg:StoreS wz gi gc gl (fun k=>k∈ns) (fun _=>none)) (hx:StoreS wz xi xc xl (fun k=>k=d) (fun k=>if k=d/\effB c.act=true then some (chV c) else none))
  (hB:StoB (fst (inc r.K r.a)) (stepC r.C c d)) :
  Calls Tryz.prog 92 #[.pointer (some ⟨r.rb,0,none⟩),.int .i64 (r.a:Int),.slice (some ⟨wz.heap.size,0,none⟩) 2 2] (wz.alloc (.cells #[.map (some gi),.map (some gc),.map (some gl),.map (some xi),.map (some xc),.map (some xl)] 102)).drew
   fun e w9=>e=.returned (.bool true)/\∃ r',MoreTo w w9 r r.a (inc r.K r.a) (stepC r.C c d) r':=by
 have hwd:who d=r.a:=by rw[hd];exact who_mk (by omega)
 have hnd:nth d=r.K r.a+1:=by rw[hd];exact nth_mk (by omega)
 have hbz:Below wz.heap.size wz (wz.alloc (.cells #[.map (some gi),.map (some gc),.map (some gl),.map (some xi),.map (some xc),.map (some xl)] 102)).drew:=((Below.refl _ wz).alloc (Nat.le_refl _) _).drew
 have kS:Blk (wz.alloc (.cells #[.map (some gi),.map (some gc),.map (some gl),.map (some xi),.map (some xc),.map (some xl)] 102)).drew wz.heap.size #[.map (some gi),.map (some gc),.map (some gl),.map (some xi),.map (some xc),.map (some xl)] 102:=Blk.new wz _ _
 generalize (wz.alloc (.cells #[.map (some gi),.map (some gc),.map (some gl),.map (some xi),.map (some xc),.map (some xl)] 102)).drew=wy at *
 have hbw:Below w.heap.size w wy:=hb.trans (hbz.mono hb.size)
 obtain ⟨s2,hs2⟩:∃ s:StD,s=⟨some gi,some gc,some gl,fun k=>k∈ns,fun _=>none⟩:=⟨_,rfl⟩
 obtain ⟨s3,hs3⟩:∃ s:StD,s=⟨some xi,some xc,some xl,fun k=>k=d,fun k=>if k=d/\effB c.act=true then some (chV c) else none⟩:=⟨_,rfl⟩
 have hSl:SliceS wy wz.heap.size 0 [s2,s3]:=by
  refine ⟨kS.lt, ?_, ?_, ?_, ?_⟩
  ·intro j hj
   match j,hj with
   | 0,_=>rw[kS.cell];simp[hs2]
   | 1,_=>rw[kS.cell];simp[hs3]
  ·intro j hj
   match j,hj with
   | 0,_=>rw[kS.cell];simp[hs2]
   | 1,_=>rw[kS.cell];simp[hs3]
  ·intro j hj
   match j,hj with
   | 0,_=>rw[kS.cell];simp[hs2]
   | 1,_=>rw[kS.cell];simp[hs3]
  ·intro s hs
   simp only[List.mem_cons,List.mem_nil_iff,or_false] at hs
   rcases hs with rfl | rfl
   ·rw[hs2];exact ⟨(hg.below hbz).toR,fun k v h=>(by cases h)⟩
   ·rw[hs3]
    refine ⟨(hx.below hbz).toR,fun k v h=>?_⟩
    simp only at h
    split at h
    ·cases h;exact ⟨_,_,_,_,rfl⟩
    ·cases h
 have hC:∀ k,r.C k≠none->1<=nth k/\nth k<=r.K (who k):=fun k hk=>by have:=hF.st.b.ok k hk;exact ⟨this.1.2.1,this.2⟩
 have hmem:∀ (Q:StD->Prop),(∃ s∈[s2,s3] ++ [r.known],Q s)↔∃ s∈[r.known,s2,s3],Q s:=fun Q=>by simp;constructor <;> (rintro (h | h | h) <;> simp[h])
 have hgo:∀ k,goneAt ([s2,s3] ++ [r.known]) k↔goneAt [r.known,s2,s3] k:=fun k=>hmem _
 have hJ:JoinTo ([s2,s3] ++ [r.known]) (inc r.K r.a) (stepC r.C c d):=by
  have key:∀ It:Nat->Option Value,(∀ n v,It n=some v->(∃ s∈[s2,s3] ++ [r.known],s.It n=some v)/\¬goneAt ([s2,s3] ++ [r.known]) n)->(∀ n,(∃ s∈[s2,s3] ++ [r.known],s.It n≠none)->¬goneAt ([s2,s3] ++ [r.known]) n->It n≠none)->It=itOf (stepC r.C c d)/\∀ k,1<=nth k->((∃ s∈[r.known,s2,s3],s.S k)↔nth k<=inc r.K (who d) (who k)):=fun It p1 p2 =>
   accept_math (C:=r.C) (c:=c) (K:=r.K) (d:=d) (ns:=ns) (s1:=r.known) (s2:=s2) (s3:=s3) hC (by rw[hwd];exact hnd) hns rfl rfl (by rw[hs2]) (by rw[hs2]) (by rw[hs3]) (by rw[hs3]) (fun k v h=>by have:=p1 k v h;exact ⟨(hmem _).1 this.1,fun hg=>this.2 ((hgo k).2 hg)⟩) (fun k h hg=>p2 k ((hmem _).2 h) (fun h2=>hg ((hgo k).1 h2)))
  refine ⟨fun It _ p1 p2=>(key It p1 p2).1,fun k hk=>?_⟩
  have hjoin:∃ It:Nat->Option Value,(∀ n v,It n=some v->(∃ s∈[s2,s3] ++ [r.known],s.It n=some v)/\¬goneAt ([s2,s3] ++ [r.known]) n)/\(∀ n,(∃ s∈[s2,s3] ++ [r.known],s.It n≠none)->¬goneAt ([s2,s3] ++ [r.known]) n->It n≠none):=joins _
  obtain ⟨It,p1,p2⟩:=hjoin
  have:=(key It p1 p2).2 k hk
  rw[hmem,this,hwd]
  exact Iff.rfl
 have hnew:newD r (inc r.K r.a) (stepC r.C c d) d:=⟨by unfold fst;rw[hwd,inc_same,hnd];exact Nat.le_refl _,fun h=>by have:=h.1;unfold fst at this;rw[hwd,hnd] at this;omega⟩
 have hK':∀ x,inc r.K r.a x<=500:=fun x=>by
  by_cases e:x=r.a
  ·subst e;rw[inc_same];exact hn
  ·rw[inc_oth e];exact hF.k500 x
 have hs1:=sizeK_inc (K:=r.K) hF.a5
 refine Calls.mono (learn_any wy (hG.mono hbw) r (hF.below hbw) hcut r.a hF.a5 wz.heap.size [s2,s3] hSl (by simp) (inc r.K r.a) (stepC r.C c d) hJ hB hK' (fun _=>by omega) (by have:=sizeK_le hK';omega)) ?_
 rintro e w9 ⟨rfl,⟨hno,_⟩ | ⟨_,io,co,lo,st,pv,h1,h2,h3,h4,h5,h6,h7⟩⟩
 ·exact absurd hnew (hno d (by omega))
 ·have hs:=hbw.size
  refine ⟨rfl,_,⟨io,co,lo,st,pv,rfl,h1,h2,by omega,fun k hk=>Nat.le_trans hs (h4 k hk), ?_⟩,h6,Chg.pre hbw h7⟩
  rcases h5 with h5 | ⟨k,h5,h8⟩
  ·exact Or.inl h5
  ·exact Or.inr ⟨k,h5,by omega⟩

theorem Accept_any (w:World) (hG:Glob w) (r:RD) (hF:RepF w r) (hcut:r.cut=false) (c:Thk.Ch) (hnK:r.K r.a+1<=500) (hcp:c.path.length<=1048576) (hB:StoB (fst (inc r.K r.a)) (stepC r.C c (mkD r.a (r.K r.a+1)))) :
  Calls Tryz.prog 49 #[.pointer (some ⟨r.rb,0,none⟩),chV c] w fun e w'=>e=.returned (.bool true)/\∃ r',MoreTo w w' r r.a (inc r.K r.a) (stepC r.C c (mkD r.a (r.K r.a+1))) r':=by
 obtain ⟨m,hm⟩:=hG.len
 have hR:=hF.rep
 have HAL:Hid (∀ (wz:World) (ns:List Nat) (gi gc gl xi xc xl:Nat),(∀ k,k∈ns↔∃ e,r.C k=some e/\covC c.path c.act (toL (keptVal c.act ⟨c.val.toArray⟩)) e=true)->Below w.heap.size w wz->StoreS wz gi gc gl (fun k=>k∈ns) (fun _=>none)->StoreS wz xi xc xl (fun k=>k=mkD r.a (r.K r.a+1)) (fun k=>if k=mkD r.a (r.K r.a+1)/\effB c.act=true then some (chV c) else none)->_):=fun wz ns gi gc gl xi xc xl h1 h2 h3 h4=>accept_learn (wz:=wz) (ns:=ns) (gi:=gi) (gc:=gc) (gl:=gl) (xi:=xi) (xc:=xc) (xl:=xl) hG hF hcut rfl hnK h1 h2 h3 h4 hB
 clear hG hF hB
 generalize hrb:r.rb=rb at *
 generalize hra:r.a=a at *
 generalize r.io=io at *
 generalize r.co=co at *
 generalize r.lo=lo at *
 generalize hK0:r.K=K at *
 generalize hC0:r.C=C at *
 have h0l:0<w.heap.size:=block_lt_of_cell hm
 have hrl:=hR.blk.lt
 have HR:Hid (∀ wx,Below w.heap.size w wx->RepP wx rb a io co lo K C):=fun wx hb=>hR.below hb
 have HCk:Hid (∀ k,C k≠none->1<=nth k/\nth k<=K (who k)):=fun k hk=>by have:=hR.st.ok k (itOf_none.2 hk);exact ⟨this.1.2.1,this.2⟩
 have HCok:Hid (∀ k,C k≠none->okD k):=fun k hk=>(hR.st.ok k (itOf_none.2 hk)).1
 obtain ⟨n,hKn⟩:∃ n,K a=n:=⟨_,rfl⟩
 have HKn:Hid (K a=n):=hKn
 rw[hKn]
 have hn:n+1<=500:=by omega
 clear hKn
 have HE:Hid (dotV (a:Int) ((n+1:Nat):Int)=dotE (mkD a (n+1))):=dotV_mk (by omega)
 have hwm:who (mkD a (n+1))=a:=who_mk (by omega)
 have hnm:nth (mkD a (n+1))=n+1:=nth_mk (by omega)
 have Hok1:Hid (okD (mkD a (n+1))):=⟨by rw[hwm];exact hR.a5,by rw[hnm];omega,by rw[hnm];omega⟩
 have HCp:Hid (∀ k e,C k=some e->e.path.length<=1048576):=hR.ok
 have a5:=hR.a5
 have hmB:Hid (∀ wx,Below w.heap.size w wx->wx.cell? ⟨0,0,none⟩=some (.int .i64 m)):=fun wx hx=>(hx.cell (p:=⟨0,0,none⟩) h0l).trans hm
 have HX:Hid (∀ wx,Below w.heap.size w wx->Calls Tryz.prog 87 #[.agg #[.map io,.map co,.map lo],.int .i64 (a:Int)] wx fun e w'=>e=.returned (.agg #[.int .i64 (a:Int),.int .i64 ((n+1:Nat):Int)])/\Below w.heap.size w w'/\Below wx.heap.size wx w'):=fun wx hb=>by
  refine Calls.mono (Next_any wx io co lo a K (HR.out wx hb).ctx a5) ?_
  rintro e w' ⟨he,hb2⟩
  rw[HKn.out] at he
  exact ⟨he,hb.trans (hb2.mono hb.size),hb2⟩
 have Hcell:Hid (∀ wx,Below w.heap.size w wx->wx.cell? ⟨rb,0,none⟩=some (.int .i64 (a:Int))/\wx.cell? ⟨rb,1,none⟩=some (.map io)/\wx.cell? ⟨rb,2,none⟩=some (.map co)/\wx.cell? ⟨rb,3,none⟩=some (.map lo)):=fun wx hb=>⟨((HR.out wx hb).blk.cell 0).trans rfl,((HR.out wx hb).blk.cell 1).trans rfl,((HR.out wx hb).blk.cell 2).trans rfl,((HR.out wx hb).blk.cell 3).trans rfl⟩
 clear hR hm
 unfold chV
 go_enter Tryz.func49,Tryz.ntmps49
 go_wp2_with fail
 have hb1:Below w.heap.size w (w.alloc (.cells #[.string ⟨c.path.toArray⟩,.int .u8 (c.act.toNat:Int),.string (keptVal c.act ⟨c.val.toArray⟩),.int .i64 c.n] 86)):=(Below.refl _ w).alloc (Nat.le_refl _) _
 have kc:Blk (w.alloc (.cells #[.string ⟨c.path.toArray⟩,.int .u8 (c.act.toNat:Int),.string (keptVal c.act ⟨c.val.toArray⟩),.int .i64 c.n] 86)) w.heap.size #[.string ⟨c.path.toArray⟩,.int .u8 (c.act.toNat:Int),.string (keptVal c.act ⟨c.val.toArray⟩),.int .i64 c.n] 86:=Blk.new w _ _
 generalize w.alloc (.cells #[.string ⟨c.path.toArray⟩,.int .u8 (c.act.toNat:Int),.string (keptVal c.act ⟨c.val.toArray⟩),.int .i64 c.n] 86)=w1 at *
 have q0:=(Hcell.out _ hb1).1
 have q1:=(Hcell.out _ hb1).2.1
 have q2:=(Hcell.out _ hb1).2.2.1
 have q3:=(Hcell.out _ hb1).2.2.2
 have hb0:Below w.heap.size w w1.drew:=hb1.drew
 have HKC:Hid (Blk w1 w.heap.size #[.string ⟨c.path.toArray⟩,.int .u8 (c.act.toNat:Int),.string (keptVal c.act ⟨c.val.toArray⟩),.int .i64 c.n] 86):=kc
 clear kc
 have HB1:Hid (Below w.heap.size w w1):=hb1
 have qA0:∀ o,(w1.alloc o).cell? ⟨rb,0,none⟩=some (.int .i64 (a:Int)):=fun o=>(Hcell.out _ (bl_alloc hb1 o)).1
 have qA1:∀ o,(w1.alloc o).cell? ⟨rb,1,none⟩=some (.map io):=fun o=>(Hcell.out _ (bl_alloc hb1 o)).2.1
 have qA2:∀ o,(w1.alloc o).cell? ⟨rb,2,none⟩=some (.map co):=fun o=>(Hcell.out _ (bl_alloc hb1 o)).2.2.1
 have qA3:∀ o,(w1.alloc o).cell? ⟨rb,3,none⟩=some (.map lo):=fun o=>(Hcell.out _ (bl_alloc hb1 o)).2.2.2
 have hw1:w.heap.size+1<=w1.heap.size:=HKC.out.lt
 go_cut [5] from 8 to 16 (fun v5 wx=>∃ B4,v5=.pointer (some ⟨B4,0,none⟩)/\Blk wx B4 #[.int .i64 (a:Int),.int .i64 ((n+1:Nat):Int)] 134/\w.heap.size<B4/\Below w.heap.size w wx/\Blk wx w.heap.size #[.string ⟨c.path.toArray⟩,.int .u8 (c.act.toNat:Int),.string (keptVal c.act ⟨c.val.toArray⟩),.int .i64 c.n] 86)
 case first =>
  go_region_with (first | (go_at_call 87;refine Calls.mono (HX.out _ (by (repeat' (first | assumption | (exact Below.size (by assumption)) | apply bl_drew | apply bl_alloc | apply bl_set)))) ?_;rintro e w3 ⟨rfl,hb3,hb13⟩;(first | (have hz:=zfacts hb13;have z0:=hz.1;have z1:=hz.2.1;have zf:=hz.2.2) | skip)))
  all_goals
   go_wp2_with fail
   go_meet
   first
    | exact ⟨_,rfl,Blk.new w3 _ _,(by have:=hb13.size;have e:w1.drew.heap.size=w1.heap.size:=rfl;omega),bl_alloc hb3 _,(kcfact1 hb13 HKC.out).alloc _⟩
    | exact ⟨_,rfl,blk_set2 (zblk hb13),(by omega),bl_set (bl_set hb3 (by omega) _) (by omega) _,blk_oth (blk_oth (kcfact2 hb13 HKC.out) (by omega)) (by omega)⟩
 case rest =>
 obtain ⟨B4,rfl,k4,hB4,hb3,kc3⟩:=hcut
 clear q0 q1 q2 q3 qA0 qA1 qA2 qA3 hb0 hb1 HKC HX HB1 hw1
 have g0:=(kc3.cell 0).trans rfl
 have g1:=(kc3.cell 1).trans rfl
 have g2:=(kc3.cell 2).trans rfl
 have g3:=(kc3.cell 3).trans rfl
 have HK4:Hid (Blk wc B4 #[.int .i64 (a:Int),.int .i64 ((n+1:Nat):Int)] 134/\Blk wc w.heap.size #[.string ⟨c.path.toArray⟩,.int .u8 (c.act.toNat:Int),.string (keptVal c.act ⟨c.val.toArray⟩),.int .i64 c.n] 86/\Below w.heap.size w wc):=⟨k4,kc3,hb3⟩
 clear k4 kc3 hb3
 go_wp2_with fail
 refine Calls.mono (covered_any wc rb a io co lo K C (HR.out _ HK4.out.2.2) ⟨c.path.toArray⟩ (keptVal c.act ⟨c.val.toArray⟩) c.act c.n (by show c.path.toArray.size<=_;simpa using hcp) m (hmB.out _ HK4.out.2.2)) ?_
 rintro e w4 ⟨v,ns,rfl,hsl,hnl,hns,hb4⟩
 have hsh:∃ ao cap,v=.slice ao ns.length cap:=by
  rcases hsl with ⟨rfl,rfl⟩ | ⟨b,off,cap,rfl,_⟩
  ·exact ⟨none,0,rfl⟩
  ·exact ⟨_,cap,rfl⟩
 obtain ⟨ao,cap,rfl⟩:=hsh
 have HK5:Hid (Blk w4 B4 #[.int .i64 (a:Int),.int .i64 ((n+1:Nat):Int)] 134/\Blk w4 w.heap.size #[.string ⟨c.path.toArray⟩,.int .u8 (c.act.toNat:Int),.string (keptVal c.act ⟨c.val.toArray⟩),.int .i64 c.n] 86/\Below w.heap.size w w4):=⟨HK4.out.1.below hb4,HK4.out.2.1.below hb4,HK4.out.2.2.trans (hb4.mono HK4.out.2.2.size)⟩
 have Hns:Hid (∀ k,k∈ns↔∃ e,C k=some e/\covC c.path c.act (toL (keptVal c.act ⟨c.val.toArray⟩)) e=true):=fun k=>by have:=hns k;simpa[toL] using this
 have hns501:∀ k∈ns,okD k:=fun k hk=>by
  obtain ⟨e,he,_⟩:=(Hns.out k).1 hk
  exact HCok.out k (by rw[he];simp)
 have Hgone:Hid (_):=Gone_any w4 _ ns hsl (by omega) hns501
 clear HK4 hns hsl hb4 g0 g1 g2 g3
 go_wp2_with fail
 refine Calls.mono Hgone.out ?_
 rintro e w5 ⟨gi,gc,gl,rfl,hg5,hgn,hb5⟩
 have hs4:=HK5.out.2.2.size
 have hbw5:Below w.heap.size w w5:=HK5.out.2.2.trans (hb5.mono hs4)
 have k45:=HK5.out.1.below hb5
 have HK6:Hid (Blk w5 B4 #[.int .i64 (a:Int),.int .i64 ((n+1:Nat):Int)] 134/\Blk w5 w.heap.size #[.string ⟨c.path.toArray⟩,.int .u8 (c.act.toNat:Int),.string (keptVal c.act ⟨c.val.toArray⟩),.int .i64 c.n] 86/\Below w.heap.size w w5/\StoreS w5 gi gc gl (fun k=>k∈ns) (fun _=>none)):=⟨k45,HK5.out.2.1.below hb5,hbw5,hg5⟩
 have hgn':w.heap.size<=gi/\w.heap.size<=gc/\w.heap.size<=gl:=by omega
 have d0A:∀ o,(w5.alloc o).cell? ⟨B4,0,none⟩=some (.int .i64 (a:Int)):=fun o=>((k45.alloc o).cell 0).trans rfl
 have d1A:∀ o,(w5.alloc o).cell? ⟨B4,1,none⟩=some (.int .i64 ((n+1:Nat):Int)):=fun o=>((k45.alloc o).cell 1).trans rfl
 have Hgone2:Hid (∀ ob,Calls Tryz.prog 88 #[.slice (some ⟨w5.heap.size+1,0,none⟩) 1 1] ((w5.alloc ob).alloc (.cells #[.int .i64 (a:Int),.int .i64 ((n+1:Nat):Int)] 134)) fun e w'=>∃ ib cb lb,e=.returned (.agg #[.map (some ib),.map (some cb),.map (some lb)])/\StoreS w' ib cb lb (fun k=>k∈[mkD a (n+1)]) (fun _=>none)/\(w5.heap.size<=ib/\w5.heap.size<=cb/\w5.heap.size<=lb)/\Below (w5.heap.size+2) ((w5.alloc ob).alloc (.cells #[.int .i64 (a:Int),.int .i64 ((n+1:Nat):Int)] 134)) w'):=fun ob=>by
  have hk:=Blk.new (w5.alloc ob) #[.int .i64 (a:Int),.int .i64 ((n+1:Nat):Int)] 134
  rw[World.size_alloc] at hk
  refine Calls.mono (Gone_any _ _ [mkD a (n+1)] (Or.inr ⟨w5.heap.size+1,0,1,rfl,by simp,hk.lt,fun j hj=>?_⟩) (by simp) (fun k hk=>by simp at hk;subst hk;exact Hok1.out)) ?_
  ·simp at hj
   subst hj
   exact ⟨by rw[hk.cell];simp[hwm],by rw[hk.cell];simp[hnm]⟩
  ·rintro e w' ⟨ib,cb,lb,rfl,h1,h2,h3⟩
   simp only[World.size_alloc] at h2 h3
   exact ⟨ib,cb,lb,rfl,h1,by omega,h3⟩
 clear HK5 hg5 k45 Hgone hb5 hgn hbw5
 go_wp2_with fail
 refine Calls.mono (Hgone2.out _) ?_
 rintro e w6 ⟨mi,mc,ml,rfl,hm6,hmn,hb6⟩
 have hs5:w.heap.size<=w5.heap.size:=HK6.out.2.2.1.size
 have hs6:=hb6.size
 simp only[World.size_alloc] at hs6
 have hB4l:B4<w5.heap.size:=HK6.out.1.lt
 have hcw5:w.heap.size<w5.heap.size:=HK6.out.2.1.lt
 have hb56:Below w5.heap.size w5 w6:=(((Below.refl _ w5).alloc (Nat.le_refl _) _).alloc (by simp) _).trans (hb6.mono (by omega))
 have kb5:Blk w6 w5.heap.size #[.map (some gi),.map (some gc),.map (some gl)] 102:=(hb6.block _ (by omega)).trans ((Blk.new w5 _ _).alloc _)
 have hm6':StoreS w6 mi mc ml (fun k=>k=mkD a (n+1)) (fun _=>none):=⟨hm6.ctx.iff (fun k _=>by simp),hm6.its,hm6.ne,fun k hk=>absurd rfl hk⟩
 have HK7:Hid (Blk w6 B4 #[.int .i64 (a:Int),.int .i64 ((n+1:Nat):Int)] 134/\Blk w6 w.heap.size #[.string ⟨c.path.toArray⟩,.int .u8 (c.act.toNat:Int),.string (keptVal c.act ⟨c.val.toArray⟩),.int .i64 c.n] 86/\Below w.heap.size w w6/\StoreS w6 gi gc gl (fun k=>k∈ns) (fun _=>none)/\StoreS w6 mi mc ml (fun k=>k=mkD a (n+1)) (fun _=>none)/\Blk w6 w5.heap.size #[.map (some gi),.map (some gc),.map (some gl)] 102):=⟨HK6.out.1.below hb56,HK6.out.2.1.below hb56,HK6.out.2.2.1.trans (hb56.mono hs5),HK6.out.2.2.2.below hb56,hm6',kb5⟩
 have hs65:w5.heap.size<w6.heap.size:=kb5.lt
 have hgl6':gi<w6.heap.size/\gc<w6.heap.size/\gl<w6.heap.size:=HK7.out.2.2.2.1.lt
 clear HK6 hm6 hm6' hb6 kb5 hb56 d0A d1A Hgone2
 have HEf:Hid (∀ wx,Calls Tryz.prog 90 #[.agg #[.string ⟨c.path.toArray⟩,.int .u8 (c.act.toNat:Int),.string (keptVal c.act ⟨c.val.toArray⟩),.int .i64 c.n]] wx fun e w'=>e=.returned (.bool (effB c.act))/\Below wx.heap.size wx w'):=fun wx=>IsEffect_any ⟨c.path.toArray⟩ c.act (keptVal c.act ⟨c.val.toArray⟩) c.n wx
 have g0:∀ o,(w6.alloc o).cell? ⟨w.heap.size,0,none⟩=some (.string ⟨c.path.toArray⟩):=fun o=>((HK7.out.2.1.alloc o).cell 0).trans rfl
 have g1:∀ o,(w6.alloc o).cell? ⟨w.heap.size,1,none⟩=some (.int .u8 (c.act.toNat:Int)):=fun o=>((HK7.out.2.1.alloc o).cell 1).trans rfl
 have g2:∀ o,(w6.alloc o).cell? ⟨w.heap.size,2,none⟩=some (.string (keptVal c.act ⟨c.val.toArray⟩)):=fun o=>((HK7.out.2.1.alloc o).cell 2).trans rfl
 have g3:∀ o,(w6.alloc o).cell? ⟨w.heap.size,3,none⟩=some (.int .i64 c.n):=fun o=>((HK7.out.2.1.alloc o).cell 3).trans rfl
 go_wp2_with fail
 refine Calls.mono (HEf.out _) ?_
 rintro e w7 ⟨rfl,hb7⟩
 have hba:Below w6.heap.size w6 w7:=((Below.refl _ w6).alloc (Nat.le_refl _) _).trans (hb7.mono (by simp))
 have kb6:Blk w7 w6.heap.size #[.map (some mi),.map (some mc),.map (some ml)] 102:=(Blk.new w6 _ _).below hb7
 have hs7:=hba.size
 have hs76:w6.heap.size<w7.heap.size:=kb6.lt
 have HK8:Hid (Blk w7 B4 #[.int .i64 (a:Int),.int .i64 ((n+1:Nat):Int)] 134/\Blk w7 w.heap.size #[.string ⟨c.path.toArray⟩,.int .u8 (c.act.toNat:Int),.string (keptVal c.act ⟨c.val.toArray⟩),.int .i64 c.n] 86/\Below w.heap.size w w7/\StoreS w7 gi gc gl (fun k=>k∈ns) (fun _=>none)/\StoreS w7 mi mc ml (fun k=>k=mkD a (n+1)) (fun _=>none)/\Blk w7 w5.heap.size #[.map (some gi),.map (some gc),.map (some gl)] 102/\Blk w7 w6.heap.size #[.map (some mi),.map (some mc),.map (some ml)] 102):=⟨HK7.out.1.below hba,HK7.out.2.1.below hba,HK7.out.2.2.1.trans (hba.mono (by omega)),HK7.out.2.2.2.1.below hba,HK7.out.2.2.2.2.1.below hba,HK7.out.2.2.2.2.2.below hba,kb6⟩
 clear HK7 hb7 hba kb6 HEf g0 g1 g2 g3
 cases he:effB c.act with
 | false =>
  go_upto_region 6 with fail
  have HZ:Hid (Blk w7 w6.heap.size #[.map (some mi),.map (some mc),.map (some ml)] 102/\Blk w7 w5.heap.size #[.map (some gi),.map (some gc),.map (some gl)] 102/\Below w.heap.size w w7/\StoreS w7 gi gc gl (fun k=>k∈ns) (fun _=>none)/\StoreS w7 mi mc ml (fun k=>k=mkD a (n+1)) (fun k=>if k=mkD a (n+1)/\effB c.act=true then some (chV c) else none)/\w5.heap.size<=mi/\w5.heap.size<=mc/\w5.heap.size<=ml):=⟨HK8.out.2.2.2.2.2.2,HK8.out.2.2.2.2.2.1,HK8.out.2.2.1,HK8.out.2.2.2.1,by have h:=HK8.out.2.2.2.2.1;simpa[he] using h,hmn⟩
  clear HK8
  have y0:=(HZ.out.1.cell 0).trans rfl
  have y1:=(HZ.out.1.cell 1).trans rfl
  have y2:=(HZ.out.1.cell 2).trans rfl
  have z0:=(HZ.out.2.1.cell 0).trans rfl
  have z1:=(HZ.out.2.1.cell 1).trans rfl
  have z2:=(HZ.out.2.1.cell 2).trans rfl
  have q0:=(Hcell.out _ HZ.out.2.2.1).1
  have q0A:∀ o,(w7.alloc o).cell? ⟨rb,0,none⟩=some (.int .i64 (a:Int)):=fun o=>(Hcell.out _ (bl_alloc HZ.out.2.2.1 o)).1
  have q1:=(Hcell.out _ HZ.out.2.2.1).2.1
  have q2:=(Hcell.out _ HZ.out.2.2.1).2.2.1
  have q3:=(Hcell.out _ HZ.out.2.2.1).2.2.2
  have HJ:Hid (_):=HAL.out _ ns _ _ _ _ _ _ Hns.out HZ.out.2.2.1 HZ.out.2.2.2.1 (by rw[HKn.out];exact HZ.out.2.2.2.2.1)
  go_region_with (first | (go_at_call 92;refine Calls.mono HJ.out ?_;rintro e w9 ⟨rfl,hfin⟩))
  all_goals
   go_wp2_with fail
   go_ret
   rw[HKn.out] at hfin
   exact ⟨rfl,hfin⟩
 | true =>
  have d0:=(HK8.out.1.cell 0).trans rfl
  have d1:=(HK8.out.1.cell 1).trans rfl
  have g0:=(HK8.out.2.1.cell 0).trans rfl
  have g1:=(HK8.out.2.1.cell 1).trans rfl
  have g2:=(HK8.out.2.1.cell 2).trans rfl
  have g3:=(HK8.out.2.1.cell 3).trans rfl
  have HOne:Hid (_):=One_any w7 (mkD a (n+1)) (.string ⟨c.path.toArray⟩) (.int .u8 (c.act.toNat:Int)) (.string (keptVal c.act ⟨c.val.toArray⟩)) (.int .i64 c.n) Hok1.out ⟨_,_,_,_,rfl,rfl,rfl,rfl⟩
  rw[<- HE.out] at HOne
  go_wp2_with fail
  refine Calls.mono HOne.out ?_
  rintro e w8 ⟨xi,xc,xl,rfl,hx8,hxn,hb8⟩
  have kb8:=HK8.out.2.2.2.2.2.2.below hb8
  have f0:=(kb8.cell 0).trans rfl
  have f1:=(kb8.cell 1).trans rfl
  have f2:=(kb8.cell 2).trans rfl
  have ff:=kb8.frozen
  have HK9:Hid (Blk w8 w6.heap.size #[.map (some mi),.map (some mc),.map (some ml)] 102/\Blk w8 w5.heap.size #[.map (some gi),.map (some gc),.map (some gl)] 102/\Below w.heap.size w w8/\StoreS w8 gi gc gl (fun k=>k∈ns) (fun _=>none)/\StoreS w8 xi xc xl (fun k=>k=mkD a (n+1)) (fun k=>if k=mkD a (n+1)/\effB c.act=true then some (chV c) else none)):=⟨kb8,HK8.out.2.2.2.2.2.1.below hb8,HK8.out.2.2.1.trans (hb8.mono (by omega)),HK8.out.2.2.2.1.below hb8,by simpa[he,chV] using hx8⟩
  have hgl:=HK9.out.2.2.2.1.lt
  have hgl6:gi<w6.heap.size/\gc<w6.heap.size/\gl<w6.heap.size:=hgl6'
  clear HK8 hx8 hb8 kb8 d0 d1 g0 g1 g2 g3 HOne
  go_upto_region 6 with fail
  have hbx:w.heap.size<=w6.heap.size:=by omega
  have hch:Chg (fun k=>k=w6.heap.size) w8 (((w8.setCell ⟨w6.heap.size,0,none⟩ (.map (some xi))).setCell ⟨w6.heap.size,1,none⟩ (.map (some xc))).setCell ⟨w6.heap.size,2,none⟩ (.map (some xl))):=(((Chg.refl (fun k=>k=w6.heap.size) w8).setCell (p:=⟨w6.heap.size,0,none⟩) rfl _).setCell (p:=⟨w6.heap.size,1,none⟩) rfl _).setCell (p:=⟨w6.heap.size,2,none⟩) rfl _
  have HZ:Hid (Blk (((w8.setCell ⟨w6.heap.size,0,none⟩ (.map (some xi))).setCell ⟨w6.heap.size,1,none⟩ (.map (some xc))).setCell ⟨w6.heap.size,2,none⟩ (.map (some xl))) w6.heap.size #[.map (some xi),.map (some xc),.map (some xl)] 102/\Blk (((w8.setCell ⟨w6.heap.size,0,none⟩ (.map (some xi))).setCell ⟨w6.heap.size,1,none⟩ (.map (some xc))).setCell ⟨w6.heap.size,2,none⟩ (.map (some xl))) w5.heap.size #[.map (some gi),.map (some gc),.map (some gl)] 102/\Below w.heap.size w (((w8.setCell ⟨w6.heap.size,0,none⟩ (.map (some xi))).setCell ⟨w6.heap.size,1,none⟩ (.map (some xc))).setCell ⟨w6.heap.size,2,none⟩ (.map (some xl)))/\StoreS (((w8.setCell ⟨w6.heap.size,0,none⟩ (.map (some xi))).setCell ⟨w6.heap.size,1,none⟩ (.map (some xc))).setCell ⟨w6.heap.size,2,none⟩ (.map (some xl))) gi gc gl (fun k=>k∈ns) (fun _=>none)/\StoreS (((w8.setCell ⟨w6.heap.size,0,none⟩ (.map (some xi))).setCell ⟨w6.heap.size,1,none⟩ (.map (some xc))).setCell ⟨w6.heap.size,2,none⟩ (.map (some xl))) xi xc xl (fun k=>k=mkD a (n+1)) (fun k=>if k=mkD a (n+1)/\effB c.act=true then some (chV c) else none)/\w5.heap.size<=xi/\w5.heap.size<=xc/\w5.heap.size<=xl):=by
   refine ⟨?_,HK9.out.2.1.chg hch (by omega),bl_set (bl_set (bl_set HK9.out.2.2.1 hbx _) hbx _) hbx _,HK9.out.2.2.2.1.chg hch (by omega) (by omega) (by omega),HK9.out.2.2.2.2.chg hch (by omega) (by omega) (by omega),by omega⟩
   have:=HK9.out.1
   unfold Blk at this ⊢
   simp[World.setCell,Array.getElem?_modify,this]
  clear HK9 hch f0 f1 f2 ff
  generalize (((w8.setCell ⟨w6.heap.size,0,none⟩ (.map (some xi))).setCell ⟨w6.heap.size,1,none⟩ (.map (some xc))).setCell ⟨w6.heap.size,2,none⟩ (.map (some xl)))=wz at *
  have y0:=(HZ.out.1.cell 0).trans rfl
  have y1:=(HZ.out.1.cell 1).trans rfl
  have y2:=(HZ.out.1.cell 2).trans rfl
  have z0:=(HZ.out.2.1.cell 0).trans rfl
  have z1:=(HZ.out.2.1.cell 1).trans rfl
  have z2:=(HZ.out.2.1.cell 2).trans rfl
  have q0:=(Hcell.out _ HZ.out.2.2.1).1
  have q0A:∀ o,(wz.alloc o).cell? ⟨rb,0,none⟩=some (.int .i64 (a:Int)):=fun o=>(Hcell.out _ (bl_alloc HZ.out.2.2.1 o)).1
  have q1:=(Hcell.out _ HZ.out.2.2.1).2.1
  have q2:=(Hcell.out _ HZ.out.2.2.1).2.2.1
  have q3:=(Hcell.out _ HZ.out.2.2.1).2.2.2
  have HJ:Hid (_):=HAL.out _ ns _ _ _ _ _ _ Hns.out HZ.out.2.2.1 HZ.out.2.2.2.1 (by rw[HKn.out];exact HZ.out.2.2.2.2.1)
  go_region_with (first | (go_at_call 92;refine Calls.mono HJ.out ?_;rintro e w9 ⟨rfl,hfin⟩))
  all_goals
   go_wp2_with fail
   go_ret
   rw[HKn.out] at hfin
   exact ⟨rfl,hfin⟩
end Go.Proofs.YtfmmllpjgkgeaaaGreatDoor

