import Derived.Test.YtfmmllpjgkgeaaaGreatDoorPartV11
set_option linter.unusedVariables false
set_option linter.unusedSimpArgs false
set_option maxHeartbeats 16000000
set_option maxRecDepth 100000
namespace Go.Proofs.YtfmmllpjgkgeaaaGreatDoor
open Go.RowKit Go.Maps Go.WideMaps

def newS (s o:StD) (d:Nat):Prop:=s.S d/\¬(o.S d/\(s.It d=none↔o.It d=none))
open Classical in
noncomputable def newI (s o:StD) (d:Nat):Option Value:=if newS s o d then s.It d else none
open Classical in
noncomputable def newTo (s o:StD) (ns:List Nat) (i:Nat) (d:Nat):Option Value:=if d∈ns.take i/\newS s o d then s.It d else none

theorem SliceD.at {w:World} {ao:Option Addr} {n cap:Nat} {ns:List Nat} (h:SliceD w (.slice ao n cap) ns) (i:Nat) (hi:i<ns.length):∃ b off,ao=some ⟨b,off,none⟩/\n=ns.length/\n<=cap/\w.cell? ⟨b,off+i*2,none⟩=some (.int .i64 (who ns[i]:Int))/\w.cell? ⟨b,off+i*2+1,none⟩=some (.int .i64 (nth ns[i]:Int)):=by
 rcases h with ⟨_,rfl⟩ | ⟨b,off,cap',h1,h2,h3,h4⟩
 ·simp at hi
 ·simp only[Value.slice.injEq] at h1
  obtain ⟨rfl,rfl,rfl⟩:=h1
  exact ⟨b,off,rfl,rfl,h2,(h4 i hi).1,(h4 i hi).2⟩
theorem SliceD.shape {w:World} {v:Value} {ns:List Nat} (h:SliceD w v ns):∃ ao cap,v=.slice ao ns.length cap:=by
 rcases h with ⟨rfl,rfl⟩ | ⟨b,off,cap,rfl,_⟩
 ·exact ⟨none,0,rfl⟩
 ·exact ⟨_,cap,rfl⟩

structure SN (w:World) (s o:StD) (ns:List Nat) (sv:Value) (ib cb lb B:Nat) (S:Nat->Prop) (It:Nat->Option Value) (wx:World):Prop where
 st:StoreS wx ib cb lb S It
 sat:s.At wx
 oat:o.At wx
 sl:SliceD wx sv ns
 olds:∀ k,Value.map s.io=.map (some k)\/Value.map s.co=.map (some k)\/Value.map s.lo=.map (some k)->k<w.heap.size
 oldo:∀ k,Value.map o.io=.map (some k)\/Value.map o.co=.map (some k)\/Value.map o.lo=.map (some k)->k<w.heap.size
 new:w.heap.size+3<=ib/\w.heap.size+3<=cb/\w.heap.size+3<=lb/\ib<B/\cb<B/\lb<B
 svn:∀ b,sv.ownBlock=some b->B<b
 bs:Blk wx w.heap.size #[.map s.io,.map s.co,.map s.lo] 102
 bo:Blk wx (w.heap.size+1) #[.map o.io,.map o.co,.map o.lo] 102
 r0:Blk wx (w.heap.size+2) #[.map none,.map none,.map none] 102
 bx:Blk wx B #[.map (some ib),.map (some cb),.map (some lb)] 102
 below:Below w.heap.size w wx
section
variable {w:World} {s o:StD} {ns:List Nat} {sv:Value} {ib cb lb B:Nat} {S S':Nat->Prop} {It It':Nat->Option Value} {wx wy:World}
theorem SN.turn (h:SN w s o ns sv ib cb lb B S It wx) (hc:Chg (fun k=>k=ib\/k=cb\/k=lb) wx wy) (hs:StoreS wy ib cb lb S' It'):SN w s o ns sv ib cb lb B S' It' wy:=by
 have hn:=h.new
 refine ⟨hs,h.sat.chg hc (fun k hk m=>by have:=h.olds k hk;omega),h.oat.chg hc (fun k hk m=>by have:=h.oldo k hk;omega),h.sl.chg hc (fun k hk m=>by have:=h.svn k hk;omega),h.olds,h.oldo,h.new,h.svn,h.bs.chg hc (by omega),h.bo.chg hc (by omega),h.r0.chg hc (by omega),h.bx.chg hc (by omega), ?_⟩
 exact h.below.trans ⟨hc.os,hc.tape,hc.output,hc.size,fun k hk=>hc.block k (Nat.lt_of_lt_of_le hk h.below.size) (by omega)⟩
theorem SN.mono (h:SN w s o ns sv ib cb lb B S It wx) (hb:Below wx.heap.size wx wy):SN w s o ns sv ib cb lb B S It wy:=h.turn (Chg.of_below hb) (h.st.below hb)
theorem SN.iff (h:SN w s o ns sv ib cb lb B S It wx) (hS:∀ n,1<=nth n->(S' n↔S n)) (hI:It'=It):SN w s o ns sv ib cb lb B S' It' wx:=by
 subst hI
 exact h.turn (Chg.refl _ _) ⟨h.st.ctx.iff hS,h.st.its,h.st.ne,fun n hn=>by have:=h.st.ok n hn;exact ⟨this.1,(hS n this.1.2.1).2 this.2⟩⟩
end
open Classical in
theorem newTo_step {s o:StD} {ns:List Nat} {i:Nat} (hi:i<ns.length) (hn:ns.Nodup):newTo s o ns (i+1)=fun k=>if k=ns[i]/\newS s o k then s.It k else newTo s o ns i k:=by
 funext k
 unfold newTo
 have:k∈ns.take (i+1)↔k∈ns.take i\/k=ns[i]:=by rw[List.take_succ_eq_append_getElem hi,List.mem_append,List.mem_singleton]
 by_cases h1:newS s o k
 ·by_cases h2:k=ns[i]
  ·rw[if_pos ⟨this.2 (Or.inr h2),h1⟩,if_pos ⟨h2,h1⟩]
  ·have hz:¬(k=ns[i]/\newS s o k):=fun h=>h2 h.1
   rw[if_neg hz]
   by_cases h3:k∈ns.take i
   ·have ha:k∈ns.take (i+1)/\newS s o k:=⟨this.2 (Or.inl h3),h1⟩
    have hb:k∈ns.take i/\newS s o k:=⟨h3,h1⟩
    rw[if_pos ha,if_pos hb]
   ·have ha:¬(k∈ns.take (i+1)/\newS s o k):=fun h=>(this.1 h.1).elim h3 h2
    have hb:¬(k∈ns.take i/\newS s o k):=fun h=>h3 h.1
    rw[if_neg ha,if_neg hb]
 ·rw[if_neg (fun h=>h1 h.2),if_neg (fun h=>h1 h.2),if_neg (fun h=>h1 h.2)]

theorem look_shape {It:Nat->Option Value} (n:Nat) (hv:∀ n v,It n=some v->ItemV v):∃ s0 x1 s2 x3,(im It (dotE n)).getD (.agg #[.string ⟨#[]⟩,.int .u8 0,.string ⟨#[]⟩,.int .i64 0])=.agg #[.string s0,.int .u8 x1,.string s2,.int .i64 x3]/\∀ v,It n=some v->v=.agg #[.string s0,.int .u8 x1,.string s2,.int .i64 x3]:=by
 rw[im_dot]
 cases h:It n with
 | none=>exact ⟨_,_,_,_,rfl,fun v hv=>by cases hv⟩
 | some v =>
  obtain ⟨s0,x1,s2,x3,rfl⟩:=hv n v h
  exact ⟨s0,x1,s2,x3,rfl,fun v hv=>by cases hv;rfl⟩

def AllC:Prop:=∀ (w:World) (co lo:Option Nat) (c:Nat->Nat) (L:Nat->Bool),CtxV w (.map co) (.map lo) c L ->
  Calls Tryz.prog 209 #[.agg #[.map co,.map lo]] w fun e w'=>∃ v ns,e=.returned v/\SliceD w' v ns/\ns.Nodup/\(∀ d,d∈ns↔1<=nth d/\inK c L d)/\(∀ b,v.ownBlock=some b->w.heap.size<=b)/\Below w.heap.size w w'

open Classical in
theorem Since_of (hall:AllC) (w:World) (s o:StD) (h:s.At w) (ho:o.At w) :
  Calls Tryz.prog 151 #[.agg #[.map s.io,.map s.co,.map s.lo],.agg #[.map o.io,.map o.co,.map o.lo]] w fun e w'=>∃ ib cb lb,e=.returned (.agg #[.map (some ib),.map (some cb),.map (some lb)])/\StoreS w' ib cb lb (newS s o) (newI s o)/\(w.heap.size<=ib/\w.heap.size<=cb/\w.heap.size<=lb)/\Below w.heap.size w w':=by
 have HL:Hid AllC:=hall
 clear hall
 have HS:Hid (s.At w):=h
 have HO:Hid (o.At w):=ho
 clear h ho
 go_enter Tryz.func151,Tryz.ntmps151
 go_wp2_with fail
 have k0:Blk (((w.alloc (.cells #[.map s.io,.map s.co,.map s.lo] 102)).alloc (.cells #[.map o.io,.map o.co,.map o.lo] 102)).alloc (.cells #[.map none,.map none,.map none] 102)) w.heap.size #[.map s.io,.map s.co,.map s.lo] 102:=((Blk.new w _ _).alloc _).alloc _
 have k1:Blk (((w.alloc (.cells #[.map s.io,.map s.co,.map s.lo] 102)).alloc (.cells #[.map o.io,.map o.co,.map o.lo] 102)).alloc (.cells #[.map none,.map none,.map none] 102)) (w.heap.size+1) #[.map o.io,.map o.co,.map o.lo] 102:=by
  have:=(Blk.new (w.alloc (.cells #[.map s.io,.map s.co,.map s.lo] 102)) #[.map o.io,.map o.co,.map o.lo] 102).alloc (.cells #[.map none,.map none,.map none] 102)
  rwa [World.size_alloc] at this
 have k2:Blk (((w.alloc (.cells #[.map s.io,.map s.co,.map s.lo] 102)).alloc (.cells #[.map o.io,.map o.co,.map o.lo] 102)).alloc (.cells #[.map none,.map none,.map none] 102)) (w.heap.size+2) #[.map none,.map none,.map none] 102:=by
  have:=Blk.new ((w.alloc (.cells #[.map s.io,.map s.co,.map s.lo] 102)).alloc (.cells #[.map o.io,.map o.co,.map o.lo] 102)) #[.map none,.map none,.map none] 102
  simp only[World.size_alloc] at this
  exact this
 have hb0:Below w.heap.size w (((w.alloc (.cells #[.map s.io,.map s.co,.map s.lo] 102)).alloc (.cells #[.map o.io,.map o.co,.map o.lo] 102)).alloc (.cells #[.map none,.map none,.map none] 102)):=(((Below.refl _ w).alloc (Nat.le_refl _) _).alloc (by simp) _).alloc (by simp;omega) _
 have e1:(((w.alloc (.cells #[.map s.io,.map s.co,.map s.lo] 102)).alloc (.cells #[.map o.io,.map o.co,.map o.lo] 102)).alloc (.cells #[.map none,.map none,.map none] 102)).heap.size=w.heap.size+3:=by simp
 generalize (((w.alloc (.cells #[.map s.io,.map s.co,.map s.lo] 102)).alloc (.cells #[.map o.io,.map o.co,.map o.lo] 102)).alloc (.cells #[.map none,.map none,.map none] 102))=w0 at *
 refine Calls.mono (Gone_any _ (.slice none 0 0) [] (Or.inl ⟨rfl,rfl⟩) (by simp) (by simp)) ?_
 rintro e w1 ⟨ib,cb,lb,rfl,hst,hnew,hb1⟩
 have hlt:=hst.lt
 rw[e1] at hnew
 have HA:Hid (∀ ob,ob=.cells #[.map (some ib),.map (some cb),.map (some lb)] 102->∀ W ns sv,Below (w1.alloc ob).heap.size (w1.alloc ob) W->SliceD W sv ns->(∀ b,sv.ownBlock=some b->(w1.alloc ob).heap.size<=b)->SN w s o ns sv ib cb lb w1.heap.size (fun d=>d∈ns.take 0/\newS s o d) (newTo s o ns 0) W):=fun ob hob W ns sv hbW hsl hsv=>by
  subst hob
  have hbw:Below w.heap.size w w1:=hb0.trans (hb1.mono (by omega))
  have hz:=(Below.refl _ w1).alloc (Nat.le_refl _) (.cells #[.map (some ib),.map (some cb),.map (some lb)] 102)
  have hzW:=hz.trans (hbW.mono hz.size)
  have hbW':Below w.heap.size w W:=hbw.trans (hzW.mono hbw.size)
  have e2:newTo s o ns 0=fun _=>none:=by funext k;unfold newTo;rw[if_neg (by simp)]
  have hst2:=hst.below hzW
  have hs1:=hb1.size
  refine ⟨⟨hst2.ctx.iff (fun n _=>by simp),by rw[e2];exact hst2.its,hst2.ne,fun n hn=>by rw[e2] at hn;exact absurd rfl hn⟩,HS.out.chg (M:=fun _=>False) (Chg.of_below hbW') (fun _ _ h=>h),HO.out.chg (M:=fun _=>False) (Chg.of_below hbW') (fun _ _ h=>h),hsl,fun k hk=>HS.out.r.lt k hk,fun k hk=>HO.out.r.lt k hk,by omega,fun b hb=>by have:=hsv b hb;simp at this;omega,(k0.below hb1).below hzW,(k1.below hb1).below hzW,(k2.below hb1).below hzW, ?_,hbW'⟩
  exact (hbW.block _ (by simp)).trans (Blk.new w1 _ _)
 have HC:Hid (∀ ob,∃ c L,CtxV (w1.alloc ob) (.map s.co) (.map s.lo) c L/\∀ d,1<=nth d->(s.S d↔inK c L d)):=fun ob=>by
  have hbw:Below w.heap.size w w1:=hb0.trans (hb1.mono (by omega))
  obtain ⟨c,L,h1,_,h2⟩:=HS.out.r.ctx
  exact ⟨c,L,h1.below (hbw.trans (((Below.refl _ w1).alloc (Nat.le_refl _) ob).mono hbw.size)),h2⟩
 have Hs1:Hid (∀ ob,(w1.alloc ob).cell? ⟨w.heap.size,1,none⟩=some (.map s.co)/\(w1.alloc ob).cell? ⟨w.heap.size,2,none⟩=some (.map s.lo)):=fun ob=>⟨(((k0.below hb1).alloc ob).cell 1).trans rfl,(((k0.below hb1).alloc ob).cell 2).trans rfl⟩
 have c1:=fun ob=>(Hs1.out ob).1
 have c2:=fun ob=>(Hs1.out ob).2
 clear hst hb1 k0 k1 k2 hb0 e1 HS HO Hs1 hnew hlt
 go_wp2_with fail
 obtain ⟨c,L,hC,hcL⟩:=HC.out (.cells #[.map (some ib),.map (some cb),.map (some lb)] 102)
 refine Calls.mono (HL.out _ s.co s.lo c L hC) ?_
 rintro e w2 ⟨sv,ns,rfl,hsl,hnd,hmem,hsv,hb2⟩
 obtain ⟨ao,cap,hsh⟩:=hsl.shape
 have HN:Hid (ns.Nodup/\∀ d,d∈ns↔1<=nth d/\s.S d):=⟨hnd,fun d=>(hmem d).trans (and_congr_right fun hd=>(hcL d hd).symm)⟩
 have Hok:Hid (∀ d∈ns,okD d):=fun d hd=>by
  obtain ⟨h1,h2 | h2⟩:=(hmem d).1 hd
  ·have h3:=hC.c501 (who d)
   exact ⟨hC.c5 _ (by omega),h1,by omega⟩
  ·exact (hC.l501 d h2).1
 have hA:=HA.out _ rfl w2 ns sv hb2 hsl hsv
 have hlen:ns.length<=3072:=nodup_lt 3072 ns hnd (fun d hd=>okD_lt (Hok.out d hd))
 subst hsh
 clear HA HC hC hcL hsl hnd hmem hsv hb2 c1 c2
 have HA:Hid (SN w s o ns (.slice ao ns.length cap) ib cb lb w1.heap.size (fun d=>d∈ns.take 0/\newS s o d) (newTo s o ns 0) w2):=hA
 clear hA
 go_wp2_with fail
 go_loopg [17] ns.length (fun g v17 wx=>∃ i:Nat,i+g=ns.length/\v17=.int .i64 (i:Int)/\SN w s o ns (.slice ao ns.length cap) ib cb lb w1.heap.size (fun d=>d∈ns.take i/\newS s o d) (newTo s o ns i) wx)
 case atStart=>exact ⟨0,by omega,rfl,HA.out⟩
 case round =>
  obtain ⟨i,hig,rfl,hJ⟩:=hrel
  have HJ:Hid (SN w s o ns (.slice ao ns.length cap) ib cb lb w1.heap.size (fun d=>d∈ns.take i/\newS s o d) (newTo s o ns i) wr):=hJ
  clear HA
  by_cases hi:i<ns.length
  ·obtain ⟨b,off,hao,_,hcp,q0,q1⟩:=hJ.sl.at i hi
   subst hao
   obtain ⟨n,hn⟩:∃ n,n=ns[i]:=⟨_,rfl⟩
   rw[<- hn] at q0 q1
   have hmem:n∈ns:=by rw[hn];exact List.getElem_mem hi
   have hok:=Hok.out n hmem
   have hSn:s.S n:=((HN.out.2 n).1 hmem).2
   have hn1:=hok.2.1
   have hn5:=hok.1
   obtain ⟨kl,hkl⟩:=keyE n (by omega)
   have Hstep:Hid (newTo s o ns (i+1)=fun k=>if k=n/\newS s o k then s.It k else newTo s o ns i k):=by unfold Hid;rw[newTo_step hi HN.out.1,hn]
   have HmemS:Hid (∀ k,k∈ns.take (i+1)↔k∈ns.take i\/k=n):=fun k=>by rw[List.take_succ_eq_append_getElem hi,<- hn,List.mem_append,List.mem_singleton]
   clear hn
   obtain ⟨s0,x1,s2,x3,hu,hvs⟩:=look_shape (It:=s.It) n hJ.sat.v
   obtain ⟨y0,y1,y2,y3,huo,_⟩:=look_shape (It:=o.It) n hJ.oat.v
   obtain ⟨here,hhere⟩:∃ b:Bool,(s.It n).isSome=b:=⟨_,rfl⟩
   obtain ⟨was,hwas⟩:∃ b:Bool,(o.It n).isSome=b:=⟨_,rfl⟩
   have hc:(im s.It (dotE n)).isSome=here:=by rw[im_dot];exact hhere
   have hco:(im o.It (dotE n)).isSome=was:=by rw[im_dot];exact hwas
   have Hvs:Hid (∀ v,s.It n=some v->v=.agg #[.string s0,.int .u8 x1,.string s2,.int .i64 x3]):=hvs
   obtain ⟨Ni,hNi⟩:=hJ.sat.r.its
   obtain ⟨No,hNo⟩:=hJ.oat.r.its
   have HI:Hid (∀ wy,Below wr.heap.size wr wy->MapO Tryz.prog 134 wy (.map s.io) Ni (im s.It)):=fun wy hb=>hNi.below hb
   have HIo:Hid (∀ wy,Below wr.heap.size wr wy->MapO Tryz.prog 134 wy (.map o.io) No (im o.It)):=fun wy hb=>hNo.below hb
   have a0:=(hJ.bs.cell 0).trans rfl
   have b0:=(hJ.bo.cell 0).trans rfl
   have b1:=(hJ.bo.cell 1).trans rfl
   have b2:=(hJ.bo.cell 2).trans rfl
   have hlt:=hJ.bx.lt
   have hjn:=hJ.new
   have hlw:w.heap.size+2<wr.heap.size:=by omega
   have Hc:Hid (∃ c L,CtxV wr (.map o.co) (.map o.lo) c L/\∀ d,1<=nth d->(o.S d↔inK c L d)):=by
    obtain ⟨c,L,h1,_,h2⟩:=hJ.oat.r.ctx
    exact ⟨c,L,h1,h2⟩
   clear hJ hvs hNi hNo
   have z0:∀ ob,(wr.alloc ob).cell? ⟨w.heap.size,0,none⟩=some (.map s.io):=fun ob=>((HJ.out.bs.alloc ob).cell 0).trans rfl
   have z1:∀ ob ob',((wr.alloc ob).alloc ob').cell? ⟨w.heap.size+1,0,none⟩=some (.map o.io):=fun ob ob'=>(((HJ.out.bo.alloc ob).alloc ob').cell 0).trans rfl
   have z2:∀ ob ob' ob'',(((wr.alloc ob).alloc ob').alloc ob'').cell? ⟨w.heap.size+1,1,none⟩=some (.map o.co):=fun ob ob' ob''=>((((HJ.out.bo.alloc ob).alloc ob').alloc ob'').cell 1).trans rfl
   have z3:∀ ob ob' ob'',(((wr.alloc ob).alloc ob').alloc ob'').cell? ⟨w.heap.size+1,2,none⟩=some (.map o.lo):=fun ob ob' ob''=>((((HJ.out.bo.alloc ob).alloc ob').alloc ob'').cell 2).trans rfl
   go_wp2_with (first | (at_lookup;refine wpList_lookO_ok rfl (.tmp 23) (.tmp 24) 96 rfl 86 kDot Tryz.underlying96 (zCh _) rfl (HI.out _ ?_) (dotE n) _ rfl hkl _ hu _ hc ?_;(go_grown)) | (at_lookup;refine wpList_lookO_ok rfl (.tmp 30) (.tmp 31) 96 rfl 86 kDot Tryz.underlying96 (zCh _) rfl (HIo.out _ ?_) (dotE n) _ rfl hkl _ huo _ hco ?_;(go_grown)))
   have hW:∀ W,W=(((wr.alloc (.cells #[.int .i64 (who n:Int),.int .i64 (nth n:Int)] 134)).alloc (.cells #[.string s0,.int .u8 x1,.string s2,.int .i64 x3] 86)).alloc (.cells #[.string y0,.int .u8 y1,.string y2,.int .i64 y3] 86))->Below wr.heap.size wr W/\Blk W wr.heap.size #[.int .i64 (who n:Int),.int .i64 (nth n:Int)] 134/\Blk W (wr.heap.size+1) #[.string s0,.int .u8 x1,.string s2,.int .i64 x3] 86:=fun W hW=>by
    subst hW
    refine ⟨(((Below.refl _ wr).alloc (Nat.le_refl _) _).alloc (by simp) _).alloc (by simp;omega) _,((Blk.new wr _ _).alloc _).alloc _, ?_⟩
    have:=(Blk.new (wr.alloc (.cells #[.int .i64 (who n:Int),.int .i64 (nth n:Int)] 134)) #[.string s0,.int .u8 x1,.string s2,.int .i64 x3] 86).alloc (.cells #[.string y0,.int .u8 y1,.string y2,.int .i64 y3] 86)
    rwa [World.size_alloc] at this
   have hW:=hW _ rfl
   generalize (((wr.alloc (.cells #[.int .i64 (who n:Int),.int .i64 (nth n:Int)] 134)).alloc (.cells #[.string s0,.int .u8 x1,.string s2,.int .i64 x3] 86)).alloc (.cells #[.string y0,.int .u8 y1,.string y2,.int .i64 y3] 86))=W3 at *
   obtain ⟨hb3,kd,kc⟩:=hW
   obtain ⟨c,L,hC,hcL⟩:=Hc.out
   have Hho:Hid (o.S n↔inK c L n):=hcL n hn1
   refine Calls.mono (has_any W3 _ _ c n L (hC.below hb3) hn5) ?_
   rintro e w4 ⟨rfl,hb4⟩
   have hJ4:SN w s o ns (.slice (some ⟨b,off,none⟩) ns.length cap) ib cb lb w1.heap.size (fun d=>d∈ns.take i/\newS s o d) (newTo s o ns i) w4:=HJ.out.mono (hb3.trans (hb4.mono hb3.size))
   have kd4:=kd.below hb4
   have kc4:=kc.below hb4
   have hlt4:wr.heap.size+1<w4.heap.size:=kc4.lt
   clear hb3 hb4 kd kc Hc hC hcL z0 z1 z2 z3 a0 b0 b1 b2 q0 q1 HI HIo hc hco hu huo
   obtain ⟨hh,hhh⟩:∃ hh:Bool,hh=(decide (nth n<=c (who n)) || L n):=⟨_,rfl⟩
   have HH:Hid (hh=true↔o.S n):=by unfold Hid;rw[Hho.out,hhh];simp[inK]
   rw[<- hhh]
   clear hhh Hho
   have Hold:Hid ((here=was)->o.S n->newTo s o ns (i+1)=newTo s o ns i/\∀ k,(k∈ns.take (i+1)/\newS s o k)↔(k∈ns.take i/\newS s o k)):=fun he hos=>by
    have hnn:¬newS s o n:=fun h=>h.2 ⟨hos,by rw[<- Option.not_isSome_iff_eq_none,<- Option.not_isSome_iff_eq_none,hhere,hwas,he]⟩
    refine ⟨?_,fun k=>?_⟩
    ·rw[Hstep.out];funext k
     by_cases e:k=n
     ·subst e;rw[if_neg (fun h=>hnn h.2)]
     ·rw[if_neg (fun h=>e h.1)]
    ·rw[HmemS.out]
     constructor
     ·rintro ⟨h1 | rfl,h2⟩
      ·exact ⟨h1,h2⟩
      ·exact absurd h2 hnn
     ·rintro ⟨h1,h2⟩;exact ⟨Or.inl h1,h2⟩
   have Hnew:Hid (¬(o.S n/\here=was)->newS s o n):=fun h=>⟨hSn,fun ⟨h1,h2⟩=>h ⟨h1,by
    rw[<- hhere,<- hwas]
    cases ha:s.It n with
    | none=>rw[h2.1 ha]
    | some v=>cases hb:o.It n with
     | none=>have:=h2.2 hb;rw[ha] at this;cases this
     | some v'=>rfl⟩⟩
   have HmemK:Hid (∀ k,newS s o n->((k∈ns.take (i+1)/\newS s o k)↔(k∈ns.take i/\newS s o k)\/k=n)):=fun k hk=>by
    rw[HmemS.out]
    constructor
    ·rintro ⟨h1 | rfl,h2⟩
     ·exact Or.inl ⟨h1,h2⟩
     ·exact Or.inr rfl
    ·rintro (⟨h1,h2⟩ | rfl)
     ·exact ⟨Or.inl h1,h2⟩
     ·exact ⟨Or.inr rfl,hk⟩
   have HJ4:Hid (SN w s o ns (.slice (some ⟨b,off,none⟩) ns.length cap) ib cb lb w1.heap.size (fun d=>d∈ns.take i/\newS s o d) (newTo s o ns i) w4):=hJ4
   by_cases hsk:hh=true/\here=was
   ·obtain ⟨rfl,rfl⟩:=hsk
    have hfin:=Hold.out rfl (HH.out.1 rfl)
    clear hJ4 Hnew HmemK Hstep HmemS Hold
    go_wp2_with fail
    go_roundg (ns.length-(i+1))
    case measure=>omega
    case rel=>exact ⟨i+1,by omega,by go_num,HJ4.out.iff (fun k _=>hfin.2 k) hfin.1⟩
   ·have hnew:newS s o n:=Hnew.out (fun h=>hsk ⟨HH.out.2 h.1,h.2⟩)
    have g0:=(hJ4.bx.cell 0).trans rfl
    have g1:=(hJ4.bx.cell 1).trans rfl
    have g2:=(hJ4.bx.cell 2).trans rfl
    have d0:=(kd4.cell 0).trans rfl
    have d1:=(kd4.cell 1).trans rfl
    have hpick:hh=false\/(hh=true/\(here == was)=false):=by
     cases hh with
     | false=>exact Or.inl rfl
     | true=>exact Or.inr ⟨rfl,by simpa using fun h=>hsk ⟨rfl,h⟩⟩
    have HAdd:Hid (Calls Tryz.prog 201 #[.agg #[.map (some cb),.map (some lb)],dotE n] w4 fun e w'=>e=.returned (.tuple #[])/\SN w s o ns (.slice (some ⟨b,off,none⟩) ns.length cap) ib cb lb w1.heap.size (fun d=>d∈ns.take (i+1)/\newS s o d) (newTo s o ns i) w'/\Blk w' wr.heap.size #[.int .i64 (who n:Int),.int .i64 (nth n:Int)] 134/\Blk w' (wr.heap.size+1) #[.string s0,.int .u8 x1,.string s2,.int .i64 x3] 86):=by
     refine Calls.mono (add_any w4 cb lb n _ hJ4.st.ctx hok) ?_
     rintro e w5 ⟨rfl,h1,h2⟩
     have hch:Chg (fun k=>k=ib\/k=cb\/k=lb) w4 w5:=h2.mono (fun k _ hk=>Or.inr hk)
     refine ⟨rfl,(hJ4.turn (S':=fun k=>(k∈ns.take i/\newS s o k)\/k=n) (It':=newTo s o ns i) hch ⟨h1,hJ4.st.its.imp fun N g=>g.block (h2.block _ g.lt (by have:=hJ4.st.ne;omega)),hJ4.st.ne,fun k hk=>by have:=hJ4.st.ok k hk;exact ⟨this.1,Or.inl this.2⟩⟩).iff (fun k _=>HmemK.out k hnew) rfl,kd4.chg h2 (by omega),kc4.chg h2 (by omega)⟩
    have HT:Hid (n∈ns.take (i+1)):=(HmemS.out n).2 (Or.inr rfl)
    clear hJ4 Hnew HmemK HmemS Hold HJ4 kd4 kc4 hsk
    have Hgo:Hid (newS s o n):=hnew
    have HIn:Hid (here=false->newTo s o ns (i+1)=newTo s o ns i):=fun hf=>by
     rw[Hstep.out];funext k
     by_cases e:k=n/\newS s o k
     ·rw[if_pos e]
      obtain ⟨rfl,e2⟩:=e
      have hs0:s.It k=none:=by rw[<- Option.not_isSome_iff_eq_none,hhere,hf];simp
      unfold newTo
      rw[hs0];split <;> rfl
     ·rw[if_neg e]
    have HIs:Hid (here=true->newTo s o ns (i+1)=fun k=>if k=n then some (.agg #[.string s0,.int .u8 x1,.string s2,.int .i64 x3]) else newTo s o ns i k):=fun hf=>by
     rw[Hstep.out];funext k
     by_cases e:k=n
     ·subst e
      rw[if_pos ⟨rfl,Hgo.out⟩,if_pos rfl]
      obtain ⟨v,hv⟩:=Option.isSome_iff_exists.1 (hhere.trans hf)
      rw[hv,Hvs.out v hv]
     ·rw[if_neg (fun h=>e h.1),if_neg e]
    clear Hstep hnew hhere hwas Hvs
    rcases hpick with rfl | ⟨rfl,hpk⟩
    ·go_wp2_with fail
     refine Calls.mono HAdd.out ?_
     rintro e w5 ⟨rfl,hJ5,kd5,kc5⟩
     have HJ5:Hid (SN w s o ns (.slice (some ⟨b,off,none⟩) ns.length cap) ib cb lb w1.heap.size (fun d=>d∈ns.take (i+1)/\newS s o d) (newTo s o ns i) w5):=hJ5
     have g0:=(hJ5.bx.cell 0).trans rfl
     have d0:=(kd5.cell 0).trans rfl
     have d1:=(kd5.cell 1).trans rfl
     have c0:=(kc5.cell 0).trans rfl
     have c1:=(kc5.cell 1).trans rfl
     have c2:=(kc5.cell 2).trans rfl
     have c3:=(kc5.cell 3).trans rfl
     obtain ⟨Nj,hNj⟩:=hJ5.st.its
     have hNb:Nj<=3072:=items_bound hNj (fun k hk=>(HJ5.out.st.ok k hk).1)
     have hmx:Nj<maxLen:=by unfold maxLen;omega
     clear hJ5 kd5 kc5 HAdd
     cases here with
     | false =>
      have hfin:=HIn.out rfl
      go_wp2_with fail
      go_roundg (ns.length-(i+1))
      case measure=>omega
      case rel=>exact ⟨i+1,by omega,by go_num,HJ5.out.iff (fun k _=>Iff.rfl) hfin⟩
     | true =>
      have hfin:=HIs.out rfl
      go_wp2_with (first | (at_mapUpdate;refine wpList_store rfl (.tmp 50) (.tmp 51) (.tmp 52) 96 rfl 86 kDot Tryz.underlying96 rfl hNj hmx (dotE n) (.agg #[.string s0,.int .u8 x1,.string s2,.int .i64 x3]) _ rfl rfl hkl ?_;intro w6 hm6 hg6 hs6;have hJ6:=(HJ5.out.turn ((Chg.refl _ w5).grown hg6 (fun k e=>by cases e;exact Or.inl (Or.inl rfl))) (HJ5.out.st.put hg6 hm6 hok (show n∈ns.take (i+1)/\newS s o n from ⟨HT.out,Hgo.out⟩)));go_frame))
      go_roundg (ns.length-(i+1))
      case measure=>omega
      case rel=>exact ⟨i+1,by omega,by go_num,hJ6.iff (fun k _=>Iff.rfl) hfin⟩
    ·have hpd:decide (here=was)=false:=by simpa using hpk
     go_wp2_with fail
     refine Calls.mono HAdd.out ?_
     rintro e w5 ⟨rfl,hJ5,kd5,kc5⟩
     have HJ5:Hid (SN w s o ns (.slice (some ⟨b,off,none⟩) ns.length cap) ib cb lb w1.heap.size (fun d=>d∈ns.take (i+1)/\newS s o d) (newTo s o ns i) w5):=hJ5
     have g0:=(hJ5.bx.cell 0).trans rfl
     have d0:=(kd5.cell 0).trans rfl
     have d1:=(kd5.cell 1).trans rfl
     have c0:=(kc5.cell 0).trans rfl
     have c1:=(kc5.cell 1).trans rfl
     have c2:=(kc5.cell 2).trans rfl
     have c3:=(kc5.cell 3).trans rfl
     obtain ⟨Nj,hNj⟩:=hJ5.st.its
     have hNb:Nj<=3072:=items_bound hNj (fun k hk=>(HJ5.out.st.ok k hk).1)
     have hmx:Nj<maxLen:=by unfold maxLen;omega
     clear hJ5 kd5 kc5 HAdd
     cases here with
     | false =>
      have hfin:=HIn.out rfl
      go_wp2_with fail
      go_roundg (ns.length-(i+1))
      case measure=>omega
      case rel=>exact ⟨i+1,by omega,by go_num,HJ5.out.iff (fun k _=>Iff.rfl) hfin⟩
     | true =>
      have hfin:=HIs.out rfl
      go_wp2_with (first | (at_mapUpdate;refine wpList_store rfl (.tmp 50) (.tmp 51) (.tmp 52) 96 rfl 86 kDot Tryz.underlying96 rfl hNj hmx (dotE n) (.agg #[.string s0,.int .u8 x1,.string s2,.int .i64 x3]) _ rfl rfl hkl ?_;intro w6 hm6 hg6 hs6;have hJ6:=(HJ5.out.turn ((Chg.refl _ w5).grown hg6 (fun k e=>by cases e;exact Or.inl (Or.inl rfl))) (HJ5.out.st.put hg6 hm6 hok (show n∈ns.take (i+1)/\newS s o n from ⟨HT.out,Hgo.out⟩)));go_frame))
      go_roundg (ns.length-(i+1))
      case measure=>omega
      case rel=>exact ⟨i+1,by omega,by go_num,hJ6.iff (fun k _=>Iff.rfl) hfin⟩
  ·have x0:=(hJ.bx.cell 0).trans rfl
   have x1:=(hJ.bx.cell 1).trans rfl
   have x2:=(hJ.bx.cell 2).trans rfl
   have r0:=(hJ.r0.cell 0).trans rfl
   have r1:=(hJ.r0.cell 1).trans rfl
   have r2:=(hJ.r0.cell 2).trans rfl
   have f0:=hJ.r0.frozen
   have hjn:=hJ.new
   have htk:ns.take i=ns:=List.take_of_length_le (by omega)
   clear hJ
   go_wp2_with fail
   have hch:Chg (fun k=>k=w.heap.size+2) wr (((wr.setCell ⟨w.heap.size+2,0,none⟩ (.map (some ib))).setCell ⟨w.heap.size+2,1,none⟩ (.map (some cb))).setCell ⟨w.heap.size+2,2,none⟩ (.map (some lb))):=(((Chg.refl (fun k=>k=w.heap.size+2) wr).setCell (p:=⟨w.heap.size+2,0,none⟩) rfl _).setCell (p:=⟨w.heap.size+2,1,none⟩) rfl _).setCell (p:=⟨w.heap.size+2,2,none⟩) rfl _
   refine bodyPost_ret (v:=.agg #[.map (some ib),.map (some cb),.map (some lb)]) (by simp[results,Tryz.results151,go_sem,r0,r1,r2,cs_same,cs_oth,World.cell?_setCell_other]) rfl ⟨ib,cb,lb,rfl, ?_,by omega, ?_⟩
   ·have h:=HJ.out.st.chg hch (by omega) (by omega) (by omega)
    rw[htk] at h
    have hI:newTo s o ns i=newI s o:=by
     funext k
     unfold newTo newI
     rw[htk]
     by_cases hk:newS s o k
     ·by_cases hm:k∈ns
      ·rw[if_pos ⟨hm,hk⟩,if_pos hk]
      ·rw[if_neg (fun h=>hm h.1),if_pos hk]
       cases hv:s.It k with
       | none=>rfl
       | some v=>exact absurd ((HN.out.2 k).2 ⟨((HJ.out.sat.r.ok k (by rw[hv];simp)).1).2.1,hk.1⟩) hm
     ·rw[if_neg (fun h=>hk h.2),if_neg hk]
    rw[hI] at h
    exact ⟨h.ctx.iff (fun k hk=>⟨fun hs=>⟨(HN.out.2 k).2 ⟨hk,hs.1⟩,hs⟩,fun hs=>hs.2⟩),h.its,h.ne,fun k hk=>⟨(h.ok k hk).1,(h.ok k hk).2.2⟩⟩
   ·exact ((HJ.out.below.setCell (p:=⟨w.heap.size+2,0,none⟩) (by show w.heap.size<=w.heap.size+2;omega) _).setCell (p:=⟨w.heap.size+2,1,none⟩) (by show w.heap.size<=w.heap.size+2;omega) _).setCell (p:=⟨w.heap.size+2,2,none⟩) (by show w.heap.size<=w.heap.size+2;omega) _

theorem sumTo_eq0 (f:Nat->Nat):∀ n,sumTo f n=0↔∀ i,i<n->f i=0
 | 0=>by simp[sumTo]
 | n+1=>by
  show sumTo f n+f n=0↔_
  have ih:=sumTo_eq0 f n
  constructor
  ·intro h i hi
   by_cases e:i=n
   ·subst e;omega
   ·exact ih.1 (by omega) i (by omega)
  ·intro h
   have:=ih.2 (fun i hi=>h i (by omega))
   have:=h n (by omega)
   omega
theorem size_zero {w:World} {lo:Option Nat} {N':Nat} {K:Nat->Nat} {L:Nat->Bool} (h2:MapO Tryz.prog 134 w (.map lo) N' (lm L)) (h3:∀ a,K a<=501) (h4:∀ a,K a≠0->a<=5) (h5:∀ d,L d=true->okD d/\K (who d)<nth d):N'+sizeK K=0↔∀ d,1<=nth d->¬inK K L d:=by
 have hN:N'=0↔∀ d,L d=false:=by
  rcases h2 with ⟨_,h,h'⟩ | ⟨b,_,h⟩
  ·refine ⟨fun _ d=>?_,fun _=>h⟩
   have:=congrFun h' (dotE d)
   have h6:=lm_some d L
   rw[this] at h6
   exact h6.symm
  ·refine ⟨fun e d=>?_,fun e=>h.zero kDot (fun key=>by simp[lm,e])⟩
   obtain ⟨l,_,h7,h8⟩:=h.count kDot
   have:l=[]:=List.length_eq_zero_iff.1 (by omega)
   subst this
   have h9:lm L (dotE d)=none:=Classical.byContradiction fun hc=>by simpa using (h8 _).2 hc
   have h6:=lm_some d L
   rw[h9] at h6
   exact h6.symm
 have hK:sizeK K=0↔∀ a,K a=0:=by
  unfold sizeK
  rw[sumTo_eq0]
  exact ⟨fun h a=>Classical.byContradiction fun hc=>hc (h a (by have:=h4 a hc;omega)),fun h i _=>h i⟩
 have:N'+sizeK K=0↔N'=0/\sizeK K=0:=by omega
 rw[this,hN,hK]
 constructor
 ·rintro ⟨a,b⟩ d hd (h | h)
  ·rw[b] at h;omega
  ·rw[a] at h;cases h
 ·intro h
  refine ⟨fun d=>?_,fun a=>Classical.byContradiction fun hc=>?_⟩
  ·cases hd:L d with
   | false=>rfl
   | true=>exact absurd (Or.inr hd) (h d (h5 d hd).1.2.1)
  ·exact h (mkD a 1) (by rw[nth_mk (by omega)];omega) (Or.inl (by rw[nth_mk (by omega),who_mk (by omega)];omega))

theorem size_gen (w:World) (co lo:Option Nat) (K:Nat->Nat) (L:Nat->Bool) (h:CtxV w (.map co) (.map lo) K L) :
  Calls Tryz.prog 136 #[.agg #[.map co,.map lo]] w fun e w'=>∃ n:Nat,e=.returned (.int .i64 (n:Int))/\(n=0↔∀ d,1<=nth d->¬inK K L d)/\Below w.heap.size w w':=by
 obtain ⟨⟨N,h1⟩,⟨N',h2⟩,h3,h4,h5⟩:=h
 have hN3:N'<=3072:=by
  rcases h2 with ⟨_,h,_⟩ | ⟨b,_,h⟩
  ·omega
  ·exact loose_bound h (fun d hd=>(h5 d hd).1)
 have HZ:Hid (N'+sizeK K=0↔∀ d,1<=nth d->¬inK K L d):=size_zero h2 h3 h4 h5
 have hlen:∀ wx,Below w.heap.size w wx->∀ ty,(Builtin.len_ #[98] ty #[.map lo]).run Tryz.prog wx=.ok (.int .i64 (N':Int)) wx:=fun wx hb ty=>(h2.below hb).len Tryz.underlying98 ty
 have hle:∀ o ty,(Builtin.len_ #[98] ty #[.map lo]).run Tryz.prog (w.alloc o)=.ok (.int .i64 (N':Int)) (w.alloc o):=fun o ty=>hlen _ ((Below.refl _ w).alloc (Nat.le_refl _) o) ty
 have HM:Hid (∀ wy,Below w.heap.size w wy->MapO Tryz.prog 3 wy (.map co) N (cm K)):=fun wy hb=>h1.below hb
 have H501:Hid (∀ a,K a<=501):=h3
 have H5:Hid (∀ a,K a≠0->a<=5):=h4
 clear h1 h2 h3 h4 h5 hlen
 go_enter Tryz.func136,Tryz.ntmps136
 go_wp2_with (first | (at_range;refine wpList_rangeO rfl (.tmp 10) 97 rfl 3 kInt Tryz.underlying97 rfl (HM.out _ ?_) ?_;(go_grown);intro w3 hr3 hg3 hs3;have hb3:Below w.heap.size w w3:=(((Below.refl w.heap.size w).alloc (Nat.le_refl _) _).grown hg3 (by simp) (fun k e=>by cases e));rw[World.size_alloc] at hr3 ⊢;clear HM hle hg3 hs3;go_frame))
 go_loopg [3] N (fun g v3 wx=>∃ (left:Value->Prop) (q:Nat),g=q/\RangeO Tryz.prog 3 wx (.map co) (w.heap.size+1) N (cm K) left q/\Below w.heap.size w wx/\v3=.int .i64 ((N'+metK K left:Nat):Int))
 case atStart=>exact ⟨_,_,rfl,hr3,hb3,by rw[metK_start];rfl⟩
 case round =>
  obtain ⟨left,q,hq,hR,hb,rfl⟩:=hrel
  have HR:Hid (RangeO Tryz.prog 3 wr (.map co) (w.heap.size+1) N (cm K) left q):=hR
  have HB:Hid (Below w.heap.size w wr):=hb
  have Hsh:Hid (∀ key v,left key->cm K key=some v->∃ x:Nat,key=(fun x:Nat=>Value.int .i64 (x:Int)) x/\v=(fun x:Nat=>Value.int .i64 (K x:Int)) x):=fun key v _ hk=>by obtain ⟨x,h1,h2,_⟩:=cm_shape hk;exact ⟨x,h1,h2⟩
  have hsz:w.heap.size+1<wr.heap.size:=hR.lt
  have hml:metK K left<=3006:=metK_le H501.out
  clear hR hb hr3 hb3
  go_wp2_with (first | (at_next;refine wpList_nextO rfl (.tmp 11) rfl kInt (fun x:Nat=>.int .i64 (x:Int)) (fun x:Nat=>.int .i64 (K x:Int)) rfl HR.out Hsh.out ?_ ?_))
  ·intro hl0
   have HF:Hid (metK K left=sizeK K):=metK_none hl0
   clear HR Hsh
   go_wp2_with fail
   go_ret
   exact ⟨N'+sizeK K,by rw[HF.out];simp,HZ.out,HB.out⟩
  ·intro a w4 q' hlk hmk hR4 hlt hg4 hs4 hen
   have hK0:K a≠0:=by intro h0;rw[cm_at,if_pos h0] at hmk;cases hmk
   have HR4:Hid (RangeO Tryz.prog 3 w4 (.map co) (w.heap.size+1) N (cm K) (fun y=>left y/\¬y=Value.int IntKind.i64 (a:Int)) q'):=hR4
   have HB4:Hid (Below w.heap.size w w4):=HB.out.grown hg4 (by omega) (fun k e=>by cases e;omega)
   have HS:Hid (metK K (fun y=>left y/\¬y=Value.int IntKind.i64 (a:Int))=metK K left+K a):=metK_step (by have:=H5.out a hK0;omega) hlk
   have hKa:=H501.out a
   clear hR4 hg4 HR HB Hsh hK0 hmk hlk
   generalize metK K left=mk at *
   generalize hKe:K a=ka at *
   go_wp2_with fail
   go_roundg q'
   case measure=>omega
   case rel=>exact ⟨_,q',rfl,HR4.out,HB4.out,by rw[HS.out];go_num⟩

theorem Known_gen (w:World) (io co lo:Option Nat) (S:Nat->Prop) (h:CtxR w (.map co) (.map lo) S) :
  Calls Tryz.prog 79 #[.agg #[.map io,.map co,.map lo]] w fun e w'=>∃ n:Nat,e=.returned (.int .i64 (n:Int))/\(n=0↔∀ d,1<=nth d->¬S d)/\Below w.heap.size w w':=by
 have Hc:Hid (∀ ob,Calls Tryz.prog 136 #[.agg #[.map co,.map lo]] (w.alloc ob) fun e w'=>∃ n:Nat,e=.returned (.int .i64 (n:Int))/\(n=0↔∀ d,1<=nth d->¬S d)/\Below w.heap.size w w'):=fun ob=>by
  have hb:Below w.heap.size w (w.alloc ob):=(Below.refl _ w).alloc (Nat.le_refl _) _
  obtain ⟨c,L,h1,_,h3⟩:=h
  refine Calls.mono (size_gen _ co lo c L (h1.below hb)) ?_
  rintro e w' ⟨n,rfl,hn,hb2⟩
  exact ⟨n,rfl,hn.trans ⟨fun q d hd hs=>q d hd ((h3 d hd).1 hs),fun q d hd hs=>q d hd ((h3 d hd).2 hs)⟩,hb.trans (hb2.mono hb.size)⟩
 clear h
 go_enter Tryz.func79,Tryz.ntmps79
 go_wp2_with fail
 refine Calls.mono (Hc.out _) ?_
 rintro e w2 ⟨n,rfl,hn,hb⟩
 have HN:Hid (n=0↔∀ d,1<=nth d->¬S d):=hn
 clear hn
 go_wp2
 go_ret
 exact ⟨n,rfl,HN.out,hb⟩

end Go.Proofs.YtfmmllpjgkgeaaaGreatDoor

