import Derived.Test.YtfmmllpjgkgeaaaGreatDoorPartM11
set_option linter.unusedVariables false
set_option linter.unusedSimpArgs false
set_option maxHeartbeats 16000000
set_option maxRecDepth 100000
namespace Go.Proofs.YtfmmllpjgkgeaaaGreatDoor
open Go.Proofs.Tryz Go.RowKit Go.Maps Go.WideMaps
variable{ns:List Nat}{w:World}
def newS(s o:jh)(d:Nat):Prop:=s.S d/\¬(o.S d/\(s.It d=none↔o.It d=none))
open Classical in
noncomputable def NH(s o:jh)(d:Nat):Option Value:=if newS s o d then s.It d else none
open Classical in
noncomputable def fZ(s o:jh)(ns:List Nat)(i:Nat)(d:Nat):Option Value:=if d∈ns.take i/\newS s o d then s.It d else none
theorem bZ.at{ao:Option Addr}{n cap:Nat}(h:bZ w (.slice ao n cap) ns)(i:Nat)(hi:i<ns.length):∃b off,ao=some ⟨b,off,none⟩/\n=ns.length/\n<=cap/\w.cell? ⟨b,off+i*2,none⟩=some (.int .i64 (who ns[i]))/\w.cell? ⟨b,off+i*2+1,none⟩=some (.int .i64 (nth ns[i])):=by
 rcases h with⟨_,rfl⟩|⟨b,off,cap',h1,h2,h3,h4⟩
 ·simp at hi
 ·simp only[Value.slice.injEq]at h1;obtain⟨rfl,rfl,rfl⟩:=h1;exact⟨b,off,rfl,rfl,h2,(h4 i hi).1,(h4 i hi).2⟩
theorem bZ.shape{v:Value}(h:bZ w v ns):∃ao cap,v=.slice ao ns.length cap:=by
 rcases h with⟨rfl,rfl⟩|⟨b,off,cap,rfl,_⟩
 ·exact⟨none,0,rfl⟩
 ·exact⟨_,cap,rfl⟩
structure SN(w:World)(s o:jh)(ns:List Nat)(sv:Value)(ib cb lb B:Nat)(S:Nat->Prop)(It:Nat->Option Value)(wx:World):Prop where
 st:aN wx ib cb lb S It
 sat:s.At wx
 oat:o.At wx
 sl:bZ wx sv ns
 olds:∀k,Value.map s.io=.map (some k)\/Value.map s.co=.map (some k)\/Value.map s.lo=.map (some k)->k<w.heap.size
 ZL:∀k,Value.map o.io=.map (some k)\/Value.map o.co=.map (some k)\/Value.map o.lo=.map (some k)->k<w.heap.size
 new:w.heap.size+3<=ib/\w.heap.size+3<=cb/\w.heap.size+3<=lb/\ib<B/\cb<B/\lb<B
 svn:∀b,sv.ownBlock=some b->B<b
 bs:aA wx w.heap.size #[.map s.io,.map s.co,.map s.lo] 102
 bo:aA wx (w.heap.size+1) #[.map o.io,.map o.co,.map o.lo] 102
 r0:aA wx (w.heap.size+2) #[.map none,.map none,.map none] 102
 bx:aA wx B #[.map (some ib),.map (some cb),.map (some lb)] 102
 below:Below w.heap.size w wx
section
variable{w:World}{s o:jh}{ns:List Nat}{sv:Value}{ib cb lb B:Nat}{S S':Nat->Prop}{It ZM:Nat->Option Value}{wx wy:World}
theorem SN.turn(h:SN w s o ns sv ib cb lb B S It wx)(hc:ay (λk=>k=ib\/k=cb\/k=lb) wx wy)(hs:aN wy ib cb lb S' ZM):SN w s o ns sv ib cb lb B S' ZM wy:=by have hn:=h.new;refine⟨hs,h.sat.aJ hc (λk hk m=>by have:=h.olds k hk;omega),h.oat.aJ hc (λk hk m=>by have:=h.ZL k hk;omega),h.sl.aJ hc (λk hk m=>by have:=h.svn k hk;omega),h.olds,h.ZL,h.new,h.svn,h.bs.aJ hc (by omega),h.bo.aJ hc (by omega),h.r0.aJ hc (by omega),h.bx.aJ hc (by omega), ?_⟩;exact h.below.trans ⟨hc.os,hc.tape,hc.output,hc.size,λk hk=>hc.block k (Nat.lt_of_lt_of_le hk h.below.size) (by omega)⟩
theorem SN.mono(h:SN w s o ns sv ib cb lb B S It wx)(hb:Below wx.heap.size wx wy):SN w s o ns sv ib cb lb B S It wy:=h.turn (ay.of_below hb) (h.st.below hb)
theorem SN.iff(h:SN w s o ns sv ib cb lb B S It wx)(hS:∀n,1<=nth n->(S' n↔S n))(hI:ZM=It):SN w s o ns sv ib cb lb B S' ZM wx:=by subst hI;exact h.turn (ay.refl _ _) ⟨h.st.ctx.iff hS,h.st.its,h.st.ne,λn hn=>by have:=h.st.ok n hn;exact⟨this.1,(hS n this.1.2.1).2 this.2⟩⟩
end
open Classical in
theorem JG{s o:jh}{i:Nat}(hi:i<ns.length)(hn:ns.Nodup):fZ s o ns (i+1)=λk=>if k=ns[i]/\newS s o k then s.It k else fZ s o ns i k:=by
 funext k;unfold fZ;have:k∈ns.take (i+1)↔k∈ns.take i\/k=ns[i]:=by rw[List.take_succ_eq_append_getElem hi,List.mem_append,List.mem_singleton]
 by_cases h1:newS s o k
 ·by_cases h2:k=ns[i]
  ·rw[if_pos ⟨this.2 (Or.inr h2),h1⟩,if_pos ⟨h2,h1⟩]
  ·have hz:¬(k=ns[i]/\newS s o k):=λh=>h2 h.1;rw[if_neg hz];by_cases h3:k∈ns.take i
   ·have ha:k∈ns.take (i+1)/\newS s o k:=⟨this.2 (Or.inl h3),h1⟩;have hb:k∈ns.take i/\newS s o k:=⟨h3,h1⟩;rw[if_pos ha,if_pos hb]
   ·have ha:¬(k∈ns.take (i+1)/\newS s o k):=λh=>(this.1 h.1).elim h3 h2;have hb:¬(k∈ns.take i/\newS s o k):=λh=>h3 h.1;rw[if_neg ha,if_neg hb]
 ·rw[if_neg (λh=>h1 h.2),if_neg (λh=>h1 h.2),if_neg (λh=>h1 h.2)]
theorem zi{It:Nat->Option Value}(n:Nat)(hv:∀n v,It n=some v->rV v):∃s0 x1 s2 x3,(im It (aP n)).getD (.agg #[.string ⟨#[]⟩,.int .u8 0,.string ⟨#[]⟩,.int .i64 0])=.agg #[.string s0,.int .u8 x1,.string s2,.int .i64 x3]/\∀v,It n=some v->v=.agg #[.string s0,.int .u8 x1,.string s2,.int .i64 x3]:=by
 rw[iC];cases h:It n with
 | none=>exact⟨_,_,_,_,rfl,λv hv=>by cases hv⟩
 | some v =>obtain⟨s0,x1,s2,x3,rfl⟩:=hv n v h;exact⟨s0,x1,s2,x3,rfl,λv hv=>by cases hv;rfl⟩
def ZN:Prop:=∀(w:World)(co lo:Option Nat)(c:Nat->Nat)(L:Nat->Bool),kM w (.map co) (.map lo) c L ->
  Calls prog 209 #[.agg #[.map co,.map lo]] w λe w'=>∃v ns,e=.returned v/\bZ w' v ns/\ns.Nodup/\(∀d,d∈ns↔1<=nth d/\kW c L d)/\(∀b,v.ownBlock=some b->w.heap.size<=b)/\Below w.heap.size w w'
open Classical in
theorem Qx(hall:ZN)(w:World)(s o:jh)(h:s.At w)(ho:o.At w):Calls prog 151 #[.agg #[.map s.io,.map s.co,.map s.lo],.agg #[.map o.io,.map o.co,.map o.lo]] w λe w'=>∃ib cb lb,e=.returned (.agg #[.map (some ib),.map (some cb),.map (some lb)])/\aN w' ib cb lb (newS s o) (NH s o)/\(w.heap.size<=ib/\w.heap.size<=cb/\w.heap.size<=lb)/\Below w.heap.size w w':=by
 have HL:Hid ZN:=hall;clear hall;have HS:Hid (s.At w):=h;have HO:Hid (o.At w):=ho;clear h ho;go_enter func151,ntmps151;go_wp2_with fail;have k0:aA (((w.alloc (.cells #[.map s.io,.map s.co,.map s.lo] 102)).alloc (.cells #[.map o.io,.map o.co,.map o.lo] 102)).alloc (.cells #[.map none,.map none,.map none] 102)) w.heap.size #[.map s.io,.map s.co,.map s.lo] 102:=((aA.new w _ _).alloc _).alloc _;have k1:aA (((w.alloc (.cells #[.map s.io,.map s.co,.map s.lo] 102)).alloc (.cells #[.map o.io,.map o.co,.map o.lo] 102)).alloc (.cells #[.map none,.map none,.map none] 102)) (w.heap.size+1) #[.map o.io,.map o.co,.map o.lo] 102:=by have:=(aA.new (w.alloc (.cells #[.map s.io,.map s.co,.map s.lo] 102)) #[.map o.io,.map o.co,.map o.lo] 102).alloc (.cells #[.map none,.map none,.map none] 102);rwa [World.size_alloc]at this
 have k2:aA (((w.alloc (.cells #[.map s.io,.map s.co,.map s.lo] 102)).alloc (.cells #[.map o.io,.map o.co,.map o.lo] 102)).alloc (.cells #[.map none,.map none,.map none] 102)) (w.heap.size+2) #[.map none,.map none,.map none] 102:=by have:=aA.new ((w.alloc (.cells #[.map s.io,.map s.co,.map s.lo] 102)).alloc (.cells #[.map o.io,.map o.co,.map o.lo] 102)) #[.map none,.map none,.map none] 102;simp only[World.size_alloc]at this;exact this
 have hb0:Below w.heap.size w (((w.alloc (.cells #[.map s.io,.map s.co,.map s.lo] 102)).alloc (.cells #[.map o.io,.map o.co,.map o.lo] 102)).alloc (.cells #[.map none,.map none,.map none] 102)):=(((Below.refl _ w).alloc (Nat.le_refl _) _).alloc (by simp) _).alloc (by simp;omega) _;have e1:(((w.alloc (.cells #[.map s.io,.map s.co,.map s.lo] 102)).alloc (.cells #[.map o.io,.map o.co,.map o.lo] 102)).alloc (.cells #[.map none,.map none,.map none] 102)).heap.size=w.heap.size+3:=by simp
 generalize (((w.alloc (.cells #[.map s.io,.map s.co,.map s.lo] 102)).alloc (.cells #[.map o.io,.map o.co,.map o.lo] 102)).alloc (.cells #[.map none,.map none,.map none] 102))=w0 at *;refine Calls.mono (pY _ (.slice none 0 0) [] (Or.inl ⟨rfl,rfl⟩) (by simp) (by simp)) ?_;rintro e w1⟨ib,cb,lb,rfl,hst,hnew,hb1⟩;have hlt:=hst.lt;rw[e1]at hnew;have HA:Hid (∀ob,ob=.cells #[.map (some ib),.map (some cb),.map (some lb)] 102->∀W ns sv,Below (w1.alloc ob).heap.size (w1.alloc ob) W->bZ W sv ns->(∀b,sv.ownBlock=some b->(w1.alloc ob).heap.size<=b)->SN w s o ns sv ib cb lb w1.heap.size (λd=>d∈ns.take 0/\newS s o d) (fZ s o ns 0) W):=λob hob W ns sv hbW hsl hsv=>by
  subst hob;have hbw:Below w.heap.size w w1:=hb0.trans (hb1.mono (by omega));have hz:=(Below.refl _ w1).alloc (Nat.le_refl _) (.cells #[.map (some ib),.map (some cb),.map (some lb)] 102);have ZO:=hz.trans (hbW.mono hz.size);have Xa:Below w.heap.size w W:=hbw.trans (ZO.mono hbw.size);have e2:fZ s o ns 0=λ_=>none:=by funext k;unfold fZ;rw[if_neg (by simp)]
  have hst2:=hst.below ZO;have hs1:=hb1.size;refine⟨⟨hst2.ctx.iff (λn _=>by simp),by rw[e2];exact hst2.its,hst2.ne,λn hn=>by rw[e2]at hn;exact absurd rfl hn⟩,HS.out.aJ (M:=λ_=>False) (ay.of_below Xa) (λ_ _ h=>h),HO.out.aJ (M:=λ_=>False) (ay.of_below Xa) (λ_ _ h=>h),hsl,λk hk=>HS.out.r.lt k hk,λk hk=>HO.out.r.lt k hk,by omega,λb hb=>by have:=hsv b hb;simp at this;omega,(k0.below hb1).below ZO,(k1.below hb1).below ZO,(k2.below hb1).below ZO, ?_,Xa⟩;exact(hbW.block _ (by simp)).trans (aA.new w1 _ _)
 have HC:Hid (∀ob,∃c L,kM (w1.alloc ob) (.map s.co) (.map s.lo) c L/\∀d,1<=nth d->(s.S d↔kW c L d)):=λob=>by have hbw:Below w.heap.size w w1:=hb0.trans (hb1.mono (by omega));obtain⟨c,L,h1,_,h2⟩:=HS.out.r.ctx;exact⟨c,L,h1.below (hbw.trans (((Below.refl _ w1).alloc (Nat.le_refl _) ob).mono hbw.size)),h2⟩
 have Tt:Hid (∀ob,(w1.alloc ob).cell? ⟨w.heap.size,1,none⟩=some (.map s.co)/\(w1.alloc ob).cell? ⟨w.heap.size,2,none⟩=some (.map s.lo)):=λob=>⟨(((k0.below hb1).alloc ob).cell 1).trans rfl,(((k0.below hb1).alloc ob).cell 2).trans rfl⟩;have c1:=λob=>(Tt.out ob).1;have c2:=λob=>(Tt.out ob).2;clear hst hb1 k0 k1 k2 hb0 e1 HS HO Tt hnew hlt;go_wp2_with fail;obtain⟨c,L,hC,hcL⟩:=HC.out (.cells #[.map (some ib),.map (some cb),.map (some lb)] 102);refine Calls.mono (HL.out _ s.co s.lo c L hC) ?_;rintro e w2⟨sv,ns,rfl,hsl,hnd,hmem,hsv,hb2⟩;obtain⟨ao,cap,hsh⟩:=hsl.shape;have HN:Hid (ns.Nodup/\∀d,d∈ns↔1<=nth d/\s.S d):=⟨hnd,λd=>(hmem d).trans (and_congr_right λhd=>(hcL d hd).symm)⟩;have Ai:Hid (∀d∈ns,okD d):=λd hd=>by
  obtain⟨h1,h2|h2⟩:=(hmem d).1 hd
  ·have h3:=hC.ru (who d);exact⟨hC.c5 _ (by omega),h1,by omega⟩
  ·exact(hC.yD d h2).1
 have hA:=HA.out _ rfl w2 ns sv hb2 hsl hsv;have hlen:ns.length<=3072:=jT 3072 ns hnd (λd hd=>lg (Ai.out d hd));subst hsh;clear HA HC hC hcL hsl hnd hmem hsv hb2 c1 c2;have HA:Hid (SN w s o ns (.slice ao ns.length cap) ib cb lb w1.heap.size (λd=>d∈ns.take 0/\newS s o d) (fZ s o ns 0) w2):=hA;clear hA;go_wp2_with fail;go_loopg [17] ns.length (λg v17 wx=>∃i:Nat,i+g=ns.length/\v17=.int .i64 i/\SN w s o ns (.slice ao ns.length cap) ib cb lb w1.heap.size (λd=>d∈ns.take i/\newS s o d) (fZ s o ns i) wx);case atStart=>exact⟨0,by omega,rfl,HA.out⟩
 case round =>
  obtain⟨i,hig,rfl,hJ⟩:=hrel;have HJ:Hid (SN w s o ns (.slice ao ns.length cap) ib cb lb w1.heap.size (λd=>d∈ns.take i/\newS s o d) (fZ s o ns i) wr):=hJ;clear HA;by_cases hi:i<ns.length
  ·obtain⟨b,off,hao,_,hcp,q0,q1⟩:=hJ.sl.at i hi;subst hao;obtain⟨n,hn⟩:∃n,n=ns[i]:=⟨_,rfl⟩;rw[<- hn]at q0 q1;have hmem:n∈ns:=by rw[hn];exact List.getElem_mem hi
   have hok:=Ai.out n hmem;have hSn:s.S n:=((HN.out.2 n).1 hmem).2;have hn1:=hok.2.1;have KI:=hok.1;obtain⟨kl,hkl⟩:=keyE n (by omega);have F9:Hid (fZ s o ns (i+1)=λk=>if k=n/\newS s o k then s.It k else fZ s o ns i k):=by unfold Hid;rw[JG hi HN.out.1,hn]
   have Gf:Hid (∀k,k∈ns.take (i+1)↔k∈ns.take i\/k=n):=λk=>by rw[List.take_succ_eq_append_getElem hi,<- hn,List.mem_append,List.mem_singleton]
   clear hn;obtain⟨s0,x1,s2,x3,hu,hvs⟩:=zi (It:=s.It) n hJ.sat.v;obtain⟨y0,y1,y2,y3,huo,_⟩:=zi (It:=o.It) n hJ.oat.v;obtain⟨here,BN⟩:∃b:Bool,(s.It n).isSome=b:=⟨_,rfl⟩;obtain⟨was,Us⟩:∃b:Bool,(o.It n).isSome=b:=⟨_,rfl⟩;have hc:(im s.It (aP n)).isSome=here:=by rw[iC];exact BN
   have hco:(im o.It (aP n)).isSome=was:=by rw[iC];exact Us
   have Hvs:Hid (∀v,s.It n=some v->v=.agg #[.string s0,.int .u8 x1,.string s2,.int .i64 x3]):=hvs;obtain⟨Ni,hNi⟩:=hJ.sat.r.its;obtain⟨No,hNo⟩:=hJ.oat.r.its;have HI:Hid (∀wy,Below wr.heap.size wr wy->cZ prog 134 wy (.map s.io) Ni (im s.It)):=λwy hb=>hNi.below hb;have HIo:Hid (∀wy,Below wr.heap.size wr wy->cZ prog 134 wy (.map o.io) No (im o.It)):=λwy hb=>hNo.below hb;have a0:=(hJ.bs.cell 0).trans rfl;have b0:=(hJ.bo.cell 0).trans rfl;have b1:=(hJ.bo.cell 1).trans rfl;have b2:=(hJ.bo.cell 2).trans rfl;have hlt:=hJ.bx.lt;have hjn:=hJ.new;have hlw:w.heap.size+2<wr.heap.size:=by omega
   have Hc:Hid (∃c L,kM wr (.map o.co) (.map o.lo) c L/\∀d,1<=nth d->(o.S d↔kW c L d)):=by obtain⟨c,L,h1,_,h2⟩:=hJ.oat.r.ctx;exact⟨c,L,h1,h2⟩
   clear hJ hvs hNi hNo;have z0:∀ob,(wr.alloc ob).cell? ⟨w.heap.size,0,none⟩=some (.map s.io):=λob=>((HJ.out.bs.alloc ob).cell 0).trans rfl;have z1:∀ob ob',((wr.alloc ob).alloc ob').cell? ⟨w.heap.size+1,0,none⟩=some (.map o.io):=λob ob'=>(((HJ.out.bo.alloc ob).alloc ob').cell 0).trans rfl;have z2:∀ob ob' JH,(((wr.alloc ob).alloc ob').alloc JH).cell? ⟨w.heap.size+1,1,none⟩=some (.map o.co):=λob ob' JH=>((((HJ.out.bo.alloc ob).alloc ob').alloc JH).cell 1).trans rfl;have z3:∀ob ob' JH,(((wr.alloc ob).alloc ob').alloc JH).cell? ⟨w.heap.size+1,2,none⟩=some (.map o.lo):=λob ob' JH=>((((HJ.out.bo.alloc ob).alloc ob').alloc JH).cell 2).trans rfl;go_wp2_with (first|(at_lookup;refine gJ rfl (.tmp 23) (.tmp 24) 96 rfl 86 iU underlying96 (YV _) rfl (HI.out _ ?_) (aP n) _ rfl hkl _ hu _ hc ?_;(go_grown))|(at_lookup;refine gJ rfl (.tmp 30) (.tmp 31) 96 rfl 86 iU underlying96 (YV _) rfl (HIo.out _ ?_) (aP n) _ rfl hkl _ huo _ hco ?_;(go_grown)));have hW:∀W,W=(((wr.alloc (.cells #[.int .i64 (who n),.int .i64 (nth n)] 134)).alloc (.cells #[.string s0,.int .u8 x1,.string s2,.int .i64 x3] 86)).alloc (.cells #[.string y0,.int .u8 y1,.string y2,.int .i64 y3] 86))->Below wr.heap.size wr W/\aA W wr.heap.size #[.int .i64 (who n),.int .i64 (nth n)] 134/\aA W (wr.heap.size+1) #[.string s0,.int .u8 x1,.string s2,.int .i64 x3] 86:=λW hW=>by subst hW;refine⟨(((Below.refl _ wr).alloc (Nat.le_refl _) _).alloc (by simp) _).alloc (by simp;omega) _,((aA.new wr _ _).alloc _).alloc _, ?_⟩;have:=(aA.new (wr.alloc (.cells #[.int .i64 (who n),.int .i64 (nth n)] 134)) #[.string s0,.int .u8 x1,.string s2,.int .i64 x3] 86).alloc (.cells #[.string y0,.int .u8 y1,.string y2,.int .i64 y3] 86);rwa [World.size_alloc]at this
   have hW:=hW _ rfl;generalize (((wr.alloc (.cells #[.int .i64 (who n),.int .i64 (nth n)] 134)).alloc (.cells #[.string s0,.int .u8 x1,.string s2,.int .i64 x3] 86)).alloc (.cells #[.string y0,.int .u8 y1,.string y2,.int .i64 y3] 86))=W3 at *;obtain⟨hb3,kd,kc⟩:=hW;obtain⟨c,L,hC,hcL⟩:=Hc.out;have Hho:Hid (o.S n↔kW c L n):=hcL n hn1;refine Calls.mono (Dk W3 _ _ c n L (hC.below hb3) KI) ?_;rintro e w4⟨rfl,hb4⟩;have OO:SN w s o ns (.slice (some ⟨b,off,none⟩) ns.length cap) ib cb lb w1.heap.size (λd=>d∈ns.take i/\newS s o d) (fZ s o ns i) w4:=HJ.out.mono (hb3.trans (hb4.mono hb3.size));have Vr:=kd.below hb4;have Uk:=kc.below hb4;have hlt4:wr.heap.size+1<w4.heap.size:=Uk.lt;clear hb3 hb4 kd kc Hc hC hcL z0 z1 z2 z3 a0 b0 b1 b2 q0 q1 HI HIo hc hco hu huo;obtain⟨hh,hhh⟩:∃hh:Bool,hh=(decide (nth n<=c (who n))||L n):=⟨_,rfl⟩;have HH:Hid (hh=true↔o.S n):=by unfold Hid;rw[Hho.out,hhh];simp[kW]
   rw[<- hhh];clear hhh Hho;have Hold:Hid ((here=was)->o.S n->fZ s o ns (i+1)=fZ s o ns i/\∀k,(k∈ns.take (i+1)/\newS s o k)↔(k∈ns.take i/\newS s o k)):=λhe hos=>by
    have hnn:¬newS s o n:=λh=>h.2 ⟨hos,by rw[<- Option.not_isSome_iff_eq_none,<- Option.not_isSome_iff_eq_none,BN,Us,he]⟩;refine⟨?_,λk=>?_⟩
    ·rw[F9.out];funext k;by_cases e:k=n
     ·subst e;rw[if_neg (λh=>hnn h.2)]
     ·rw[if_neg (λh=>e h.1)]
    ·rw[Gf.out];constructor
     ·rintro⟨h1|rfl,h2⟩
      ·exact⟨h1,h2⟩
      ·exact absurd h2 hnn
     ·rintro⟨h1,h2⟩;exact⟨Or.inl h1,h2⟩
   have JI:Hid (¬(o.S n/\here=was)->newS s o n):=λh=>⟨hSn,λ⟨h1,h2⟩=>h ⟨h1,by
    rw[<- BN,<- Us];cases ha:s.It n with
    | none=>rw[h2.1 ha]
    | some v=>cases hb:o.It n with
     | none=>have:=h2.2 hb;rw[ha]at this;cases this
     | some v'=>rfl⟩⟩
   have Qy:Hid (∀k,newS s o n->((k∈ns.take (i+1)/\newS s o k)↔(k∈ns.take i/\newS s o k)\/k=n)):=λk hk=>by
    rw[Gf.out];constructor
    ·rintro⟨h1|rfl,h2⟩
     ·exact Or.inl ⟨h1,h2⟩
     ·exact Or.inr rfl
    ·rintro(⟨h1,h2⟩|rfl)
     ·exact⟨Or.inl h1,h2⟩
     ·exact⟨Or.inr rfl,hk⟩
   have Ey:Hid (SN w s o ns (.slice (some ⟨b,off,none⟩) ns.length cap) ib cb lb w1.heap.size (λd=>d∈ns.take i/\newS s o d) (fZ s o ns i) w4):=OO;by_cases hsk:hh=true/\here=was
   ·obtain⟨rfl,rfl⟩:=hsk;have hfin:=Hold.out rfl (HH.out.1 rfl);clear OO JI Qy F9 Gf Hold;go_wp2_with fail;go_roundg (ns.length-(i+1));case measure=>omega
    case rel=>exact⟨i+1,by omega,by go_num,Ey.out.iff (λk _=>hfin.2 k) hfin.1⟩
   ·have hnew:newS s o n:=JI.out (λh=>hsk ⟨HH.out.2 h.1,h.2⟩);have g0:=(OO.bx.cell 0).trans rfl;have g1:=(OO.bx.cell 1).trans rfl;have g2:=(OO.bx.cell 2).trans rfl;have d0:=(Vr.cell 0).trans rfl;have d1:=(Vr.cell 1).trans rfl;have hpick:hh=false\/(hh=true/\(here==was)=false):=by
     cases hh with
     | false=>exact Or.inl rfl
     | true=>exact Or.inr ⟨rfl,by simpa using λh=>hsk ⟨rfl,h⟩⟩
    have HAdd:Hid (Calls prog 201 #[.agg #[.map (some cb),.map (some lb)],aP n] w4 λe w'=>e=.returned (.tuple #[])/\SN w s o ns (.slice (some ⟨b,off,none⟩) ns.length cap) ib cb lb w1.heap.size (λd=>d∈ns.take (i+1)/\newS s o d) (fZ s o ns i) w'/\aA w' wr.heap.size #[.int .i64 (who n),.int .i64 (nth n)] 134/\aA w' (wr.heap.size+1) #[.string s0,.int .u8 x1,.string s2,.int .i64 x3] 86):=by refine Calls.mono (add_any w4 cb lb n _ OO.st.ctx hok) ?_;rintro e w5⟨rfl,h1,h2⟩;have hch:ay (λk=>k=ib\/k=cb\/k=lb) w4 w5:=h2.mono (λk _ hk=>Or.inr hk);refine⟨rfl,(OO.turn (S':=λk=>(k∈ns.take i/\newS s o k)\/k=n) (ZM:=fZ s o ns i) hch ⟨h1,OO.st.its.imp λN g=>g.block (h2.block _ g.lt (by have:=OO.st.ne;omega)),OO.st.ne,λk hk=>by have:=OO.st.ok k hk;exact⟨this.1,Or.inl this.2⟩⟩).iff (λk _=>Qy.out k hnew) rfl,Vr.aJ h2 (by omega),Uk.aJ h2 (by omega)⟩
    have HT:Hid (n∈ns.take (i+1)):=(Gf.out n).2 (Or.inr rfl);clear OO JI Qy Gf Hold Ey Vr Uk hsk;have Hgo:Hid (newS s o n):=hnew;have HIn:Hid (here=false->fZ s o ns (i+1)=fZ s o ns i):=λhf=>by
     rw[F9.out];funext k;by_cases e:k=n/\newS s o k
     ·rw[if_pos e];obtain⟨rfl,e2⟩:=e;have hs0:s.It k=none:=by rw[<- Option.not_isSome_iff_eq_none,BN,hf];simp
      unfold fZ;rw[hs0];split<;>rfl
     ·rw[if_neg e]
    have HIs:Hid (here=true->fZ s o ns (i+1)=λk=>if k=n then some (.agg #[.string s0,.int .u8 x1,.string s2,.int .i64 x3])else fZ s o ns i k):=λhf=>by
     rw[F9.out];funext k;by_cases e:k=n
     ·subst e;rw[if_pos ⟨rfl,Hgo.out⟩,if_pos rfl];obtain⟨v,hv⟩:=Option.isSome_iff_exists.1 (BN.trans hf);rw[hv,Hvs.out v hv]
     ·rw[if_neg (λh=>e h.1),if_neg e]
    clear F9 hnew BN Us Hvs;rcases hpick with rfl|⟨rfl,hpk⟩
    ·go_wp2_with fail;refine Calls.mono HAdd.out ?_;rintro e w5⟨rfl,MJ,Xb,Qz⟩;have Ip:Hid (SN w s o ns (.slice (some ⟨b,off,none⟩) ns.length cap) ib cb lb w1.heap.size (λd=>d∈ns.take (i+1)/\newS s o d) (fZ s o ns i) w5):=MJ;have g0:=(MJ.bx.cell 0).trans rfl;have d0:=(Xb.cell 0).trans rfl;have d1:=(Xb.cell 1).trans rfl;have c0:=(Qz.cell 0).trans rfl;have c1:=(Qz.cell 1).trans rfl;have c2:=(Qz.cell 2).trans rfl;have c3:=(Qz.cell 3).trans rfl;obtain⟨Nj,MC⟩:=MJ.st.its;have hNb:Nj<=3072:=je MC (λk hk=>(Ip.out.st.ok k hk).1);have hmx:Nj<maxLen:=by unfold maxLen;omega
     clear MJ Xb Qz HAdd;cases here with
     | false =>
      have hfin:=HIn.out rfl;go_wp2_with fail;go_roundg (ns.length-(i+1));case measure=>omega
      case rel=>exact⟨i+1,by omega,by go_num,Ip.out.iff (λk _=>Iff.rfl) hfin⟩
     | true =>
      have hfin:=HIs.out rfl;go_wp2_with (first|(at_mapUpdate;refine gq rfl (.tmp 50) (.tmp 51) (.tmp 52) 96 rfl 86 iU underlying96 rfl MC hmx (aP n) (.agg #[.string s0,.int .u8 x1,.string s2,.int .i64 x3]) _ rfl rfl hkl ?_;intro w6 xI eG hs6;have Wi:=(Ip.out.turn ((ay.refl _ w5).grown eG (λk e=>by cases e;exact Or.inl (Or.inl rfl))) (Ip.out.st.put eG xI hok (show n∈ns.take (i+1)/\newS s o n from⟨HT.out,Hgo.out⟩)));go_frame));go_roundg (ns.length-(i+1));case measure=>omega
      case rel=>exact⟨i+1,by omega,by go_num,Wi.iff (λk _=>Iff.rfl) hfin⟩
    ·have hpd:decide (here=was)=false:=by simpa using hpk
     go_wp2_with fail;refine Calls.mono HAdd.out ?_;rintro e w5⟨rfl,MJ,Xb,Qz⟩;have Ip:Hid (SN w s o ns (.slice (some ⟨b,off,none⟩) ns.length cap) ib cb lb w1.heap.size (λd=>d∈ns.take (i+1)/\newS s o d) (fZ s o ns i) w5):=MJ;have g0:=(MJ.bx.cell 0).trans rfl;have d0:=(Xb.cell 0).trans rfl;have d1:=(Xb.cell 1).trans rfl;have c0:=(Qz.cell 0).trans rfl;have c1:=(Qz.cell 1).trans rfl;have c2:=(Qz.cell 2).trans rfl;have c3:=(Qz.cell 3).trans rfl;obtain⟨Nj,MC⟩:=MJ.st.its;have hNb:Nj<=3072:=je MC (λk hk=>(Ip.out.st.ok k hk).1);have hmx:Nj<maxLen:=by unfold maxLen;omega
     clear MJ Xb Qz HAdd;cases here with
     | false =>
      have hfin:=HIn.out rfl;go_wp2_with fail;go_roundg (ns.length-(i+1));case measure=>omega
      case rel=>exact⟨i+1,by omega,by go_num,Ip.out.iff (λk _=>Iff.rfl) hfin⟩
     | true =>
      have hfin:=HIs.out rfl;go_wp2_with (first|(at_mapUpdate;refine gq rfl (.tmp 50) (.tmp 51) (.tmp 52) 96 rfl 86 iU underlying96 rfl MC hmx (aP n) (.agg #[.string s0,.int .u8 x1,.string s2,.int .i64 x3]) _ rfl rfl hkl ?_;intro w6 xI eG hs6;have Wi:=(Ip.out.turn ((ay.refl _ w5).grown eG (λk e=>by cases e;exact Or.inl (Or.inl rfl))) (Ip.out.st.put eG xI hok (show n∈ns.take (i+1)/\newS s o n from⟨HT.out,Hgo.out⟩)));go_frame));go_roundg (ns.length-(i+1));case measure=>omega
      case rel=>exact⟨i+1,by omega,by go_num,Wi.iff (λk _=>Iff.rfl) hfin⟩
  ·have x0:=(hJ.bx.cell 0).trans rfl;have x1:=(hJ.bx.cell 1).trans rfl;have x2:=(hJ.bx.cell 2).trans rfl;have r0:=(hJ.r0.cell 0).trans rfl;have r1:=(hJ.r0.cell 1).trans rfl;have r2:=(hJ.r0.cell 2).trans rfl;have f0:=hJ.r0.frozen;have hjn:=hJ.new;have htk:ns.take i=ns:=List.take_of_length_le (by omega);clear hJ;go_wp2_with fail;have hch:ay (λk=>k=w.heap.size+2) wr (((wr.setCell ⟨w.heap.size+2,0,none⟩ (.map (some ib))).setCell ⟨w.heap.size+2,1,none⟩ (.map (some cb))).setCell ⟨w.heap.size+2,2,none⟩ (.map (some lb))):=(((ay.refl (λk=>k=w.heap.size+2) wr).setCell (p:=⟨w.heap.size+2,0,none⟩) rfl _).setCell (p:=⟨w.heap.size+2,1,none⟩) rfl _).setCell (p:=⟨w.heap.size+2,2,none⟩) rfl _;refine bodyPost_ret (v:=.agg #[.map (some ib),.map (some cb),.map (some lb)]) (by simp[results,Tryz.results151,go_sem,r0,r1,r2,bQ,aK,World.cell?_setCell_other]) rfl ⟨ib,cb,lb,rfl, ?_,by omega, ?_⟩
   ·have h:=HJ.out.st.aJ hch (by omega) (by omega) (by omega);rw[htk]at h;have hI:fZ s o ns i=NH s o:=by
     funext k;unfold fZ NH;rw[htk];by_cases hk:newS s o k
     ·by_cases hm:k∈ns
      ·rw[if_pos ⟨hm,hk⟩,if_pos hk]
      ·rw[if_neg (λh=>hm h.1),if_pos hk];cases hv:s.It k with
       | none=>rfl
       | some v=>exact absurd ((HN.out.2 k).2 ⟨((HJ.out.sat.r.ok k (by rw[hv];simp)).1).2.1,hk.1⟩) hm
     ·rw[if_neg (λh=>hk h.2),if_neg hk]
    rw[hI]at h;exact⟨h.ctx.iff (λk hk=>⟨λhs=>⟨(HN.out.2 k).2 ⟨hk,hs.1⟩,hs⟩,λhs=>hs.2⟩),h.its,h.ne,λk hk=>⟨(h.ok k hk).1,(h.ok k hk).2.2⟩⟩
   ·exact((HJ.out.below.setCell (p:=⟨w.heap.size+2,0,none⟩) (by show w.heap.size<=w.heap.size+2;omega) _).setCell (p:=⟨w.heap.size+2,1,none⟩) (by show w.heap.size<=w.heap.size+2;omega) _).setCell (p:=⟨w.heap.size+2,2,none⟩) (by show w.heap.size<=w.heap.size+2;omega) _
theorem BO(f:Nat->Nat):∀n,sumTo f n=0↔∀i,i<n->f i=0
 | 0=>by simp[sumTo]
 | n+1=>by
  show sumTo f n+f n=0↔_;have ih:=BO f n;constructor
  ·intro h i hi;by_cases e:i=n
   ·subst e;omega
   ·exact ih.1 (by omega) i (by omega)
  ·intro h;have:=ih.2 (λi hi=>h i (by omega));have:=h n (by omega);omega
theorem NI{lo:Option Nat}{N':Nat}{K:Nat->Nat}{L:Nat->Bool}(h2:cZ prog 134 w (.map lo) N' (lm L))(h3:∀a,K a<=501)(h4:∀a,K a≠0->a<=5)(h5:∀d,L d=true->okD d/\K (who d)<nth d):N'+aV K=0↔∀d,1<=nth d->¬kW K L d:=by
 have hN:N'=0↔∀d,L d=false:=by
  rcases h2 with⟨_,h,h'⟩|⟨b,_,h⟩
  ·refine⟨λ_ d=>?_,λ_=>h⟩;have:=congrFun h' (aP d);have h6:=qM d L;rw[this]at h6;exact h6.symm
  ·refine⟨λe d=>?_,λe=>h.zero iU (λkey=>by simp[lm,e])⟩;obtain⟨l,_,h7,h8⟩:=h.count iU;have:l=[]:=List.length_eq_zero_iff.1 (by omega);subst this;have h9:lm L (aP d)=none:=Classical.byContradiction λhc=>by simpa using(h8 _).2 hc
   have h6:=qM d L;rw[h9]at h6;exact h6.symm
 have hK:aV K=0↔∀a,K a=0:=by unfold aV;rw[BO];exact⟨λh a=>Classical.byContradiction λhc=>hc (h a (by have:=h4 a hc;omega)),λh i _=>h i⟩
 have:N'+aV K=0↔N'=0/\aV K=0:=by omega
 rw[this,hN,hK];constructor
 ·rintro⟨a,b⟩ d hd (h|h)
  ·rw[b]at h;omega
  ·rw[a]at h;cases h
 ·intro h;refine⟨λd=>?_,λa=>Classical.byContradiction λhc=>?_⟩
  ·cases hd:L d with
   | false=>rfl
   | true=>exact absurd (Or.inr hd) (h d (h5 d hd).1.2.1)
  ·exact h (dV a 1) (by rw[dw (by omega)];omega) (Or.inl (by rw[dw (by omega),eF (by omega)];omega))
theorem QA(w:World)(co lo:Option Nat)(K:Nat->Nat)(L:Nat->Bool)(h:kM w (.map co) (.map lo) K L):Calls prog 136 #[.agg #[.map co,.map lo]] w λe w'=>∃n:Nat,e=.returned (.int .i64 n)/\(n=0↔∀d,1<=nth d->¬kW K L d)/\Below w.heap.size w w':=by
 obtain⟨⟨N,h1⟩,⟨N',h2⟩,h3,h4,h5⟩:=h;have hN3:N'<=3072:=by
  rcases h2 with⟨_,h,_⟩|⟨b,_,h⟩
  ·omega
  ·exact pX h (λd hd=>(h5 d hd).1)
 have HZ:Hid (N'+aV K=0↔∀d,1<=nth d->¬kW K L d):=NI h2 h3 h4 h5;have hlen:∀wx,Below w.heap.size w wx->∀ty,(Builtin.len_ #[98] ty #[.map lo]).run prog wx=.ok (.int .i64 N') wx:=λwx hb ty=>(h2.below hb).len underlying98 ty;have hle:∀o ty,(Builtin.len_ #[98] ty #[.map lo]).run prog (w.alloc o)=.ok (.int .i64 N') (w.alloc o):=λo ty=>hlen _ ((Below.refl _ w).alloc (Nat.le_refl _) o) ty;have HM:Hid (∀wy,Below w.heap.size w wy->cZ prog 3 wy (.map co) N (cm K)):=λwy hb=>h1.below hb;have vg:Hid (∀a,K a<=501):=h3;have H5:Hid (∀a,K a≠0->a<=5):=h4;clear h1 h2 h3 h4 h5 hlen;go_enter func136,ntmps136;go_wp2_with (first|(at_range;refine fO rfl (.tmp 10) 97 rfl 3 mQ underlying97 rfl (HM.out _ ?_) ?_;(go_grown);intro w3 hr3 hg3 hs3;have hb3:Below w.heap.size w w3:=(((Below.refl w.heap.size w).alloc (Nat.le_refl _) _).grown hg3 (by simp) (λk e=>by cases e));rw[World.size_alloc]at hr3⊢;clear HM hle hg3 hs3;go_frame));go_loopg [3] N (λg v3 wx=>∃(left:Value->Prop)(q:Nat),g=q/\aU prog 3 wx (.map co) (w.heap.size+1) N (cm K) left q/\Below w.heap.size w wx/\v3=.int .i64 ((N'+l9 K left:Nat):Int));case atStart=>exact⟨_,_,rfl,hr3,hb3,by rw[yG];rfl⟩
 case round =>
  obtain⟨left,q,hq,hR,hb,rfl⟩:=hrel;have HR:Hid (aU prog 3 wr (.map co) (w.heap.size+1) N (cm K) left q):=hR;have HB:Hid (Below w.heap.size w wr):=hb;have vk:Hid (∀key v,left key->cm K key=some v->∃x:Nat,key=(λx:Nat=>Value.int .i64 x) x/\v=(λx:Nat=>Value.int .i64 (K x)) x):=λkey v _ hk=>by obtain⟨x,h1,h2,_⟩:=mV hk;exact⟨x,h1,h2⟩
  have hsz:w.heap.size+1<wr.heap.size:=hR.lt;have hml:l9 K left<=3006:=KR vg.out;clear hR hb hr3 hb3;go_wp2_with (first|(at_next;refine gu rfl (.tmp 11) rfl mQ (λx:Nat=>.int .i64 x) (λx:Nat=>.int .i64 (K x)) rfl HR.out vk.out ?_ ?_))
  ·intro hl0;have HF:Hid (l9 K left=aV K):=BG hl0;clear HR vk;go_wp2_with fail;go_ret;exact⟨N'+aV K,by rw[HF.out];simp,HZ.out,HB.out⟩
  ·intro a w4 q' hlk hmk ni hlt hg4 hs4 hen;have hK0:K a≠0:=by intro h0;rw[pW,if_pos h0]at hmk;cases hmk
   have HR4:Hid (aU prog 3 w4 (.map co) (w.heap.size+1) N (cm K) (λy=>left y/\¬y=Value.int IntKind.i64 (a:Int)) q'):=ni;have HB4:Hid (Below w.heap.size w w4):=HB.out.grown hg4 (by omega) (λk e=>by cases e;omega);have HS:Hid (l9 K (λy=>left y/\¬y=Value.int IntKind.i64 (a:Int))=l9 K left+K a):=BH (by have:=H5.out a hK0;omega) hlk;have hKa:=vg.out a;clear ni hg4 HR HB vk hK0 hmk hlk;generalize l9 K left=mk at *;generalize hKe:K a=ka at *;go_wp2_with fail;go_roundg q';case measure=>omega
   case rel=>exact⟨_,q',rfl,HR4.out,HB4.out,by rw[HS.out];go_num⟩
theorem NJ(w:World)(io co lo:Option Nat)(S:Nat->Prop)(h:Dp w (.map co) (.map lo) S):Calls prog 79 #[.agg #[.map io,.map co,.map lo]] w λe w'=>∃n:Nat,e=.returned (.int .i64 n)/\(n=0↔∀d,1<=nth d->¬S d)/\Below w.heap.size w w':=by
 have Hc:Hid (∀ob,Calls prog 136 #[.agg #[.map co,.map lo]] (w.alloc ob) λe w'=>∃n:Nat,e=.returned (.int .i64 n)/\(n=0↔∀d,1<=nth d->¬S d)/\Below w.heap.size w w'):=λob=>by have hb:Below w.heap.size w (w.alloc ob):=(Below.refl _ w).alloc (Nat.le_refl _) _;obtain⟨c,L,h1,_,h3⟩:=h;refine Calls.mono (QA _ co lo c L (h1.below hb)) ?_;rintro e w'⟨n,rfl,hn,hb2⟩;exact⟨n,rfl,hn.trans ⟨λq d hd hs=>q d hd ((h3 d hd).1 hs),λq d hd hs=>q d hd ((h3 d hd).2 hs)⟩,hb.trans (hb2.mono hb.size)⟩
 clear h;go_enter func79,ntmps79;go_wp2_with fail;refine Calls.mono (Hc.out _) ?_;rintro e w2⟨n,rfl,hn,hb⟩;have HN:Hid (n=0↔∀d,1<=nth d->¬S d):=hn;clear hn;go_wp2;go_ret;exact⟨n,rfl,HN.out,hb⟩
