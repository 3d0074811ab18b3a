import Derived.Test.YtfmmllpjgkgeaaaGreatDoorPartM11
set_option linter.unusedVariables false
set_option linter.unusedSimpArgs false
set_option maxHeartbeats 16000000
set_option maxRecDepth 100000
namespace Go.Proofs.YtfmmllpjgkgeaaaGreatDoor
open Go.Proofs.Tryz Go.RowKit Go.Maps Go.WideMaps Go.Shelf
variable{n:Nat}
attribute [local go_sem] Oper.semAt_some
def aO(C:Nat->Option Thk.Ch):Nat->Option Value:=λn=>(C n).map qO
def oM(w:World)(rb a:Nat)(io co lo:Option Nat):Prop:=∃(kb db:Nat)(dn:Bool),aA w rb #[.int .i64 a,.map io,.map co,.map lo,.pointer (some ⟨kb,0,none⟩),.pointer (some ⟨db,0,none⟩),.bool dn] 125
section
variable{w w':World}{rb a:Nat}{io co lo:Option Nat}
theorem oM.cell(h:oM w rb a io co lo)(j:Nat)(hj:j<4:=by decide):w.cell? ⟨rb,j,none⟩=(#[.int .i64 a,.map io,.map co,.map lo]:Array Value)[j]?:=by
 obtain⟨kb,db,dn,h⟩:=h;rw[h.cell j]
 match j,hj with
 | 0,_=>rfl
 | 1,_=>rfl
 | 2,_=>rfl
 | 3,_=>rfl
theorem oM.lt(h:oM w rb a io co lo):rb<w.heap.size:=by obtain⟨_,_,_,h⟩:=h;exact h.lt
theorem oM.aJ{M:Nat->Prop}(h:oM w rb a io co lo)(hc:ay M w w')(hm:¬M rb):oM w' rb a io co lo:=by obtain⟨kb,db,dn,h⟩:=h;exact⟨kb,db,dn,h.aJ hc hm⟩
theorem oM.below(h:oM w rb a io co lo)(hb:Below w.heap.size w w'):oM w' rb a io co lo:=by obtain⟨kb,db,dn,h⟩:=h;exact⟨kb,db,dn,h.below hb⟩
theorem oM.alloc(h:oM w rb a io co lo)(o:Obj):oM (w.alloc o) rb a io co lo:=by obtain⟨kb,db,dn,h⟩:=h;exact⟨kb,db,dn,h.alloc o⟩
theorem oM.heap(h:oM w rb a io co lo)(e:w'.heap[rb]?=w.heap[rb]?):oM w' rb a io co lo:=by obtain⟨kb,db,dn,h⟩:=h;exact⟨kb,db,dn,e.trans h⟩
end
structure qC(w:World)(rb a:Nat)(io co lo:Option Nat)(K:Nat->Nat)(C:Nat->Option Thk.Ch):Prop where
 blk:oM w rb a io co lo
 st:iD w (.map io) (.map co) (.map lo) (λd=>nth d<=K (who d)) (aO C)
 ok:∀k c,C k=some c->c.path.length<=1048576
 xw:∀x,K x<=500
 a5:a<=5
theorem qC.aJ{M:Nat->Prop}{w w':World}{rb a:Nat}{io co lo:Option Nat}{K:Nat->Nat}{C:Nat->Option Thk.Ch}(h:qC w rb a io co lo K C)(hc:ay M w w')(h1:¬M rb)(h2:∀b,io=some b\/co=some b\/lo=some b->¬M b):qC w' rb a io co lo K C :=
 ⟨h.blk.aJ hc h1,h.st.aJ hc (λb hb=>h2 b (by rcases hb with h|h|h<;>cases h<;>simp)),h.ok,h.xw,h.a5⟩
theorem qC.below{w w':World}{rb a:Nat}{io co lo:Option Nat}{K:Nat->Nat}{C:Nat->Option Thk.Ch}(h:qC w rb a io co lo K C)(hb:Below w.heap.size w w'):qC w' rb a io co lo K C:=h.aJ (M:=λ_=>False) (ay.of_below hb) (λh=>h) (λ_ _ h=>h)
theorem nZ{C:Nat->Option Thk.Ch}{v:Value}(h:aO C n=some v):∃c,C n=some c/\v=qO c:=by
 unfold aO at h;cases hc:C n with
 | none=>rw[hc]at h;cases h
 | some c=>rw[hc]at h;cases h;exact⟨c,rfl,rfl⟩
theorem jL{C:Nat->Option Thk.Ch}{v:Value}(h:aO C n=some v):rV v:=by obtain⟨c,_,rfl⟩:=nZ h;exact⟨_,_,_,_,rfl⟩
theorem dW{C:Nat->Option Thk.Ch}:aO C n≠none↔C n≠none:=by unfold aO;cases C n<;>simp
def uG(dp:Thk.Bs)(da:UInt8)(dv:Thk.Bs)(c:Thk.Ch):Bool:=ny dp da dv c.path c.act (ah (aC c.act ⟨c.val.toArray⟩))
end Go.Proofs.YtfmmllpjgkgeaaaGreatDoor
namespace Go.Proofs.YtfmmllpjgkgeaaaGreatDoor
open Go.Proofs.Tryz Go.RowKit Go.Maps Go.WideMaps Go.Shelf
attribute [local go_sem] Oper.semAt_some
def iV(dp:Thk.Bs)(da:UInt8)(dv:Thk.Bs)(C:Nat->Option Thk.Ch)(xs:List gX):List Nat:=(xs.filter (λx=>match C x.n with|some c=>uG dp da dv c|none=>false)).map gX.n
theorem zo(dp:Thk.Bs)(da:UInt8)(dv:Thk.Bs)(C:Nat->Option Thk.Ch)(xs:List gX)(x:gX)(c:Thk.Ch)(hc:C x.n=some c):iV dp da dv C (xs++[x])=iV dp da dv C xs++(if uG dp da dv c=true then [x.n]else []):=by unfold iV;rw[List.filter_append,List.map_append];congr 1;simp only[List.filter_cons,List.filter_nil,hc];split<;>simp
theorem Gi(w:World)(rb a:Nat)(io co lo:Option Nat)(K:Nat->Nat)(C:Nat->Option Thk.Ch)(hR:qC w rb a io co lo K C)(dp dv:ByteArray)(da:UInt8)(dn:Int)(hdp:dp.size<=1048576)(m:Int)(hm:w.cell? ⟨0,0,none⟩=some (.int .i64 m)):Calls prog 89 #[.pointer (some ⟨rb,0,none⟩),.agg #[.string dp,.int .u8 (da.toNat:Int),.string dv,.int .i64 dn]] w λe w'=>∃v ns,e=.returned v/\bZ w' v ns/\ns.length<=4000/\(∀k,k∈ns↔∃c,C k=some c/\uG (ah dp) da (ah dv) c=true)/\Below w.heap.size w w':=by
 obtain⟨i0,hi,hz0,hz1,hz2⟩:=info_parts Tryz.infoDot;have r0:=(hR.blk.cell 1).trans rfl;have r1:=(hR.blk.cell 2).trans rfl;have r2:=(hR.blk.cell 3).trans rfl;have hrl:=hR.blk.lt;have h0l:0<w.heap.size:=block_lt_of_cell hm;have r0A:∀o o',((w.alloc o).alloc o').cell? ⟨rb,1,none⟩=some (.map io):=λo o'=>(((hR.blk.alloc o).alloc o').cell 1).trans rfl;have r1A:∀o o',((w.alloc o).alloc o').cell? ⟨rb,2,none⟩=some (.map co):=λo o'=>(((hR.blk.alloc o).alloc o').cell 2).trans rfl;have r2A:∀o o',((w.alloc o).alloc o').cell? ⟨rb,3,none⟩=some (.map lo):=λo o'=>(((hR.blk.alloc o).alloc o').cell 3).trans rfl;have HR:Hid (qC w rb a io co lo K C):=hR;have V3:Hid (∀wx,Below w.heap.size w wx->wx.cell? ⟨0,0,none⟩=some (.int .i64 m)):=λwx hx=>(hx.cell (p:=⟨0,0,none⟩) h0l).trans hm;have QK:Hid (∀wx,Calls prog 148 #[.agg #[.map io,.map co,.map lo]] wx _):=λwx=>Dw wx io co lo;clear hR hm;refine(callsIn_wide (n:=3)).1 ?_;refine callsIn_of_wp_marks func89 rfl trivial ?_ rfl;simp only[ntmps89,List.size_toArray,List.length_cons,List.length_nil,Nat.reduceAdd,Nat.reduceSub,Array.replicate_succ,Array.replicate_zero,List.push_toArray,List.append_toArray,List.nil_append,List.cons_append];gi_wp2_with fail;refine⟨trivial,(callsIn_wide.2 (QK.out _)).mono ?_⟩;rintro e w1⟨rfl,rfl⟩;gi_wp2_with fail;have hb3:Below w.heap.size w (((w.alloc (.cells #[.string dp,.int .u8 (da.toNat:Int),.string dv,.int .i64 dn] 86)).alloc (.cells #[.slice none 0 0] 137)).alloc (.cells #[.map io,.map co,.map lo] 102)):=((((Below.refl _ w).alloc (Nat.le_refl _) _).alloc (by simp) _).alloc (by simp;omega) _);have kc:aA (((w.alloc (.cells #[.string dp,.int .u8 (da.toNat:Int),.string dv,.int .i64 dn] 86)).alloc (.cells #[.slice none 0 0] 137)).alloc (.cells #[.map io,.map co,.map lo] 102)) w.heap.size #[.string dp,.int .u8 (da.toNat:Int),.string dv,.int .i64 dn] 86:=((aA.new w _ _).alloc _).alloc _;have kf:aA (((w.alloc (.cells #[.string dp,.int .u8 (da.toNat:Int),.string dv,.int .i64 dn] 86)).alloc (.cells #[.slice none 0 0] 137)).alloc (.cells #[.map io,.map co,.map lo] 102)) (w.heap.size+1) #[.slice none 0 0] 137:=by have:=(aA.new (w.alloc (.cells #[.string dp,.int .u8 (da.toNat:Int),.string dv,.int .i64 dn] 86)) #[.slice none 0 0] 137).alloc (.cells #[.map io,.map co,.map lo] 102);rwa [World.size_alloc]at this
 have ks:aA (((w.alloc (.cells #[.string dp,.int .u8 (da.toNat:Int),.string dv,.int .i64 dn] 86)).alloc (.cells #[.slice none 0 0] 137)).alloc (.cells #[.map io,.map co,.map lo] 102)) (w.heap.size+2) #[.map io,.map co,.map lo] 102:=by have:=aA.new ((w.alloc (.cells #[.string dp,.int .u8 (da.toNat:Int),.string dv,.int .i64 dn] 86)).alloc (.cells #[.slice none 0 0] 137)) #[.map io,.map co,.map lo] 102;simp only[World.size_alloc]at this;exact this
 generalize (((w.alloc (.cells #[.string dp,.int .u8 (da.toNat:Int),.string dv,.int .i64 dn] 86)).alloc (.cells #[.slice none 0 0] 137)).alloc (.cells #[.map io,.map co,.map lo] 102))=w3 at *;have Du:Iter prog 202 #[.pointer (some ⟨w.heap.size+2,0,none⟩)] (λx:gX=>#[aP x.n,Value.agg #[.string x.p,.int .u8 x.a,.string x.v,.int .i64 x.m]]) (jU (aO C)) (λk=>k=w.heap.size+2\/io=some k) w3:=by obtain⟨N,hN⟩:=HR.out.st.its;exact vH w3 (w.heap.size+2) io co lo (aO C) N ks (hN.below hb3) (λk hk=>(HR.out.st.ok k hk).1) (λk v h=>jL h)
 have D5:∀k,io=some k->k<w.heap.size:=λk hk=>HR.out.st.lt k (Or.inl (by rw[hk]));have hs3:w.heap.size+2<w3.heap.size:=ks.lt;have hlen:∀ys pre:List gX,jU (aO C) ys->pre <+: ys->(iV (ah dp) da (ah dv) C pre).length<=3072:=λys pre hy hp=>by
  have h1:=jT 3072 (ys.map gX.n) hy.1.1 (λk hk=>lg (HR.out.st.ok k ((hy.1.2 k).1 hk)).1);have h2:(iV (ah dp) da (ah dv) C pre).length<=pre.length:=by unfold iV;rw[List.length_map];exact List.length_filter_le _ _
  have h3:=hp.length_le;simp at h1;omega
 refine gy (gf:=202) (lb:=#[.pointer (some ⟨w.heap.size+2,0,none⟩)]) rfl (enters_of func202 (by kernel_rfl) rfl) Du (bI.refl _ _) (λk hk=>by rcases hk with rfl|hk;exact hs3;have:=D5 k hk;omega) (λ_=>rfl)
  (λT pre W=>Coll w (w.heap.size+1) 137 134 2 (aT (iV (ah dp) da (ah dv) C pre)) (iV (ah dp) da (ah dv) C pre).length T W/\aA W w.heap.size #[.string dp,.int .u8 (da.toNat:Int),.string dv,.int .i64 dn] 86/\¬T w.heap.size) (λ_ _ _ _=>False)
  (λT T' pre W W' h hc hT=>⟨h.1.lH hc hT,h.2.1.aJ hc h.2.2,λhk=>by rcases(hT _ hk).1 with h1|h1;exact h.2.2 h1;have:=h.2.1.lt;omega⟩) (λ_ _ _ _ _ _ h _ _=>h)
  ⟨⟨_,kf,World.ownsRow_nil _ _ _ _,λh=>h,λ_ _ h=>h,hb3,λ_ h=>h.elim,by omega⟩,kc,λh=>h⟩ ?round ?done ?stop
 case round =>
  rintro l T pre x W hTl hT⟨⟨v,hC⟩,hkc,EC⟩ Fv ⟨ys,hys,hpre⟩;have hxy:x∈ys:=hpre.subset (by simp);obtain⟨c,hc,Dx⟩:=nZ (hys.2 x hxy);have hcl:=HR.out.ok _ _ hc;have hln:(iV (ah dp) da (ah dv) C (pre++[x])).length<=3072:=hlen ys _ hys hpre;rw[zo _ _ _ _ _ _ _ hc]at hln;have Ez:Hid (iV (ah dp) da (ah dv) C (pre++[x])=iV (ah dp) da (ah dv) C pre++(if uG (ah dp) da (ah dv) c=true then [x.n]else [])):=zo _ _ _ _ _ _ _ hc;obtain⟨xn,xp,xa,xv,xm⟩:=x;simp only[qO,Value.agg.injEq]at Dx;simp at Dx;obtain⟨rfl,rfl,rfl,rfl⟩:=Dx;simp only at hc hln Ez;gi_wp2;have hsW:w.heap.size+2<W.heap.size:=by have:=Fv.1;omega
  refine⟨⟨by simp;omega,λk hk=>?_⟩, ?_⟩
  ·refine(((Below.refl W.heap.size W).alloc (Nat.le_refl _) _).alloc (by simp) _).block k (hk.elim (λh=>?_) (λh=>(hT k h).2));rcases h with rfl|h
   ·omega
   ·have:=D5 k h;omega
  intro W2 hc2 hs2 hE2;have hTs:∀k,T k->k<W2.heap.size:=λk hk=>by rw[hs2];have:=(hT k hk).2;simp;omega
  have hch:ay T W W2:=(ay.of_below ((((Below.refl W.heap.size W).alloc (Nat.le_refl _) _).alloc (by simp) _))).trans hc2;have hC2:=hC.lH hch (λk hk=>⟨Or.inl hk,hTs k hk⟩);have NP:aA W2 w.heap.size #[.string dp,.int .u8 (da.toNat:Int),.string dv,.int .i64 dn] 86:=hkc.aJ hch EC;have kd:aA W2 W.heap.size #[.int .i64 (who xn),.int .i64 (nth xn)] 134:=((aA.new W _ _).alloc _).aJ hc2 (λhk=>by have:=(hT _ hk).2;omega);have ke:aA W2 (W.heap.size+1) #[.string ⟨c.path.toArray⟩,.int .u8 (c.act.toNat:Int),.string (aC c.act ⟨c.val.toArray⟩),.int .i64 c.n] 86:=by have:=aA.new (W.alloc (.cells #[.int .i64 (who xn),.int .i64 (nth xn)] 134)) #[.string ⟨c.path.toArray⟩,.int .u8 (c.act.toNat:Int),.string (aC c.act ⟨c.val.toArray⟩),.int .i64 c.n] 86;rw[World.size_alloc]at this;exact this.aJ hc2 (λhk=>by have:=(hT _ hk).2;omega)
  have a0:=(NP.cell 0).trans rfl;have a1:=(NP.cell 1).trans rfl;have a2:=(NP.cell 2).trans rfl;have a3:=(NP.cell 3).trans rfl;have b0:=(ke.cell 0).trans rfl;have b1:=(ke.cell 1).trans rfl;have b2:=(ke.cell 2).trans rfl;have b3:=(ke.cell 3).trans rfl;have ZR:Hid (_):=I4 dp dv ⟨c.path.toArray⟩ (aC c.act ⟨c.val.toArray⟩) da c.act dn c.n m W2 hdp (by show c.path.toArray.size<=_;simpa using hcl) (V3.out _ hC2.below);have HC2:Hid (iM w (w.heap.size+1) 137 134 2 (aT (iV (ah dp) da (ah dv) C pre)) (iV (ah dp) da (ah dv) C pre).length T W2 v):=hC2;have MO:Hid (aA W2 w.heap.size #[.string dp,.int .u8 (da.toNat:Int),.string dv,.int .i64 dn] 86/\aA W2 W.heap.size #[.int .i64 (who xn),.int .i64 (nth xn)] 134):=⟨NP,kd⟩;have HE2:Hid (bI (λk=>k=w.heap.size+2\/io=some k) w3 W2):=hE2;have ZT:w.heap.size+2<W2.heap.size:=by have:=hE2.1;omega
  clear hC hC2 hkc NP kd ke hch hc2 hs2 hE2 Fv;gi_wp2_with fail;refine⟨trivial,CallsIn.inRound l ((callsIn_wide.2 ZR.out).mono ?_)⟩;rintro e w4⟨rfl,hb4⟩;have hcv:ny (ah dp) da (ah dv) (ah ⟨c.path.toArray⟩) c.act (ah (aC c.act ⟨c.val.toArray⟩))=uG (ah dp) da (ah dv) c:=by unfold uG ah;simp
  rw[hcv];have Vm:∀k,T k->k<w4.heap.size:=λk hk=>Nat.lt_of_lt_of_le (hTs k hk) hb4.size;have uP:Hid (iM w (w.heap.size+1) 137 134 2 (aT (iV (ah dp) da (ah dv) C pre)) (iV (ah dp) da (ah dv) C pre).length T w4 v):=HC2.out.lH (ay.of_below hb4) (λk hk=>⟨Or.inl hk,Vm k hk⟩);have Hk4:Hid (aA w4 w.heap.size #[.string dp,.int .u8 (da.toNat:Int),.string dv,.int .i64 dn] 86):=MO.out.1.below hb4;have QL:Hid (bI (λk=>(k=w.heap.size+2\/io=some k)\/T k) W2 w4):=⟨hb4.size,λk hk=>hb4.block k (hk.elim (λh=>by rcases h with rfl|h;exact ZT;have:=D5 k h;omega) (hTs k))⟩;have c0:=uP.out.bx.cell;have Vr:=MO.out.2.below hb4;have d0:=(Vr.cell 0).trans rfl;have d1:=(Vr.cell 1).trans rfl;have HE4:Hid (∀k,(k=w.heap.size+2\/io=some k)->k<w4.heap.size/\k≠w.heap.size+1/\v.ownBlock≠some k):=λk hk=>by
   have hw4:=hb4.size;have e1:w4.heap[k]?=w3.heap[k]?:=(hb4.block k (by rcases hk with rfl|h;exact ZT;have:=D5 k h;omega)).trans (HE2.out.2 k hk);rcases hk with rfl|hk
   ·refine⟨by omega,by omega,ownsRow_ne uP.out.row (λcur fz e=>?_)⟩;rw[e1,show w3.heap[w.heap.size+2]?=_ from ks]at e;cases e
   ·have:=D5 k hk;refine⟨by omega,by omega,λe=>?_⟩;have:=(uP.out.row.lt k e).1;omega
  clear hb4 Vr ZR a0 a1 a2 a3 b0 b1 b2 b3 HC2 MO HE2;cases hcc:uG (ah dp) da (ah dv) c with
  | false =>rw[hcc]at Ez;gi_wp2_with fail;refine⟨⟨?_,Hk4.out,EC⟩,QL.out⟩;have h1:=Ez.out;simp only[Bool.false_eq_true,if_false,List.append_nil]at h1;rw[h1];exact⟨v,uP.out⟩
  | true =>
   rw[hcc]at Ez;have hml:Hid ((iV (ah dp) da (ah dv) C pre).length+1<=maxLen):=by simp only[hcc,if_true,List.length_append,List.length_singleton]at hln;unfold Hid maxLen;omega
   have hmb:Hid (((iV (ah dp) da (ah dv) C pre).length+1)*16<=140737488355328):=by simp only[hcc,if_true,List.length_append,List.length_singleton]at hln;unfold Hid;omega
   have Jh:Hid (∀j u,([.int .i64 (who xn),.int .i64 (nth xn)]:List Value)[j]?=some u->(w4.alloc (.cells #[.int .i64 (who xn),.int .i64 (nth xn)] 134)).cell? ((⟨w4.heap.size,0,none⟩:Addr).add j)=some u):=λj u hj=>by
    match j,hj with
    | 0,hj=>cases hj;simp[Addr.add]
    | 1,hj=>cases hj;simp[Addr.add]
   have hbs:w.heap.size<=w4.heap.size:=uP.out.below.size;gi_wp2_with (first|(gi_at_builtin;refine wpListIn_append_own_at _ rfl (.tmp 18) (.tmp 20) 137 rfl w.heap.size 134 i0 (.agg #[.int .i64 0,.int .i64 0]) 2 16 underlying137 hi hz0 hz1 hz2 rfl (by decide) v _ _ rfl (uP.out.row.alloc _) ⟨w4.heap.size,0,none⟩ 1 1 [.int .i64 (who xn),.int .i64 (nth xn)] rfl rfl Jh.out (by simp[Value.oneCell']) hml.out hmb.out (by simp;omega) ?_;intro v' w5 hown' hg' _ hloc;have happ:=uP.out.Y9 (E:=λk=>k=w.heap.size+2\/io=some k) (by decide) hown' hg' hloc Vm HE4.out;obtain⟨g',cap',rfl⟩:=ownsRow_succ hown';have hc1:=happ.1.cell;have hf1:=happ.1.frozen;have hk5:aA w5 w.heap.size #[.string dp,.int .u8 (da.toNat:Int),.string dv,.int .i64 dn] 86:=(hg'.block w.heap.size (by simp;have:=Hk4.out.lt;omega) (λe=>ownsRow_ne uP.out.row (λcur fz e2=>by rw[show w4.heap[w.heap.size]?=_ from Hk4.out]at e2;cases e2) e.symm)).trans (Hk4.out.alloc _)));refine⟨⟨?_, ?_,EC⟩,QL.out.trans happ.2.2⟩
   ·have h1:=Ez.out;simp only[if_true]at h1;rw[h1,qh,List.length_append];exact⟨_,happ.2.1⟩
   ·exact hk5.aJ (M:=λk=>k=w.heap.size+1) ((ay.refl (λk=>k=w.heap.size+1) w5).setCell (p:=⟨w.heap.size+1,0,none⟩) rfl _) (by omega)
 case done =>
  rintro D T xs W hD xJ hS'⟨⟨v,hC⟩,hkc,EC⟩ hT hK;have c0:=hC.bx.cell;have HC:Hid (iM w (w.heap.size+1) 137 134 2 (aT (iV (ah dp) da (ah dv) C xs)) (iV (ah dp) da (ah dv) C xs).length T W v):=hC;clear hC hkc;gi_wp2_with fail;refine⟨by simp,.inl ⟨_,_,rfl,run_takeDeferred hK, ?_⟩⟩;have hl2:=hlen xs xs hS' (List.prefix_refl _);refine⟨_,results_tmp rfl _ _ _,v,iV (ah dp) da (ah dv) C xs,rfl, ?_,by omega,λk=>?_, ?_⟩
  ·have hrow:=ownsRow_putObj HC.out.row (.deferred none) hK rfl;obtain⟨hx,⟨rfl,hn⟩|⟨g,cap,cur,rfl,hg,hh,hnc,_⟩⟩:=(id hrow:World.ownsRow _ _ _ _ _ _ _)
   ·exact Or.inl ⟨rfl,List.eq_nil_of_length_eq_zero hn⟩
   ·refine Or.inr ⟨g,0,cap,rfl,hnc,(hrow.lt g rfl).2,λj hj=>?_⟩;have:=sJ _ j hj;rw[Nat.zero_add,hrow.cellAt (j*2) (by omega),hrow.cellAt (j*2+1) (by omega)];exact this
  ·unfold iV;simp only[List.mem_map,List.mem_filter];constructor
   ·rintro⟨x,⟨hx,hcx⟩,rfl⟩;cases hc:C x.n with
    | none=>rw[hc]at hcx;cases hcx
    | some c=>rw[hc]at hcx;exact⟨c,rfl,hcx⟩
   ·rintro⟨c,hc,hcc⟩;have:k∈xs.map gX.n:=(hS'.1.2 k).2 (dW.2 (by rw[hc];simp));obtain⟨x,hx,rfl⟩:=List.mem_map.1 this;exact⟨x,⟨hx,by rw[hc];exact hcc⟩,rfl⟩
  ·exact(HC.out.lH (T':=T) (dO W D (.deferred none) xJ) (λk hk=>⟨Or.inl hk,by rw[cu];exact(hT k hk).2⟩)).below
 case stop =>rintro D T c pre W _ _ h;exact h.elim
end Go.Proofs.YtfmmllpjgkgeaaaGreatDoor
namespace Go.Proofs.YtfmmllpjgkgeaaaGreatDoor
open Go.Proofs.Tryz Go.RowKit Go.Maps Go.WideMaps
theorem qC.ctx{w:World}{rb a:Nat}{io co lo:Option Nat}{K:Nat->Nat}{C:Nat->Option Thk.Ch}(h:qC w rb a io co lo K C):kM w (.map co) (.map lo) K (λ_=>false):=h.st.ctx.first (λ_ _=>Iff.rfl)
theorem og(w:World)(rb a:Nat)(io co lo:Option Nat)(K:Nat->Nat)(C:Nat->Option Thk.Ch)(hR:qC w rb a io co lo K C):Calls prog 46 #[.pointer (some ⟨rb,0,none⟩)] w λe w'=>e=.returned (.int .i64 (aV K))/\Below w.heap.size w w':=by have r0:=(hR.blk.cell 1).trans rfl;have r1:=(hR.blk.cell 2).trans rfl;have r2:=(hR.blk.cell 3).trans rfl;have Hc:Hid (_):=MH w io co lo K hR.ctx;clear hR;go_enter func46,ntmps46;go_wp2_with fail;refine Calls.mono Hc.out ?_;rintro e w1⟨rfl,hb⟩;go_wp2;go_ret;exact⟨rfl,hb⟩
theorem QM(w:World)(rb a:Nat)(io co lo:Option Nat)(K:Nat->Nat)(C:Nat->Option Thk.Ch)(hR:qC w rb a io co lo K C):Calls prog 86 #[.pointer (some ⟨rb,0,none⟩)] w λe w'=>e=.returned (.int .i64 (K a))/\Below w.heap.size w w':=by
 have q0:=(hR.blk.cell 0).trans rfl;have q1:=(hR.blk.cell 1).trans rfl;have q2:=(hR.blk.cell 2).trans rfl;have q3:=(hR.blk.cell 3).trans rfl;have hrl:=hR.blk.lt;have nD:=hR.xw a;have a5:=hR.a5;have HX:Hid (∀wx,Below w.heap.size w wx->Calls prog 87 #[.agg #[.map io,.map co,.map lo],.int .i64 a] wx λe w'=>e=.returned (.agg #[.int .i64 a,.int .i64 ((K a+1:Nat):Int)])/\Below w.heap.size w w'):=λwx hb=>by refine Calls.mono (Fj wx io co lo a K (hR.below hb).ctx a5) ?_;rintro e w'⟨rfl,hb2⟩;exact⟨rfl,hb.trans (hb2.mono hb.size)⟩
 have gG:Hid (∀wx,Below w.heap.size w wx->wx.cell? ⟨rb,0,none⟩=some (.int .i64 a)/\wx.cell? ⟨rb,1,none⟩=some (.map io)/\wx.cell? ⟨rb,2,none⟩=some (.map co)/\wx.cell? ⟨rb,3,none⟩=some (.map lo)):=λwx hb=>⟨((hR.blk.below hb).cell 0).trans rfl,((hR.blk.below hb).cell 1).trans rfl,((hR.blk.below hb).cell 2).trans rfl,((hR.blk.below hb).cell 3).trans rfl⟩;have hb0:Below w.heap.size w w.drew:=(Below.refl _ w).drew;obtain⟨n,hn⟩:∃n,K a=n:=⟨_,rfl⟩;rw[hn]at HX nD⊢;clear hn;have hfd:=KQ (a:Int) ((n:Int)+1);have hwr:IntKind.i64.wrap ((n:Int)+1-1)=(n:Int):=by rw[wrap_in _ (by omega) (by omega)];omega
 clear hR;go_enter func86,ntmps86;go_wp2_with fail;go_region_held3 (λw'=>Below w.heap.size w w'/\w'.cell? ⟨rb,0,none⟩=some (.int .i64 a)/\w'.cell? ⟨rb,1,none⟩=some (.map io)/\w'.cell? ⟨rb,2,none⟩=some (.map co)/\w'.cell? ⟨rb,3,none⟩=some (.map lo)) ((refine⟨?_, ?_, ?_, ?_, ?_⟩<;>(first|assumption|(exact(gG.out _ (by assumption)).1)|(exact(gG.out _ (by assumption)).2.1)|(exact(gG.out _ (by assumption)).2.2.1)|(exact(gG.out _ (by assumption)).2.2.2)))) (first|(go_at_call 87;refine Calls.mono (HX.out _ hb0) ?_;rintro e w3⟨rfl,hb3⟩));go_wp2_with fail;go_ret;have hw2:IntKind.i64.wrap (n:Int)=(n:Int):=wrap_in _ (by omega) (by omega);refine⟨?_,by assumption⟩;first|(simp[hw2];done)|(simp[hwr];done)|(rw[hw2])|(rw[hwr])|trace_state
def gK(C:Nat->Option Thk.Ch)(c:Thk.Ch)(d:Nat):Nat->Option Thk.Ch:=λk =>
 if k=d then(if ig c.act=true then some c else none) else(match C k with|some e=>if uG c.path c.act (ah (aC c.act ⟨c.val.toArray⟩)) e=true then none else some e|none=>none)
theorem Gj{C:Nat->Option Thk.Ch}{c:Thk.Ch}{K:Nat->Nat}{d:Nat}{ns:List Nat}{s1 s2 s3:jh}{It:Nat->Option Value}(hC:∀k,C k≠none->1<=nth k/\nth k<=K (who k))(hd:nth d=K (who d)+1)(hns:∀k,k∈ns↔∃e,C k=some e/\uG c.path c.act (ah (aC c.act ⟨c.val.toArray⟩)) e=true)(e1:s1.S=λk=>nth k<=K (who k))(i1:s1.It=aO C)(e2:s2.S=λk=>k∈ns)(i2:s2.It=λ_=>none)(e3:s3.S=λk=>k=d)(i3:s3.It=λk=>if k=d/\ig c.act=true then some (qO c)else none)(p1:∀k v,It k=some v->(∃s∈[s1,s2,s3],s.It k=some v)/\¬bJ [s1,s2,s3] k)(p2:∀k,(∃s∈[s1,s2,s3],s.It k≠none)->¬bJ [s1,s2,s3] k->It k≠none):It=aO (gK C c d)/\∀k,1<=nth k->((∃s∈[s1,s2,s3],s.S k)↔nth k<=inc K (who d) (who k)):=by
 have hex:∀(Q:jh->Prop),(∃s∈[s1,s2,s3],Q s)↔Q s1\/Q s2\/Q s3:=λQ=>by simp
 have BF:∀k,bJ [s1,s2,s3] k↔(C k=none/\nth k<=K (who k))\/k∈ns\/(k=d/\¬ig c.act=true):=λk=>by
  unfold bJ;rw[hex];simp only[e1,i1,e2,i2,e3,i3,aO];constructor
  ·rintro(⟨h1,h2⟩|⟨_,h2⟩|⟨h1,h2⟩)
   ·exact Or.inl ⟨by simpa using h1,h2⟩
   ·exact Or.inr (Or.inl h2)
   ·refine Or.inr (Or.inr ⟨h2,λh=>?_⟩);rw[if_pos ⟨h2,h⟩]at h1;cases h1
  ·rintro(⟨h1,h2⟩|h2|⟨h1,h2⟩)
   ·exact Or.inl ⟨by simpa using h1,h2⟩
   ·exact Or.inr (Or.inl ⟨by simp,h2⟩)
   ·exact Or.inr (Or.inr ⟨if_neg (λh=>h2 h.2),h1⟩)
 have hsome:∀k v,(∃s∈[s1,s2,s3],s.It k=some v)↔(aO C k=some v)\/(k=d/\ig c.act=true/\v=qO c):=λk v=>by
  rw[hex];simp only[i1,i2,i3];constructor
  ·rintro(h|h|h)
   ·exact Or.inl h
   ·cases h
   ·split at h
    ·rename_i hh;cases h;exact Or.inr ⟨hh.1,hh.2,rfl⟩
    ·cases h
  ·rintro(h|⟨h1,h2,rfl⟩)
   ·exact Or.inl h
   ·exact Or.inr (Or.inr (if_pos ⟨h1,h2⟩))
 have hn1:C d=none:=by
  cases h:C d with
  | none=>rfl
  | some e=>have:=hC d (by rw[h];simp);omega
 constructor
 ·funext k;unfold aO gK;by_cases hk:k=d
  ·subst hk;rw[if_pos rfl];by_cases he:ig c.act=true
   ·rw[if_pos he];have Dv:¬bJ [s1,s2,s3] k:=by
     rw[BF];rintro(⟨_,h⟩|h|⟨_,h⟩)
     ·omega
     ·obtain⟨e,h1,_⟩:=(hns _).1 h;rw[hn1]at h1;cases h1
     ·exact h he
    obtain⟨v,hv⟩:=Option.ne_none_iff_exists'.1 (p2 k ((hex _).2 (Or.inr (Or.inr (by rw[i3];simp[he])))) Dv);rw[hv];rcases(hsome _ _).1 (p1 _ _ hv).1 with h|⟨_,_,rfl⟩
    ·simp[aO,hn1]at h
    ·rfl
   ·rw[if_neg he];cases hv:It k with
    | none=>rfl
    | some v=>exact absurd ((BF _).2 (Or.inr (Or.inr ⟨rfl,he⟩))) (p1 _ _ hv).2
  ·rw[if_neg hk];cases Xe:C k with
   | none =>
    cases hv:It k with
    | none=>rfl
    | some v =>
     rcases(hsome _ _).1 (p1 _ _ hv).1 with h|⟨h,_⟩
     ·simp[aO,Xe]at h
     ·exact absurd h hk
   | some e =>
    have hr:=hC k (by rw[Xe];simp);by_cases hcv:uG c.path c.act (ah (aC c.act ⟨c.val.toArray⟩)) e=true
    ·simp only[hcv,if_true];cases hv:It k with
     | none=>rfl
     | some v=>exact absurd ((BF _).2 (Or.inr (Or.inl ((hns k).2 ⟨e,Xe,hcv⟩)))) (p1 _ _ hv).2
    ·simp only[hcv];have Dv:¬bJ [s1,s2,s3] k:=by
      rw[BF];rintro(⟨h,_⟩|h|⟨h,_⟩)
      ·rw[Xe]at h;cases h
      ·obtain⟨e',h1,h2⟩:=(hns k).1 h;rw[Xe]at h1;cases h1;exact hcv h2
      ·exact hk h
     obtain⟨v,hv⟩:=Option.ne_none_iff_exists'.1 (p2 k ((hex _).2 (Or.inl (by rw[i1];simp[aO,Xe]))) Dv);rw[hv];rcases(hsome _ _).1 (p1 _ _ hv).1 with h|⟨h,_⟩
     ·simp[aO,Xe]at h;simp[h]
     ·exact absurd h hk
 ·intro k hk;rw[hex];simp only[e1,e2,e3];constructor
  ·rintro(h|h|h)
   ·by_cases e:who k=who d
    ·rw[e,dU];rw[e]at h;omega
    ·rw[iH e];exact h
   ·obtain⟨e,h1,_⟩:=(hns k).1 h;have:=(hC k (by rw[h1];simp)).2;by_cases e:who k=who d
    ·rw[e,dU];rw[e]at this;omega
    ·rw[iH e];exact this
   ·rw[h,dU];omega
  ·intro h;by_cases e:who k=who d
   ·rw[e,dU]at h;by_cases e2:nth k=nth d
    ·exact Or.inr (Or.inr (lQ e e2))
    ·exact Or.inl (by rw[e];omega)
   ·rw[iH e]at h;exact Or.inl h
