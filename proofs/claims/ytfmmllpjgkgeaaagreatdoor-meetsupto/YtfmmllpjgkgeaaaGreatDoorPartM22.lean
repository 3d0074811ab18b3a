import Derived.Test.YtfmmllpjgkgeaaaGreatDoorPartM21
set_option linter.unusedVariables false
set_option linter.unusedSimpArgs false
set_option maxHeartbeats 16000000
set_option maxRecDepth 100000
namespace Go.Proofs.YtfmmllpjgkgeaaaGreatDoor
open Go.Proofs.Tryz Go.RowKit Go.Maps Go.WideMaps Go.Shelf
attribute [local go_sem] Oper.semAt_some
theorem alive_any(w:World)(rb:Nat):Calls prog 96 #[.pointer (some ⟨rb,0,none⟩)] w λe w'=>e=.returned (.func (.func 162) #[] #[.pointer (some ⟨w.heap.size,0,none⟩)])/\w'=w.alloc (.cells #[.pointer (some ⟨rb,0,none⟩)] 81):=by go_enter func96,ntmps96;go_wp2;go_ret;exact⟨rfl,rfl⟩
theorem Gl(w0:World)(ab rb a:Nat)(io co lo:Option Nat)(K:Nat->Nat)(C:Nat->Option Thk.Ch)(hk:aA w0 ab #[.pointer (some ⟨rb,0,none⟩)] 81)(hR:qC w0 rb a io co lo K C):Iter prog 162 #[.pointer (some ⟨ab,0,none⟩)] (λx:gX=>#[Value.agg #[.string x.p,.int .u8 x.a,.string x.v,.int .i64 x.m]]) (jU (aO C)) (λk=>k=ab\/k=rb\/io=some k) w0:=by
 intro l J Jx W hE hJ hJx hY h0;have hkb:aA W ab #[.pointer (some ⟨rb,0,none⟩)] 81:=(hE.2 ab (Or.inl rfl)).trans hk;have hrb:oM W rb a io co lo:=hR.blk.heap (hE.2 rb (Or.inr (Or.inl rfl)));obtain⟨N,hN⟩:=hR.st.its;have MI:cZ prog 134 W (.map io) N (im (aO C)):=by
  rcases hN with h|⟨b,hb,h⟩
  ·exact Or.inl h
  ·exact Or.inr ⟨b,hb,h.block (hE.2 b (Or.inr (Or.inr (by cases hb;rfl))))⟩
 have jw:∀k,aO C k≠none->okD k:=λk hk=>(hR.st.ok k hk).1;have a5:=hR.a5;have hal:=hkb.lt;have hrl:=hrb.lt;have hil:∀k,io=some k->k<W.heap.size:=λk hk=>MI.lt k (by rw[hk]);have cA:∀o,(W.alloc o).cell? ⟨ab,0,none⟩=some (.pointer (some ⟨rb,0,none⟩)):=λo=>((hkb.alloc o).cell 0).trans rfl;have r1:∀o,(W.alloc o).cell? ⟨rb,1,none⟩=some (.map io):=λo=>((hrb.alloc o).cell 1).trans rfl;have r2:∀o,(W.alloc o).cell? ⟨rb,2,none⟩=some (.map co):=λo=>((hrb.alloc o).cell 2).trans rfl;have r3:∀o,(W.alloc o).cell? ⟨rb,3,none⟩=some (.map lo):=λo=>((hrb.alloc o).cell 3).trans rfl;have QK:Hid (∀wx,Calls prog 148 #[.agg #[.map io,.map co,.map lo]] wx _):=λwx=>Dw wx io co lo;clear hR hN hk;refine callsIn_of_wp_marks func162 rfl trivial ?_ rfl;simp only[ntmps162,List.size_toArray,List.length_cons,List.length_nil,Nat.reduceAdd,Nat.reduceSub,Array.replicate_succ,Array.replicate_zero,List.push_toArray,List.append_toArray,List.nil_append,List.cons_append];gi_wp2_with fail;refine⟨trivial,(callsIn_wide.2 (QK.out _)).mono ?_⟩;rintro e w1⟨rfl,rfl⟩;gi_wp2_with fail;have hb2:Below W.heap.size W ((W.alloc (.cells #[.func (.yield l) #[] #[]] 89)).alloc (.cells #[.map io,.map co,.map lo] 102)):=((Below.refl _ W).alloc (Nat.le_refl _) _).alloc (by simp) _;have ky:aA ((W.alloc (.cells #[.func (.yield l) #[] #[]] 89)).alloc (.cells #[.map io,.map co,.map lo] 102)) W.heap.size #[.func (.yield l) #[] #[]] 89:=(aA.new W _ _).alloc _;have ks:aA ((W.alloc (.cells #[.func (.yield l) #[] #[]] 89)).alloc (.cells #[.map io,.map co,.map lo] 102)) (W.heap.size+1) #[.map io,.map co,.map lo] 102:=by have:=aA.new (W.alloc (.cells #[.func (.yield l) #[] #[]] 89)) #[.map io,.map co,.map lo] 102;rwa [World.size_alloc]at this
 generalize ((W.alloc (.cells #[.func (.yield l) #[] #[]] 89)).alloc (.cells #[.map io,.map co,.map lo] 102))=w3 at *;have hs3:W.heap.size+1<w3.heap.size:=ks.lt;have Du:Iter prog 202 #[.pointer (some ⟨W.heap.size+1,0,none⟩)] (λx:gX=>#[aP x.n,Value.agg #[.string x.p,.int .u8 x.a,.string x.v,.int .i64 x.m]]) (jU (aO C)) (λk=>k=W.heap.size+1\/io=some k) w3:=vH w3 (W.heap.size+1) io co lo (aO C) N ks (MI.below hb2) jw (λk v h=>jL h);obtain⟨P,hP⟩:∃P:(Nat->Prop)->Nat->Prop,P=λT k=>T k\/k=W.heap.size\/k=W.heap.size+1:=⟨_,rfl⟩;have QN:∀{T T':Nat->Prop}{A B:World},ay T A B->(∀k,T' k->(T k\/A.heap.size<=k)/\k<B.heap.size)->W.heap.size+2<=A.heap.size->ay (P T) A B/\∀k,P T' k->(P T k\/A.heap.size<=k)/\k<B.heap.size:=by
  intro T T' A B hc hT hs;refine⟨hc.mono (λk _ hk=>by rw[hP];exact Or.inl hk),λk hk=>?_⟩;rw[hP]at hk⊢;have:=hc.size;rcases hk with hk|hk
  ·exact⟨(hT k hk).1.imp Or.inl id,(hT k hk).2⟩
  ·exact⟨Or.inl (Or.inr hk),by omega⟩
 refine gy (gf:=202) (lb:=#[.pointer (some ⟨W.heap.size+1,0,none⟩)]) rfl (enters_of func202 (by kernel_rfl) rfl) Du (bI.refl _ _) (λk hk=>by rcases hk with rfl|hk;exact hs3;have:=hil k hk;omega) (λ_=>rfl)
  (λT pre W'=>J (P T) pre W'/\aA W' W.heap.size #[.func (.yield l) #[] #[]] 89/\¬T W.heap.size/\W.heap.size+2<=W'.heap.size) (λc T pre W'=>c=.ret/\Jx (P T) pre W'/\W.heap.size+2<=W'.heap.size)
  (λT T' pre A B h hc hT=>by have h1:=QN hc hT h.2.2.2;exact⟨hJ _ _ _ _ _ h.1 h1.1 h1.2,h.2.1.aJ hc h.2.2.1,λhk=>by rcases(hT _ hk).1 with h2|h2;exact h.2.2.1 h2;have:=h.2.2.2;omega,Nat.le_trans h.2.2.2 hc.size⟩)
  (λc T T' pre A B h hc hT=>by have h1:=QN hc hT h.2.2;exact⟨h.1,hJx _ _ _ _ _ h.2.1 h1.1 h1.2,Nat.le_trans h.2.2 hc.size⟩)
  ⟨hJ _ _ _ _ _ h0 (ay.of_below hb2) (λk hk=>by rw[hP]at hk;rcases hk with hk|hk;exact hk.elim;exact⟨Or.inr (by omega),by omega⟩),ky,λh=>h,by omega⟩ ?round ?done ?stop
 case round =>
  rintro l' T pre x W1 hTl hT⟨hJ1,hky,EC,hsz⟩ Fv ⟨ys,hys,hpre⟩;obtain⟨xn,xp,xa,xv,xm⟩:=x;gi_wp2;refine⟨⟨by simp,λk hk=>?_⟩, ?_⟩
  ·refine((Below.refl W1.heap.size W1).alloc (Nat.le_refl _) _).block k (hk.elim (λh=>?_) (λh=>(hT k h).2));rcases h with rfl|h
   ·omega
   ·have:=hil k h;omega
  intro W2 hc2 hs2 hE2;have hTs:∀k,T k->k<W2.heap.size:=λk hk=>by rw[hs2];have:=(hT k hk).2;simp;omega
  have hch:ay T W1 W2:=(ay.of_below ((Below.refl W1.heap.size W1).alloc (Nat.le_refl _) _)).trans hc2;have h1:=QN hch (λk hk=>⟨Or.inl hk,hTs k hk⟩) hsz;have hJ2:J (P T) pre W2:=hJ _ _ _ _ _ hJ1 h1.1 h1.2;have JQ:=hky.aJ hch EC;have ke:aA W2 W1.heap.size #[.string xp,.int .u8 xa,.string xv,.int .i64 xm] 86:=(aA.new W1 _ _).aJ hc2 (λhk=>by have:=(hT _ hk).2;omega);have y0:=(JQ.cell 0).trans rfl;have b0:=(ke.cell 0).trans rfl;have b1:=(ke.cell 1).trans rfl;have b2:=(ke.cell 2).trans rfl;have b3:=(ke.cell 3).trans rfl;obtain⟨fn,tmps,assign,body,hy,MK⟩:=hY (P T) pre ⟨xn,xp,xa,xv,xm⟩ W2 hJ2 ⟨ys,hys,hpre⟩;try dsimp only at hy
  have MO:Hid (aA W2 W.heap.size #[.func (.yield l) #[] #[]] 89):=JQ;have hsz2:W.heap.size+2<=W2.heap.size:=Nat.le_trans hsz hch.size;clear hky JQ ke hch hc2 hs2 hE2 Fv hJ1 hJ2 h1;gi_wp2;refine RoundIn.mono (oH (eX MK)) ?_;rintro e W3 (⟨rfl,hJ3,hk3⟩|⟨rfl,hJx3,hk3⟩)
  ·have HF:Hid (J (P T) (pre++[⟨xn,xp,xa,xv,xm⟩]) W3/\bI (λk=>(k=ab\/k=rb\/io=some k)\/P T k) W2 W3):=⟨hJ3,hk3⟩;clear hJ3 hk3 y0 b0 b1 b2 b3 hy MK;gi_wp2;refine⟨⟨HF.out.1,(HF.out.2.2 _ (Or.inr (by rw[hP];exact Or.inr (Or.inl rfl)))).trans MO.out,EC,Nat.le_trans hsz2 HF.out.2.1⟩,HF.out.2.mono (λk hk=>?_)⟩;rcases hk with(rfl|hk)|hk
   ·exact Or.inr (by rw[hP];exact Or.inr (Or.inr rfl))
   ·exact Or.inl (Or.inr (Or.inr hk))
   ·exact Or.inr (by rw[hP];exact Or.inl hk)
  ·have HF:Hid (Jx (P T) (pre++[⟨xn,xp,xa,xv,xm⟩]) W3/\bI (λk=>(k=ab\/k=rb\/io=some k)\/P T k) W2 W3):=⟨hJx3,hk3⟩;clear hJx3 hk3 y0 b0 b1 b2 b3 hy MK;gi_wp2;refine⟨⟨rfl,HF.out.1,Nat.le_trans hsz2 HF.out.2.1⟩,HF.out.2.mono (λk hk=>?_)⟩;rcases hk with(rfl|hk)|hk
   ·exact Or.inr (by rw[hP];exact Or.inr (Or.inr rfl))
   ·exact Or.inl (Or.inr (Or.inr hk))
   ·exact Or.inr (by rw[hP];exact Or.inl hk)
 case done =>rintro D T xs W' hD xJ hS'⟨hJ1,hky,EC,hsz⟩ hT hK;gi_wp2;refine⟨by simp,.inl ⟨_,_,rfl,run_takeDeferred hK, ?_⟩⟩;refine⟨_,results_none rfl _ _ _,⟨_,rfl⟩,Or.inl ⟨xs,hS',P T, ?_⟩⟩;have h1:=QN (T:=T) (T':=T) (dO W' D (.deferred none) xJ) (λk hk=>⟨Or.inl hk,by rw[cu];exact(hT k hk).2⟩) hsz;exact hJ _ _ _ _ _ hJ1 h1.1 h1.2
 case stop =>rintro D T c pre W' hD xJ⟨rfl,hJ1,hsz⟩ hT hK;gi_wp2;refine⟨by simp,.inl ⟨_,_,rfl,run_takeDeferred hK, ?_⟩⟩;refine⟨_,results_none rfl _ _ _,⟨_,rfl⟩,Or.inr ⟨pre,P T, ?_⟩⟩;have h1:=QN (T:=T) (T':=T) (dO W' D (.deferred none) xJ) (λk hk=>⟨Or.inl hk,by rw[cu];exact(hT k hk).2⟩) hsz;exact hJx _ _ _ _ _ hJ1 h1.1 h1.2
end Go.Proofs.YtfmmllpjgkgeaaaGreatDoor
namespace Go.Proofs.YtfmmllpjgkgeaaaGreatDoor
open Go.Proofs.Tryz Go.RowKit Go.Maps Go.WideMaps Go.Shelf
attribute [local go_sem] Oper.semAt_some
theorem zq(w:World)(p:ByteArray)(gf:Nat)(lb:Array Value):Calls prog 159 #[.string p,.func (.func gf) #[] lb] w λe w'=>e=.returned (.func (.func 218) #[] #[.pointer (some ⟨w.heap.size+1,0,none⟩),.pointer (some ⟨w.heap.size,0,none⟩)])/\w'=(w.alloc (.cells #[.string p] 83)).alloc (.cells #[.func (.func gf) #[] lb] 145):=by go_enter func159,ntmps159;go_wp2;go_ret;exact⟨rfl,rfl⟩
def rW(p:ByteArray)(xs:List gX):List gX:=xs.filter (λx=>x.p.toList==p.toList)
def QO(S:List gX->Prop)(p:ByteArray)(ys:List gX):Prop:=∃xs,S xs/\ys=rW p xs
theorem JR(w0:World)(fb pb:Nat)(p:ByteArray)(gf:Nat)(lb:Array Value)(S:List gX->Prop)(E:Nat->Prop)(hit:Iter prog gf lb (λx:gX=>#[Value.agg #[.string x.p,.int .u8 x.a,.string x.v,.int .i64 x.m]]) S E w0)(eg:∀args w,(callFunc gf args).run prog w=.ok (.enter gf args) w)(hEl:∀k,E k->k<w0.heap.size)(hf:aA w0 fb #[.func (.func gf) #[] lb] 145)(hp:aA w0 pb #[.string p] 83):Iter prog 218 #[.pointer (some ⟨fb,0,none⟩),.pointer (some ⟨pb,0,none⟩)] (λx:gX=>#[Value.agg #[.string x.p,.int .u8 x.a,.string x.v,.int .i64 x.m]]) (QO S p) (λk=>k=fb\/k=pb\/E k) w0:=by
 intro l J Jx W hE hJ hJx hY h0;have hfW:aA W fb #[.func (.func gf) #[] lb] 145:=(hE.2 fb (Or.inl rfl)).trans hf;have hpW:aA W pb #[.string p] 83:=(hE.2 pb (Or.inr (Or.inl rfl))).trans hp;have hfl:=hfW.lt;have hpl:=hpW.lt;have hs0:w0.heap.size<=W.heap.size:=hE.1;have hE0:bI E w0 W:=hE.mono (λk hk=>Or.inr (Or.inr hk));have cA:∀o,(W.alloc o).cell? ⟨fb,0,none⟩=some (.func (.func gf) #[] lb):=λo=>((hfW.alloc o).cell 0).trans rfl;clear hf hp;refine callsIn_of_wp_marks func218 rfl trivial ?_ rfl;simp only[ntmps218,List.size_toArray,List.length_cons,List.length_nil,Nat.reduceAdd,Nat.reduceSub,Array.replicate_succ,Array.replicate_zero,List.push_toArray,List.append_toArray,List.nil_append,List.cons_append];gi_wp2_with fail;have hb2:Below W.heap.size W (W.alloc (.cells #[.func (.yield l) #[] #[]] 89)):=(Below.refl _ W).alloc (Nat.le_refl _) _;have ky:aA (W.alloc (.cells #[.func (.yield l) #[] #[]] 89)) W.heap.size #[.func (.yield l) #[] #[]] 89:=aA.new W _ _;have kp2:=hpW.below hb2;generalize (W.alloc (.cells #[.func (.yield l) #[] #[]] 89))=w3 at *;have hs3:W.heap.size<w3.heap.size:=ky.lt;obtain⟨P,hP⟩:∃P:(Nat->Prop)->Nat->Prop,P=λT k=>T k\/k=W.heap.size:=⟨_,rfl⟩;have QN:∀{T T':Nat->Prop}{A B:World},ay T A B->(∀k,T' k->(T k\/A.heap.size<=k)/\k<B.heap.size)->W.heap.size+1<=A.heap.size->ay (P T) A B/\∀k,P T' k->(P T k\/A.heap.size<=k)/\k<B.heap.size:=by
  intro T T' A B hc hT hs;refine⟨hc.mono (λk _ hk=>by rw[hP];exact Or.inl hk),λk hk=>?_⟩;rw[hP]at hk⊢;have:=hc.size;rcases hk with hk|hk
  ·exact⟨(hT k hk).1.imp Or.inl id,(hT k hk).2⟩
  ·exact⟨Or.inl (Or.inr hk),by omega⟩
 refine gy (E:=λk=>k=pb\/E k) (w0:=w3) (S:=S) (encs:=λx:gX=>#[Value.agg #[.string x.p,.int .u8 x.a,.string x.v,.int .i64 x.m]]) (gf:=gf) (lb:=lb) rfl eg ?it (bI.refl _ _) (λk hk=>by rcases hk with rfl|hk;omega;have:=hEl k hk;omega) (λ_=>rfl)
  (λT pre W'=>J (P T) (rW p pre) W'/\aA W' W.heap.size #[.func (.yield l) #[] #[]] 89/\¬T W.heap.size/\W.heap.size+1<=W'.heap.size) (λc T pre W'=>c=.ret/\Jx (P T) (rW p pre) W'/\W.heap.size+1<=W'.heap.size)
  (λT T' pre A B h hc hT=>by have h1:=QN hc hT h.2.2.2;exact⟨hJ _ _ _ _ _ h.1 h1.1 h1.2,h.2.1.aJ hc h.2.2.1,λhk=>by rcases(hT _ hk).1 with h2|h2;exact h.2.2.1 h2;have:=h.2.2.2;omega,Nat.le_trans h.2.2.2 hc.size⟩)
  (λc T T' pre A B h hc hT=>by have h1:=QN hc hT h.2.2;exact⟨h.1,hJx _ _ _ _ _ h.2.1 h1.1 h1.2,Nat.le_trans h.2.2 hc.size⟩)
  ⟨hJ _ _ _ _ _ h0 (ay.of_below hb2) (λk hk=>by rw[hP]at hk;rcases hk with hk|hk;exact hk.elim;exact⟨Or.inr (by omega),by omega⟩),ky,λh=>h,by omega⟩ ?round ?done ?stop
 case it =>
  intro l2 J2 Jx2 W2 hk2 g1 g2 g3 g4;refine hit l2 J2 Jx2 W2 ((hE0.trans ⟨hb2.size,λk hk=>hb2.block k (by have:=hEl k hk;omega)⟩).trans (hk2.mono (λk hk=>Or.inr hk))) g1 g2 (λT pre x W1 h1 h2=>?_) g4;refine YieldAt.mono (g3 T pre x W1 h1 h2) ?_;rintro e W' (⟨rfl,h3,h4⟩|⟨rfl,h3,h4⟩)
  ·exact Or.inl ⟨rfl,h3,h4.mono (λk hk=>hk.imp Or.inr id)⟩
  ·exact Or.inr ⟨rfl,h3,h4.mono (λk hk=>hk.imp Or.inr id)⟩
 case round =>
  rintro l' T pre x W1 hTl hT⟨hJ1,hky,EC,hsz⟩ Fv ⟨ys,hys,hpre⟩;have ah5:aA W1 pb #[.string p] 83:=(Fv.2 pb (Or.inl rfl)).trans kp2;obtain⟨xn,xp,xa,xv,xm⟩:=x;gi_wp2;refine⟨⟨by simp,λk hk=>?_⟩, ?_⟩
  ·refine((Below.refl W1.heap.size W1).alloc (Nat.le_refl _) _).block k (hk.elim (λh=>?_) (λh=>(hT k h).2));rcases h with rfl|h
   ·omega
   ·have:=hEl k h;omega
  intro W2 hc2 hs2 hE2;have hTs:∀k,T k->k<W2.heap.size:=λk hk=>by rw[hs2];have:=(hT k hk).2;simp;omega
  have hch:ay T W1 W2:=(ay.of_below ((Below.refl W1.heap.size W1).alloc (Nat.le_refl _) _)).trans hc2;have h1:=QN hch (λk hk=>⟨Or.inl hk,hTs k hk⟩) hsz;have hJ2:J (P T) (rW p pre) W2:=hJ _ _ _ _ _ hJ1 h1.1 h1.2;have JQ:=hky.aJ hch EC;have ZU:aA W2 pb #[.string p] 83:=(hE2.2 pb (Or.inl rfl)).trans kp2;have ke:aA W2 W1.heap.size #[.string xp,.int .u8 xa,.string xv,.int .i64 xm] 86:=(aA.new W1 _ _).aJ hc2 (λhk=>by have:=(hT _ hk).2;omega);have y0:=(JQ.cell 0).trans rfl;have p0:=(ZU.cell 0).trans rfl;have b0:=(ke.cell 0).trans rfl;have b1:=(ke.cell 1).trans rfl;have b2:=(ke.cell 2).trans rfl;have b3:=(ke.cell 3).trans rfl;have MO:Hid (aA W2 W.heap.size #[.func (.yield l) #[] #[]] 89):=JQ;have hsz2:W.heap.size+1<=W2.heap.size:=Nat.le_trans hsz hch.size;have HJ2:Hid (J (P T) (rW p pre) W2):=hJ2;have HT2:Hid (bI (λk=>(k=pb\/E k)\/T k) W2 W2):=bI.refl _ _;have hall:rW p (pre++[⟨xn,xp,xa,xv,xm⟩])=rW p pre++(if xp.toList==p.toList then [⟨xn,xp,xa,xv,xm⟩]else []):=by unfold rW;rw[List.filter_append];congr 1;simp only[List.filter_cons,List.filter_nil]
  clear hky JQ ke hch hc2 hs2 hE2 Fv hJ1 hJ2 h1 ah5 ZU;cases hxp:(xp.toList==p.toList) with
  | false =>rw[hxp]at hall;simp only[Bool.false_eq_true,if_false,List.append_nil]at hall;gi_wp2;refine⟨λ_ h=>(by cases h), ?_⟩;gi_wp2;refine⟨⟨by rw[hall];exact HJ2.out,MO.out,EC,hsz2⟩,HT2.out⟩
  | true =>
   rw[hxp]at hall;simp only[if_true]at hall;obtain⟨fn,tmps,assign,body,hy,MK⟩:=hY (P T) (rW p pre) ⟨xn,xp,xa,xv,xm⟩ W2 HJ2.out ⟨rW p ys,⟨ys,hys,rfl⟩,by rw[<- hall];exact hpre.filter _⟩;try dsimp only at hy
   gi_wp2;refine RoundIn.mono (oH (eX MK)) ?_;rintro e W3 (⟨rfl,hJ3,hk3⟩|⟨rfl,hJx3,hk3⟩)
   ·have HF:Hid (J (P T) (rW p pre++[⟨xn,xp,xa,xv,xm⟩]) W3/\bI (λk=>(k=fb\/k=pb\/E k)\/P T k) W2 W3):=⟨hJ3,hk3⟩;clear hJ3 hk3 y0 b0 b1 b2 b3 hy MK;gi_wp2;refine⟨⟨by rw[hall];exact HF.out.1,(HF.out.2.2 _ (Or.inr (by rw[hP];exact Or.inr rfl))).trans MO.out,EC,Nat.le_trans hsz2 HF.out.2.1⟩,HF.out.2.mono (λk hk=>?_)⟩;rcases hk with(rfl|hk)|hk
    ·exact Or.inl (Or.inr (Or.inl rfl))
    ·exact Or.inl (Or.inr (Or.inr hk))
    ·exact Or.inr (by rw[hP];exact Or.inl hk)
   ·have HF:Hid (Jx (P T) (rW p pre++[⟨xn,xp,xa,xv,xm⟩]) W3/\bI (λk=>(k=fb\/k=pb\/E k)\/P T k) W2 W3):=⟨hJx3,hk3⟩;clear hJx3 hk3 y0 b0 b1 b2 b3 hy MK;gi_wp2;refine⟨⟨rfl,by rw[hall];exact HF.out.1,Nat.le_trans hsz2 HF.out.2.1⟩,HF.out.2.mono (λk hk=>?_)⟩;rcases hk with(rfl|hk)|hk
    ·exact Or.inl (Or.inr (Or.inl rfl))
    ·exact Or.inl (Or.inr (Or.inr hk))
    ·exact Or.inr (by rw[hP];exact Or.inl hk)
 case done =>rintro D T xs W' hD xJ hS'⟨hJ1,hky,EC,hsz⟩ hT hK;gi_wp2;refine⟨by simp,.inl ⟨_,_,rfl,run_takeDeferred hK, ?_⟩⟩;refine⟨_,results_none rfl _ _ _,⟨_,rfl⟩,Or.inl ⟨rW p xs,⟨xs,hS',rfl⟩,P T, ?_⟩⟩;have h1:=QN (T:=T) (T':=T) (dO W' D (.deferred none) xJ) (λk hk=>⟨Or.inl hk,by rw[cu];exact(hT k hk).2⟩) hsz;exact hJ _ _ _ _ _ hJ1 h1.1 h1.2
 case stop =>rintro D T c pre W' hD xJ⟨rfl,hJ1,hsz⟩ hT hK;gi_wp2;refine⟨by simp,.inl ⟨_,_,rfl,run_takeDeferred hK, ?_⟩⟩;refine⟨_,results_none rfl _ _ _,⟨_,rfl⟩,Or.inr ⟨rW p pre,P T, ?_⟩⟩;have h1:=QN (T:=T) (T':=T) (dO W' D (.deferred none) xJ) (λk hk=>⟨Or.inl hk,by rw[cu];exact(hT k hk).2⟩) hsz;exact hJx _ _ _ _ _ hJ1 h1.1 h1.2
end Go.Proofs.YtfmmllpjgkgeaaaGreatDoor
namespace Go.Proofs.YtfmmllpjgkgeaaaGreatDoor
open Go.Proofs.Tryz Go.RowKit Go.Maps Go.WideMaps Go.Shelf
attribute [local go_sem] Oper.semAt_some
theorem Tryz.infoStr:(prog.info? 9).map (λi=>(i.zero,i.size,i.bytes))=some (some (.string ⟨#[]⟩),1,16):=by kernel_rfl
def jY(l:List ByteArray):List Value:=l.map Value.string
theorem zu(l:List ByteArray)(s:ByteArray):jY (l++[s])=jY l++[.string s]:=by simp[jY]
theorem D6(w:World)(gf:Nat)(lb:Array Value)(S:List gX->Prop)(E:Nat->Prop)(hit:Iter prog gf lb (λx:gX=>#[Value.agg #[.string x.p,.int .u8 x.a,.string x.v,.int .i64 x.m]]) S E w)(eg:∀args w,(callFunc gf args).run prog w=.ok (.enter gf args) w)(hE:∀k,E k->k<w.heap.size)(hS:∀xs,S xs->xs.length<=1000):Calls prog 161 #[.func (.func gf) #[] lb] w λe w'=>∃v xs,e=.returned v/\S xs/\w'.ownsRow w.heap.size 9 1 v xs.length (jY (xs.map gX.v))/\Below w.heap.size w w':=by
 obtain⟨i0,hi,hz0,hz1,hz2⟩:=info_parts Tryz.infoStr;refine(callsIn_wide (n:=3)).1 ?_;refine callsIn_of_wp_marks func161 rfl trivial ?_ rfl;simp only[ntmps161,List.size_toArray,List.length_cons,List.length_nil,Nat.reduceAdd,Nat.reduceSub,Array.replicate_succ,Array.replicate_zero,List.push_toArray,List.append_toArray,List.nil_append,List.cons_append];gi_wp2;have hbw:Below w.heap.size w (w.alloc (.cells #[.slice none 0 0] 141)):=(Below.refl _ w).alloc (Nat.le_refl _) _;refine gy (gf:=gf) (lb:=lb) rfl eg hit ⟨hbw.size,λk hk=>hbw.block k (hE k hk)⟩ (λk hk=>Nat.lt_of_lt_of_le (hE k hk) hbw.size) (λ_=>rfl)
  (λT pre W=>Coll w w.heap.size 141 9 1 (jY (pre.map gX.v)) pre.length T W) (λ_ _ _ _=>False)
  (λT T' pre W W' h hc hT=>h.lH hc hT) (λ_ _ _ _ _ _ h _ _=>h)
  ⟨_,Boxed.new w _ _,World.ownsRow_nil _ _ _ _,λh=>h,λ_ _ h=>h,hbw,λ_ h=>h.elim,Nat.le_refl _⟩ ?round ?done ?stop
 case round =>
  rintro l T pre x W hTl hT⟨v,hC⟩ Fv ⟨ys,hys,hpre⟩;have hlen:pre.length+1<=1000:=by have:=hS ys hys;have:=hpre.length_le;simp at this;omega
  obtain⟨xn,xp,xa,xv,xm⟩:=x;gi_wp2;refine⟨⟨by simp,λk hk=>?_⟩, ?_⟩
  ·exact((Below.refl _ W).alloc (Nat.le_refl _) _).block k (hk.elim (λh=>Nat.lt_of_lt_of_le (hE k h) hC.below.size) (λh=>(hT k h).2))
  intro W2 hc2 hs2 hE2;have hTs:∀k,T k->k<W2.heap.size:=λk hk=>by rw[hs2];have:=(hT k hk).2;simp;omega
  have hC2:iM w w.heap.size 141 9 1 (jY (pre.map gX.v)) pre.length T W2 v:=hC.lH ((ay.of_below ((Below.refl _ W).alloc (Nat.le_refl _) _)).trans hc2) (λk hk=>⟨Or.inl hk,hTs k hk⟩);have kd:aA W2 W.heap.size #[.string xp,.int .u8 xa,.string xv,.int .i64 xm] 86:=(aA.new W _ _).aJ hc2 (λhk=>by have:=(hT _ hk).2;omega);have c0:=hC2.bx.cell;have d2:=(kd.cell 2).trans rfl;have HC2:Hid (iM w w.heap.size 141 9 1 (jY (pre.map gX.v)) pre.length T W2 v):=hC2;have hb2:w.heap.size<=W2.heap.size:=hC2.below.size;have hml:Hid (pre.length+1<=maxLen):=by unfold Hid maxLen;omega
  have hmb:Hid ((pre.length+1)*16<=140737488355328):=by unfold Hid;omega
  have Jh:Hid (∀j u,([.string xv]:List Value)[j]?=some u->(W2.alloc (.cells #[.string xv] 9)).cell? ((⟨W2.heap.size,0,none⟩:Addr).add j)=some u):=cell_one_new W2 _ _;clear hC hC2 kd hc2 hE2 hs2;gi_wp2_with (first|(gi_at_builtin;refine wpListIn_append_own_at _ rfl (.tmp 7) (.tmp 10) 141 rfl w.heap.size 9 i0 (.string ⟨#[]⟩) 1 16 underlying141 hi hz0 hz1 hz2 rfl (by decide) v pre.length _ rfl (HC2.out.row.alloc _) ⟨W2.heap.size,0,none⟩ 1 1 [.string xv] rfl rfl Jh.out (by simp[Value.oneCell']) hml.out hmb.out (by simp;omega) ?_;intro v' w1 hown' hg' _ hloc;have happ:=HC2.out.app (E:=E) (by decide) hown' hg' hloc hTs hE;obtain⟨g',cap',rfl⟩:=ownsRow_succ hown';have hc1:=happ.1.cell;have hf1:=happ.1.frozen));refine⟨?_,happ.2.2⟩;have h2:=happ.2.1;rw[<- zu]at h2;exact⟨_,by rw[List.length_append,List.map_append];exact h2⟩
 case done =>
  rintro D T xs W hD xJ hS'⟨v,hC⟩ hT hK;have c0:=hC.bx.cell;have HC:Hid (iM w w.heap.size 141 9 1 (jY (xs.map gX.v)) xs.length T W v):=hC;clear hC;gi_wp2;refine⟨by simp,.inl ⟨_,_,rfl,run_takeDeferred hK, ?_⟩⟩;refine⟨_,results_tmp rfl _ _ _,v,xs,rfl,hS', ?_, ?_⟩
  ·exact ownsRow_putObj HC.out.row _ hK rfl
  ·exact(HC.out.lH (T':=T) (dO W D (.deferred none) xJ) (λk hk=>⟨Or.inl hk,by rw[cu];exact(hT k hk).2⟩)).below
 case stop =>rintro D T c pre W _ _ h;exact h.elim
theorem QS(w:World)(gf:Nat)(lb:Array Value)(S:List gX->Prop)(E:Nat->Prop)(hit:Iter prog gf lb (λx:gX=>#[Value.agg #[.string x.p,.int .u8 x.a,.string x.v,.int .i64 x.m]]) S E w)(eg:∀args w,(callFunc gf args).run prog w=.ok (.enter gf args) w)(hE:∀k,E k->k<w.heap.size):Calls prog 158 #[.func (.func gf) #[] lb] w λe w'=>∃xs b,e=.returned (.string (if b=true then⟨#[49]⟩ else⟨#[48]⟩))/\S xs/\(b=true↔xs≠[])/\Below w.heap.size w w':=by
 refine(callsIn_wide (n:=3)).1 ?_;refine callsIn_of_wp_marks func158 rfl trivial ?_ rfl;simp only[ntmps158,List.size_toArray,List.length_cons,List.length_nil,Nat.reduceAdd,Nat.reduceSub,Array.replicate_succ,Array.replicate_zero,List.push_toArray,List.append_toArray,List.nil_append,List.cons_append];gi_wp2;have hbw:Below w.heap.size w (w.alloc (.cells #[.string ⟨#[]⟩] 9)):=(Below.refl _ w).alloc (Nat.le_refl _) _;obtain⟨I,hI⟩:∃I:ByteArray->(Nat->Prop)->World->Prop,I=λs T W=>aA W w.heap.size #[.string s] 9/\¬T w.heap.size/\Below w.heap.size w W/\∀k,T k->w.heap.size<=k:=⟨_,rfl⟩;have hst:∀s{T T':Nat->Prop}{W W':World},I s T W->ay T W W'->(∀k,T' k->(T k\/W.heap.size<=k)/\k<W'.heap.size)->I s T' W':=by
  intro s T T' W W' h hc hT;rw[hI]at h⊢;obtain⟨h1,h2,h3,h4⟩:=h;refine⟨h1.aJ hc h2,λhk=>?_, ?_,λk hk=>?_⟩
  ·rcases(hT _ hk).1 with h5|h5
   ·exact h2 h5
   ·have:=h1.lt;omega
  ·exact h3.trans ⟨hc.os,hc.tape,hc.output,hc.size,λk hk=>hc.block k (Nat.lt_of_lt_of_le hk h3.size) (λht=>by have:=h4 k ht;omega)⟩
  ·rcases(hT k hk).1 with h5|h5
   ·exact h4 k h5
   ·exact Nat.le_trans h3.size h5
 refine gy (gf:=gf) (lb:=lb) rfl eg hit ⟨hbw.size,λk hk=>hbw.block k (hE k hk)⟩ (λk hk=>Nat.lt_of_lt_of_le (hE k hk) hbw.size) (λ_=>rfl)
  (λT pre W=>I ⟨#[]⟩ T W/\pre=[]) (λc T pre W=>c=.ret/\I ⟨#[49]⟩ T W/\∃ys,S ys/\ys≠[])
  (λT T' pre W W' h hc hT=>⟨hst _ h.1 hc hT,h.2⟩) (λc T T' pre W W' h hc hT=>⟨h.1,hst _ h.2.1 hc hT,h.2.2⟩)
  ⟨by rw[hI];exact⟨aA.new w _ _,λh=>h,hbw,λ_ h=>h.elim⟩,rfl⟩ ?round ?done ?stop
 case round =>
  rintro l T pre x W hTl hT⟨NQ,rfl⟩ Fv ⟨ys,hys,hpre⟩;gi_wp2;refine⟨bI.refl _ _, ?_⟩;intro W2 hc2 hs2 hE2;have h2:=hst _ (T':=T) NQ hc2 (λk hk=>⟨Or.inl hk,by rw[hs2];exact(hT k hk).2⟩);rw[hI]at h2;have c0:=(h2.1.cell 0).trans rfl;have f0:=h2.1.frozen;gi_wp2;refine⟨⟨rfl, ?_,ys,hys,λe=>by rw[e]at hpre;simp at hpre⟩, ?_⟩
  ·rw[hI];refine⟨?_,h2.2.1,h2.2.2.1.setCell (p:=⟨w.heap.size,0,none⟩) (Nat.le_refl _) _,h2.2.2.2⟩;have:=h2.1;unfold aA at this⊢;simp[World.setCell,Array.getElem?_modify,this]
  ·refine⟨by simp[World.setCell],λk hk=>Below.heap_setCell W2 ⟨w.heap.size,0,none⟩ _ k (λe=>?_)⟩;subst e;rcases hk with hk|hk
   ·have:=hE _ hk;simp at this
   ·exact h2.2.1 hk
 case done =>
  rintro D T xs W hD xJ hS'⟨NQ,rfl⟩ hT hK;have h2:=NQ;rw[hI]at h2;have c0:=(h2.1.cell 0).trans rfl;have f0:=h2.1.frozen;have Uu:D≠w.heap.size:=λe=>h2.2.1 (e▸xJ);gi_wp2;refine⟨by simp,.inl ⟨_,_,rfl,run_takeDeferred (b:=D) (ds:=[]) ?_, ?_⟩⟩
  ·exact(Below.heap_setCell W ⟨w.heap.size,0,none⟩ _ D Uu).trans hK
  ·have hk1:aA ((W.setCell ⟨w.heap.size,0,none⟩ (.string ⟨#[48]⟩)).putObj D (.deferred none)) w.heap.size #[.string ⟨#[48]⟩] 9:=by refine(World.putObj_heap_other (λe=>Uu e.symm)).trans ?_;have:=h2.1;unfold aA at this;simp[World.setCell,Array.getElem?_modify,this]
   have hc1:=(hk1.cell 0).trans rfl;have hb1:Below w.heap.size w (W.setCell ⟨w.heap.size,0,none⟩ (.string ⟨#[48]⟩)):=h2.2.2.1.setCell (p:=⟨w.heap.size,0,none⟩) (Nat.le_refl _) _;refine⟨.string ⟨#[48]⟩,by simp[results,Tryz.results158,go_sem,hc1],[],false,by simp,hS',by simp, ?_⟩;exact hb1.trans ⟨rfl,rfl,rfl,by simp[World.putObj],λk hk=>World.putObj_heap_other (λe=>by have:=h2.2.2.2 D xJ;omega)⟩
 case stop =>rintro D T c pre W hD xJ⟨rfl,NQ,ys,hys,hne⟩ hT hK;have h2:=NQ;rw[hI]at h2;have Uu:D≠w.heap.size:=λe=>h2.2.1 (e▸xJ);gi_wp2;refine⟨by simp,.inl ⟨_,_,rfl,run_takeDeferred hK, ?_⟩⟩;have hk1:aA (W.putObj D (.deferred none)) w.heap.size #[.string ⟨#[49]⟩] 9:=(World.putObj_heap_other (λe=>Uu e.symm)).trans h2.1;have hc1:=(hk1.cell 0).trans rfl;refine⟨.string ⟨#[49]⟩,by simp[results,Tryz.results158,go_sem,hc1],ys,true,by simp,hys,by simpa using hne, ?_⟩;exact h2.2.2.1.trans ⟨rfl,rfl,rfl,by simp[World.putObj],λk hk=>World.putObj_heap_other (λe=>by have:=h2.2.2.2 D xJ;omega)⟩
end Go.Proofs.YtfmmllpjgkgeaaaGreatDoor
namespace Go.Proofs.YtfmmllpjgkgeaaaGreatDoor
open Go.Proofs.Tryz Go.RowKit Go.Maps Go.WideMaps Go.Shelf Go.Sort
attribute [local go_sem] Oper.semAt_some
def sumOf(xs:List gX):Int:=(xs.map gX.m).sum
theorem zx(xs:List gX)(x:gX):sumOf (xs++[x])=sumOf xs+x.m:=by simp[sumOf]
theorem Gm:∀xs:List gX,(∀x∈xs,-1000000000<=x.m/\x.m<=1000000000)->-(1000000000*(xs.length:Int))<=sumOf xs/\sumOf xs<=1000000000*(xs.length:Int):=by
 intro xs;induction xs with
 | nil=>intro _;simp[sumOf]
 | cons x r ih =>
  intro h;have h1:=ih (λy hy=>h y (by simp[hy]));have h2:=h x (by simp);have e:sumOf (x::r)=x.m+sumOf r:=by simp[sumOf]
  rw[e];simp only[List.length_cons];omega
theorem QT{w w':World}(h:∃k os,w'=grow (w.drewN k) os):Below w.heap.size w w':=by obtain⟨k,os,rfl⟩:=h;exact⟨rfl,rfl,rfl,by simp[World.drewN],λj hj=>heap_grow_old _ _ hj⟩
theorem QU(w:World)(hG:Glob w)(gf:Nat)(lb:Array Value)(S:List gX->Prop)(E:Nat->Prop)(hit:Iter prog gf lb (λx:gX=>#[Value.agg #[.string x.p,.int .u8 x.a,.string x.v,.int .i64 x.m]]) S E w)(eg:∀args w,(callFunc gf args).run prog w=.ok (.enter gf args) w)(hE:∀k,E k->k<w.heap.size)(hS:∀xs,S xs->xs.length<=1000/\∀x∈xs,-1000000000<=x.m/\x.m<=1000000000):Calls prog 160 #[.func (.func gf) #[] lb] w λe w'=>∃xs,e=.returned (.string ⟨(Lib.itoa (sumOf xs)).toArray⟩)/\S xs/\Below w.heap.size w w':=by
 have hbd:∀ys pre,S ys->pre <+: ys->-1000000000000<=sumOf pre/\sumOf pre<=1000000000000:=λys pre hy hp=>by have h1:=hS ys hy;have h2:=Gm pre (λx hx=>h1.2 x (hp.subset hx));have h3:=hp.length_le;omega
 refine(callsIn_wide (n:=3)).1 ?_;refine callsIn_of_wp_marks func160 rfl trivial ?_ rfl;simp only[ntmps160,List.size_toArray,List.length_cons,List.length_nil,Nat.reduceAdd,Nat.reduceSub,Array.replicate_succ,Array.replicate_zero,List.push_toArray,List.append_toArray,List.nil_append,List.cons_append];gi_wp2;have hbw:Below w.heap.size w (w.alloc (.cells #[.int .i64 0] 2)):=(Below.refl _ w).alloc (Nat.le_refl _) _;obtain⟨I,hI⟩:∃I:Int->(Nat->Prop)->World->Prop,I=λs T W=>aA W w.heap.size #[.int .i64 s] 2/\¬T w.heap.size/\Below w.heap.size w W/\∀k,T k->w.heap.size<=k:=⟨_,rfl⟩;have hst:∀s{T T':Nat->Prop}{W W':World},I s T W->ay T W W'->(∀k,T' k->(T k\/W.heap.size<=k)/\k<W'.heap.size)->I s T' W':=by
  intro s T T' W W' h hc hT;rw[hI]at h⊢;obtain⟨h1,h2,h3,h4⟩:=h;refine⟨h1.aJ hc h2,λhk=>?_, ?_,λk hk=>?_⟩
  ·rcases(hT _ hk).1 with h5|h5
   ·exact h2 h5
   ·have:=h1.lt;omega
  ·exact h3.trans ⟨hc.os,hc.tape,hc.output,hc.size,λk hk=>hc.block k (Nat.lt_of_lt_of_le hk h3.size) (λht=>by have:=h4 k ht;omega)⟩
  ·rcases(hT k hk).1 with h5|h5
   ·exact h4 k h5
   ·exact Nat.le_trans h3.size h5
 refine gy (gf:=gf) (lb:=lb) rfl eg hit ⟨hbw.size,λk hk=>hbw.block k (hE k hk)⟩ (λk hk=>Nat.lt_of_lt_of_le (hE k hk) hbw.size) (λ_=>rfl)
  (λT pre W=>I (sumOf pre) T W) (λc T pre W=>False)
  (λT T' pre W W' h hc hT=>hst _ h hc hT) (λc T T' pre W W' h hc hT=>h)
  (by rw[hI];exact⟨aA.new w _ _,λh=>h,hbw,λ_ h=>h.elim⟩) ?round ?done ?stop
 case round =>
  rintro l T pre x W hTl hT NQ Fv⟨ys,hys,hpre⟩;have hb1:=hbd ys _ hys hpre;rw[zx]at hb1;have hwW:w.heap.size<=W.heap.size:=by rw[hI]at NQ;exact NQ.2.2.1.size
  obtain⟨xn,xp,xa,xv,xm⟩:=x;gi_wp2;refine⟨⟨by simp,λk hk=>?_⟩, ?_⟩
  ·exact((Below.refl _ W).alloc (Nat.le_refl _) _).block k (hk.elim (λh=>Nat.lt_of_lt_of_le (hE k h) hwW) (λh=>(hT k h).2))
  intro W2 hc2 hs2 hE2;have hTs:∀k,T k->k<W2.heap.size:=λk hk=>by rw[hs2];have:=(hT k hk).2;simp;omega
  have h2:=hst _ (T':=T) NQ ((ay.of_below ((Below.refl _ W).alloc (Nat.le_refl _) _)).trans hc2) (λk hk=>⟨Or.inl hk,hTs k hk⟩);rw[hI]at h2;have kd:aA W2 W.heap.size #[.string xp,.int .u8 xa,.string xv,.int .i64 xm] 86:=(aA.new W _ _).aJ hc2 (λhk=>by have:=(hT _ hk).2;omega);have c0:=(h2.1.cell 0).trans rfl;have f0:=h2.1.frozen;have d3:=(kd.cell 3).trans rfl;have hwr:IntKind.i64.wrap (sumOf pre+xm)=sumOf pre+xm:=wrap_in _ (by first|omega|(simp only at hb1;omega)) (by first|omega|(simp only at hb1;omega));have H2:Hid (aA W2 w.heap.size #[.int .i64 (sumOf pre)] 2/\¬T w.heap.size/\Below w.heap.size w W2/\∀k,T k->w.heap.size<=k):=h2;have hsn:=zx pre ⟨xn,xp,xa,xv,xm⟩;try simp only at hsn
  try simp only at hb1
  generalize sumOf pre=sp at *;clear h2 kd hc2 hs2 hE2 NQ Fv;gi_wp2;refine⟨?_, ?_⟩
  ·refine(show _/\_/\_/\_ from⟨?_,H2.out.2.1,H2.out.2.2.1.setCell (p:=⟨w.heap.size,0,none⟩) (Nat.le_refl _) _,H2.out.2.2.2⟩);rw[hsn];have:=H2.out.1;unfold aA at this⊢;simp[World.setCell,Array.getElem?_modify,this,hwr]
  ·refine⟨by simp[World.setCell],λk hk=>Below.heap_setCell W2 ⟨w.heap.size,0,none⟩ _ k (λe=>?_)⟩;subst e;rcases hk with hk|hk
   ·have:=hE _ hk;simp at this
   ·exact H2.out.2.1 hk
 case done =>rintro D T xs W hD xJ hS' NQ hT hK;have h2:=NQ;rw[hI]at h2;have c0:=(h2.1.cell 0).trans rfl;have hb1:=hbd xs xs hS' (List.prefix_refl _);have Hf:Hid (_):=Tryz.strconv_FormatInt_10 (sumOf xs) (by omega) (by omega) W (hG.mono h2.2.2.1).tab;have HB:Hid (Below w.heap.size w W):=h2.2.2.1;clear h2 NQ;gi_wp2_with fail;refine⟨trivial,(callsIn_wide.2 Hf.out).mono ?_⟩;rintro e w5⟨rfl,hgr⟩;have hb5:=QT hgr;have hK5:w5.heap[D]?=some (.deferred (some [])):=(hb5.block D (Array.getElem?_eq_some_iff.1 hK).1).trans hK;clear hgr Hf c0;gi_wp2_with fail;refine⟨by simp,.inl ⟨_,_,rfl,run_takeDeferred hK5, ?_⟩⟩;refine⟨_,results_tmp rfl _ _ _,xs,rfl,hS', ?_⟩;exact(HB.out.trans (hb5.mono HB.out.size)).trans ⟨rfl,rfl,rfl,by simp[World.putObj],λk hk=>World.putObj_heap_other (λe=>by simp at hD;omega)⟩
 case stop =>rintro D T c pre W _ _ h;exact h.elim
end Go.Proofs.YtfmmllpjgkgeaaaGreatDoor
namespace Go.Proofs.YtfmmllpjgkgeaaaGreatDoor
open Go.Proofs.Tryz Go.RowKit Go.Maps Go.WideMaps Go.Shelf Go.Sort
attribute [local go_sem] Oper.semAt_some
def bW(p:ByteArray)(xs:List gX):List ByteArray:=(xs.filter (λx=>(ah p++[47]).isPrefixOf (ah x.p))).map (λx=>⟨(gV (ah p) (ah x.p)).toArray⟩)
theorem D7(p:ByteArray)(xs:List gX)(x:gX):bW p (xs++[x])=bW p xs++(if(ah p++[47]).isPrefixOf (ah x.p)=true then [⟨(gV (ah p) (ah x.p)).toArray⟩]else []):=by unfold bW;rw[List.filter_append,List.map_append];congr 1;simp only[List.filter_cons,List.filter_nil];split<;>simp
theorem wL(p:ByteArray)(xs:List gX):(bW p xs).length<=xs.length:=by unfold bW;rw[List.length_map];exact List.length_filter_le _ _
theorem NR(w:World)(m:Int)(hm:w.cell? ⟨0,0,none⟩=some (.int .i64 m))(p:ByteArray)(hps:p.size<=1048576)(gf:Nat)(lb:Array Value)(S:List gX->Prop)(E:Nat->Prop)(hit:Iter prog gf lb (λx:gX=>#[Value.agg #[.string x.p,.int .u8 x.a,.string x.v,.int .i64 x.m]]) S E w)(eg:∀args w,(callFunc gf args).run prog w=.ok (.enter gf args) w)(hE:∀k,E k->k<w.heap.size)(hS:∀xs,S xs->xs.length<=1000/\∀x∈xs,x.p.size<=1048576):Calls prog 157 #[.string p,.func (.func gf) #[] lb] w λe w'=>∃v xs,e=.returned v/\S xs/\w'.ownsRow w.heap.size 9 1 v (bW p xs).length (jY (bW p xs))/\Below w.heap.size w w':=by
 obtain⟨i0,hi,hz0,hz1,hz2⟩:=info_parts Tryz.infoStr;have h0l:0<w.heap.size:=block_lt_of_cell hm;have V3:Hid (∀wx,Below w.heap.size w wx->wx.cell? ⟨0,0,none⟩=some (.int .i64 m)):=λwx hx=>(hx.cell (p:=⟨0,0,none⟩) h0l).trans hm;clear hm;refine(callsIn_wide (n:=3)).1 ?_;refine callsIn_of_wp_marks func157 rfl trivial ?_ rfl;simp only[ntmps157,List.size_toArray,List.length_cons,List.length_nil,Nat.reduceAdd,Nat.reduceSub,Array.replicate_succ,Array.replicate_zero,List.push_toArray,List.append_toArray,List.nil_append,List.cons_append];gi_wp2;have hbw:Below w.heap.size w ((w.alloc (.cells #[.string p] 83)).alloc (.cells #[.slice none 0 0] 141)):=((Below.refl _ w).alloc (Nat.le_refl _) _).alloc (by simp) _;have kp:aA ((w.alloc (.cells #[.string p] 83)).alloc (.cells #[.slice none 0 0] 141)) w.heap.size #[.string p] 83:=(aA.new w _ _).alloc _;have kf:aA ((w.alloc (.cells #[.string p] 83)).alloc (.cells #[.slice none 0 0] 141)) (w.heap.size+1) #[.slice none 0 0] 141:=by have:=aA.new (w.alloc (.cells #[.string p] 83)) #[.slice none 0 0] 141;rwa [World.size_alloc]at this
 generalize ((w.alloc (.cells #[.string p] 83)).alloc (.cells #[.slice none 0 0] 141))=w3 at *;have hs3:w.heap.size+1<w3.heap.size:=kf.lt;refine gy (gf:=gf) (lb:=lb) rfl eg hit ⟨hbw.size,λk hk=>hbw.block k (hE k hk)⟩ (λk hk=>Nat.lt_of_lt_of_le (hE k hk) hbw.size) (λ_=>rfl)
  (λT pre W=>Coll w (w.heap.size+1) 141 9 1 (jY (bW p pre)) (bW p pre).length T W/\aA W w.heap.size #[.string p] 83/\¬T w.heap.size) (λ_ _ _ _=>False)
  (λT T' pre W W' h hc hT=>⟨h.1.lH hc hT,h.2.1.aJ hc h.2.2,λhk=>by rcases(hT _ hk).1 with h1|h1;exact h.2.2 h1;have:=h.2.1.lt;omega⟩) (λ_ _ _ _ _ _ h _ _=>h)
  ⟨⟨_,kf,World.ownsRow_nil _ _ _ _,λh=>h,λ_ _ h=>h,hbw,λ_ h=>h.elim,by omega⟩,kp,λh=>h⟩ ?round ?done ?stop
 case round =>
  rintro l T pre x W hTl hT⟨⟨v,hC⟩,hkp,EC⟩ Fv ⟨ys,hys,hpre⟩;have hxs:x.p.size<=1048576:=(hS ys hys).2 x (hpre.subset (by simp));have hln:(bW p pre).length+1<=1001:=by have:=(hS ys hys).1;have:=hpre.length_le;have:=wL p pre;simp at *;omega
  have Ez:Hid (bW p (pre++[x])=bW p pre++(if(ah p++[47]).isPrefixOf (ah x.p)=true then [⟨(gV (ah p) (ah x.p)).toArray⟩]else [])):=D7 p pre x;obtain⟨xn,xp,xa,xv,xm⟩:=x;simp only at hxs Ez;gi_wp2;refine⟨⟨by simp,λk hk=>?_⟩, ?_⟩
  ·exact((Below.refl _ W).alloc (Nat.le_refl _) _).block k (hk.elim (λh=>Nat.lt_of_lt_of_le (hE k h) hC.below.size) (λh=>(hT k h).2))
  intro W2 hc2 hs2 hE2;have hTs:∀k,T k->k<W2.heap.size:=λk hk=>by rw[hs2];have:=(hT k hk).2;simp;omega
  have hch:ay T W W2:=(ay.of_below ((Below.refl W.heap.size W).alloc (Nat.le_refl _) _)).trans hc2;have hC2:=hC.lH hch (λk hk=>⟨Or.inl hk,hTs k hk⟩);have Xf:=hkp.aJ hch EC;have ke:aA W2 W.heap.size #[.string xp,.int .u8 xa,.string xv,.int .i64 xm] 86:=(aA.new W _ _).aJ hc2 (λhk=>by have:=(hT _ hk).2;omega);have p0:=(Xf.cell 0).trans rfl;have b0:=(ke.cell 0).trans rfl;have HC2:Hid (iM w (w.heap.size+1) 141 9 1 (jY (bW p pre)) (bW p pre).length T W2 v):=hC2;have HP2:Hid (aA W2 w.heap.size #[.string p] 83):=Xf;have Ad:Hid (_):=E8 p xp m W2 hps hxs (V3.out _ hC2.below);clear hC hC2 hkp Xf ke hch hc2 hs2 hE2 Fv;gi_wp2_with fail;refine⟨trivial,CallsIn.inRound l ((callsIn_wide.2 Ad.out).mono ?_)⟩;rintro e w4⟨t,rfl,ht,_,hb4⟩;have Vm:∀k,T k->k<w4.heap.size:=λk hk=>Nat.lt_of_lt_of_le (hTs k hk) hb4.size;have uP:Hid (iM w (w.heap.size+1) 141 9 1 (jY (bW p pre)) (bW p pre).length T w4 v):=HC2.out.lH (ay.of_below hb4) (λk hk=>⟨Or.inl hk,Vm k hk⟩);have HP4:Hid (aA w4 w.heap.size #[.string p] 83):=HP2.out.below hb4;have QL:Hid (bI (λk=>E k\/T k) W2 w4):=⟨hb4.size,λk hk=>hb4.block k (hk.elim (λh=>Nat.lt_of_lt_of_le (hE k h) HC2.out.below.size) (hTs k))⟩;have c0:=uP.out.bx.cell;have hbs:w.heap.size<=w4.heap.size:=uP.out.below.size;clear hb4 Ad p0 b0 HC2 HP2;cases hpp:(ah p++[47]).isPrefixOf (ah xp) with
  | false =>rw[hpp]at Ez;gi_wp2_with fail;refine⟨⟨?_,HP4.out,EC⟩,QL.out⟩;have h1:=Ez.out;simp only[Bool.false_eq_true,if_false,List.append_nil]at h1;rw[h1];exact⟨v,uP.out⟩
  | true =>
   rw[hpp]at Ez ht;have ht2:t=⟨(gV (ah p) (ah xp)).toArray⟩:=by rw[<- ht rfl,yN]
   have hml:Hid ((bW p pre).length+1<=maxLen):=by unfold Hid maxLen;omega
   have hmb:Hid (((bW p pre).length+1)*16<=140737488355328):=by unfold Hid;omega
   have Jh:Hid (∀j u,([.string t]:List Value)[j]?=some u->(w4.alloc (.cells #[.string t] 9)).cell? ((⟨w4.heap.size,0,none⟩:Addr).add j)=some u):=cell_one_new w4 _ _;have Ht2:Hid (t=⟨(gV (ah p) (ah xp)).toArray⟩):=ht2;clear ht ht2;gi_wp2_with (first|(gi_at_builtin;refine wpListIn_append_own_at _ rfl (.tmp 19) (.tmp 21) 141 rfl w.heap.size 9 i0 (.string ⟨#[]⟩) 1 16 underlying141 hi hz0 hz1 hz2 rfl (by decide) v _ _ rfl (uP.out.row.alloc _) ⟨w4.heap.size,0,none⟩ 1 1 [.string t] rfl rfl Jh.out (by simp[Value.oneCell']) hml.out hmb.out (by simp;omega) ?_;intro v' w5 hown' hg' _ hloc;have happ:=uP.out.app (E:=E) (by decide) hown' hg' hloc Vm hE;obtain⟨g',cap',rfl⟩:=ownsRow_succ hown';have hc1:=happ.1.cell;have hf1:=happ.1.frozen;have hk5:aA w5 w.heap.size #[.string p] 83:=(hg'.block w.heap.size (by simp;have:=HP4.out.lt;omega) (λe=>ownsRow_ne uP.out.row (λcur fz e2=>by rw[show w4.heap[w.heap.size]?=_ from HP4.out]at e2;cases e2) e.symm)).trans (HP4.out.alloc _)));refine⟨⟨?_, ?_,EC⟩,QL.out.trans happ.2.2⟩
   ·have h1:=Ez.out;simp only[if_true]at h1;rw[h1,<- Ht2.out,zu,List.length_append];exact⟨_,happ.2.1⟩
   ·exact hk5.aJ (M:=λk=>k=w.heap.size+1) ((ay.refl (λk=>k=w.heap.size+1) w5).setCell (p:=⟨w.heap.size+1,0,none⟩) rfl _) (by omega)
 case done =>
  rintro D T xs W hD xJ hS'⟨⟨v,hC⟩,hkp,EC⟩ hT hK;have c0:=hC.bx.cell;have HC:Hid (iM w (w.heap.size+1) 141 9 1 (jY (bW p xs)) (bW p xs).length T W v):=hC;clear hC hkp;gi_wp2;refine⟨by simp,.inl ⟨_,_,rfl,run_takeDeferred hK, ?_⟩⟩;refine⟨_,results_tmp rfl _ _ _,v,xs,rfl,hS', ?_, ?_⟩
  ·exact ownsRow_putObj HC.out.row _ hK rfl
  ·exact(HC.out.lH (T':=T) (dO W D (.deferred none) xJ) (λk hk=>⟨Or.inl hk,by rw[cu];exact(hT k hk).2⟩)).below
 case stop =>rintro D T c pre W _ _ h;exact h.elim
end Go.Proofs.YtfmmllpjgkgeaaaGreatDoor
namespace Go.Proofs.YtfmmllpjgkgeaaaGreatDoor
open Go.Proofs.Tryz Go.RowKit Go.Maps Go.WideMaps Go.Shelf Go.Sort Go.Lib
def kJ(l:List Thk.Bs):Thk.Bs:=Lib.join (Lib.compact (l.mergeSort λx y=>decide (x<=y))) [44]
theorem AX{w:World}{base g cap:Nat}{l:List ByteArray}(h:w.ownsRow base 9 1 (.slice (some ⟨g,0,none⟩) l.length cap) l.length (jY l)):Holds encStr w g 0 (l.map ah).toArray:=by
 intro j hj;simp at hj;have hf:w.frozen? ⟨g,0+j,none⟩=false:=by
  obtain⟨_,⟨h1,_⟩|⟨g',cap',cur,hv,_,hh,_⟩⟩:=h
  ·cases h1
  ·simp only[Value.slice.injEq,Option.some.injEq,Addr.mk.injEq,true_and,and_true]at hv;obtain⟨rfl,rfl⟩:=hv;simp[World.frozen?,hh]
 refine⟨?_,hf⟩;rw[Nat.zero_add,h.cellAt j (by omega)];simp[jY,hj,encStr,ah]
theorem D8(B:Nat):∀r:List (List UInt8),(∀x∈r,x.length<=B)->(Lib.joinTail [44] r).length<=r.length*(B+1):=by
 intro r;induction r with
 | nil=>intro _;simp[Lib.joinTail]
 | cons x r ih =>
  intro h;have h1:=ih (λy hy=>h y (by simp[hy]));have h2:=h x (by simp);have e:Lib.joinTail [44] (x::r)=[44]++x++Lib.joinTail [44] r:=by simp[Lib.joinTail]
  rw[e];simp only[List.length_append,List.length_cons,List.length_nil];rw[Nat.add_mul];omega
theorem QV(B:Nat)(xs:List (List UInt8))(h:∀x∈xs,x.length<=B):(Lib.join xs [44]).length<=xs.length*(B+1):=by
 cases xs with
 | nil=>simp[Lib.join_nil]
 | cons x r =>rw[Lib.join_cons,List.length_append];have h1:=D8 B r (λy hy=>h y (by simp[hy]));have h2:=h x (by simp);simp only[List.length_cons];rw[Nat.add_mul];omega
theorem Gn{zs:List (List UInt8)}{x:List UInt8}(h:x∈Lib.compact zs):x∈zs:=by
 unfold Lib.compact Lib.compactUpTo at h;obtain⟨j,hj,rfl⟩:=List.mem_map.1 h;have hl:j<zs.length:=by have:=(List.mem_filter.1 hj).1;simpa using this
 simp[hl]
theorem lW(zs:List (List UInt8)):(Lib.compact zs).length<=zs.length:=by unfold Lib.compact Lib.compactUpTo;rw[List.length_map];exact Nat.le_trans (List.length_filter_le _ _) (by simp)
theorem zy{α:Type} [Inhabited α] (enc:α->Value) (w:World) (q blk off:Nat) (d:Array α) (os:Array Obj):ay (λb=>b=blk) w (grow (putRow enc (Sort.ahead w q) blk off d) os):=by refine⟨rfl,rfl,rfl,by simp[putRow,mapBlock,Sort.ahead],λb hb hne=>?_⟩;rw[heap_grow_old _ _ (by simp[putRow,mapBlock,Sort.ahead];exact hb)];simp only[putRow,mapBlock,Sort.ahead];rw[Array.getElem?_modify,if_neg (λe=>hne (Eq.symm e))]
theorem Gp(w:World)(base:Nat)(v:Value)(l:List ByteArray)(h:w.ownsRow base 9 1 v l.length (jY l))(hl:l.length<=1000)(hs:∀s∈l,s.size<=1000):Calls prog 156 #[v] w λe w'=>e=.returned (.string ⟨(kJ (l.map ah)).toArray⟩)/\ay (λk=>v.ownBlock=some k) w w':=by
 have h0:=h;obtain⟨hx,⟨rfl,hn⟩|⟨g,cap,cur,rfl,hg,hh,hnc,_⟩⟩:=h
 ·have hle:l=[]:=List.eq_nil_of_length_eq_zero hn;subst hle;have H1:Hid (_):=Tryz.slices_Sort_string_none none 0 w;have H2:Hid (_):=Tryz.slices_Compact_string_empty none 0 w;have H3:Hid (_):=Tryz.strings_Join_none none 0 ⟨#[44]⟩ w;have H4:Hid (_):=qN ⟨#[]⟩ w (by decide);clear h0;go_enter func156,ntmps156;go_wp2_with fail;refine Calls.mono H1.out ?_;rintro e w1⟨rfl,rfl⟩;go_wp2_with fail;refine Calls.mono H2.out ?_;rintro e w2⟨rfl,rfl⟩;go_wp2_with fail;refine Calls.mono H3.out ?_;rintro e w3⟨rfl,rfl⟩;go_wp2_with fail;refine Calls.mono H4.out ?_;rintro e w4⟨rfl,hb⟩;have he:kJ (List.map ah [])=[]:=by unfold kJ;simp[Lib.compact,Lib.compactUpTo,Lib.join_nil]
  go_wp2;go_ret;exact⟨by rw[he];rfl,ay.of_below hb⟩
 ·have hblk:g<w.heap.size:=(h0.lt g rfl).2;have hH:=AX h0;obtain⟨zs,hzs⟩:∃zs,zs=(l.map ah).mergeSort (λx y=>decide (x<=y)):=⟨_,rfl⟩;have hperm:zs.Perm (l.map ah):=by rw[hzs];exact List.mergeSort_perm _ _
  have hzl:zs.length=l.length:=by rw[hperm.length_eq];simp
  have hzb:∀x∈zs,x.length<=1000:=λx hx=>by obtain⟨s,hs1,rfl⟩:=List.mem_map.1 (hperm.mem_iff.1 hx);have:=hs s hs1;show s.data.toList.length<=1000;simpa using this
  have hlb:Lib.join (Lib.compact zs) [44]=kJ (l.map ah):=by rw[hzs];(first|done|rfl)
  have hjl:(Lib.join (Lib.compact zs) [44]).length<=1001000:=by have h1:=QV 1000 (Lib.compact zs) (λx hx=>hzb x (Gn hx));have h2:=lW zs;have h3:(Lib.compact zs).length*1001<=1000*1001:=Nat.mul_le_mul_right _ (by omega);omega
  have H1:Hid (Calls prog 214 #[.slice (some ⟨g,0,none⟩) l.length cap] w λe w'=>e=.returned (.tuple #[])/\Holds encStr w' g 0 zs.toArray/\ay (λk=>k=g) w w'):=by have:=Tryz.slices_Sort_string g 0 cap (l.map ah) w hH hblk (by simp;omega);rw[List.length_map]at this;refine Calls.mono this ?_;rintro e w'⟨rfl,n,os,rfl⟩;rw[<- hzs];refine⟨rfl,holds_grow _ _ _ _ _ _ (by simp[putRow,mapBlock,Sort.ahead];exact hblk) (holds_putRow encStr (Sort.ahead w n) g 0 (l.map ah).toArray zs.toArray hH (by simp[hzl])),zy encStr w n g 0 _ os⟩
  have H2:Hid (∀w1,Holds encStr w1 g 0 zs.toArray->g<w1.heap.size->Calls prog 216 #[.slice (some ⟨g,0,none⟩) l.length cap] w1 λe w'=>e=.returned (.slice (some ⟨g,0,none⟩) (Lib.compact zs).length cap)/\(∀(j:Nat)x,((Lib.compact zs).map (λl=>(⟨l.toArray⟩:ByteArray)))[j]?=some x->w'.cell? ⟨g,0+j,none⟩=some (.string x))/\ay (λk=>k=g) w1 w'):=λw1 hH1 hg1=>by
   have:=Tryz.slices_Compact_string g 0 cap zs w1 hH1 (by omega) (by omega);rw[hzl]at this;refine Calls.mono this ?_;rintro e w'⟨rfl,q,rfl⟩;refine⟨rfl,λj x hj=>?_, ?_⟩
   ·have Xg:j<(Lib.compact zs).length:=by
     rcases Nat.lt_or_ge j (Lib.compact zs).length with h|h
     ·exact h
     ·rw[List.getElem?_eq_none (by simpa using h)]at hj;cases hj
    have hcl:=lW zs;have hc:=cell?_putRow encStr (Sort.ahead w1 q) g 0 zs.toArray (Lib.compact zs++List.replicate (l.length-(Lib.compact zs).length) []).toArray hH1 (by simp;omega) j (by simp;omega);rw[hc];rw[List.getElem?_map,List.getElem?_eq_getElem Xg]at hj;simp at hj;subst hj;have hj3:j<(Lib.compact zs++List.replicate (l.length-(Lib.compact zs).length) ([]:List UInt8)).length:=by simp;omega
    simp only[List.getElem!_toArray,List.getElem!_eq_getElem?_getD];rw[List.getElem?_append_left Xg,List.getElem?_eq_getElem Xg];rfl
   ·have:=zy encStr w1 q g 0 (Lib.compact zs++List.replicate (l.length-(Lib.compact zs).length) []).toArray #[];rw[grow_empty]at this;exact this
  have H3:Hid (∀w2,(∀(j:Nat)x,((Lib.compact zs).map (λl=>(⟨l.toArray⟩:ByteArray)))[j]?=some x->w2.cell? ⟨g,0+j,none⟩=some (.string x))->g<w2.heap.size->Calls prog 215 #[.slice (some ⟨g,0,none⟩) (Lib.compact zs).length cap,.string ⟨#[44]⟩] w2 λe w'=>e=.returned (.string ⟨(kJ (l.map ah)).toArray⟩)/\Below w2.heap.size w2 w'):=λw2 hc hg2=>by
   have e1:((Lib.compact zs).map (λl=>(⟨l.toArray⟩:ByteArray))).map (·.data.toList)=Lib.compact zs:=by rw[List.map_map];exact(List.map_congr_left (λx _=>by simp)).trans (List.map_id _)
   have:=Tryz.strings_Join g 0 cap ((Lib.compact zs).map (λl=>(⟨l.toArray⟩:ByteArray))) ⟨#[44]⟩ w2 hc hg2 (by have:=lW zs;simp;omega) (by have:=lW zs;simp;omega) (by rw[e1];exact Nat.le_trans hjl (by omega));rw[e1,List.length_map]at this;rw[<- hlb];exact this
  have H4:Hid (∀w3,Calls prog 56 #[.string ⟨(kJ (l.map ah)).toArray⟩] w3 λe w'=>e=.returned (.string ⟨(kJ (l.map ah)).toArray⟩)/\Below w3.heap.size w3 w'):=λw3=>qN _ w3 (by rw[hlb]at hjl;show(kJ (l.map ah)).toArray.size<=_;simp;omega);generalize kJ (l.map ah)=R at *;clear h0 hH hh hlb hjl hzb hperm hzs;go_enter func156,ntmps156;go_wp2_with fail;refine Calls.mono H1.out ?_;rintro e w1⟨rfl,hh1,hc1⟩;have HH1:Hid (Holds encStr w1 g 0 zs.toArray):=hh1;have hg1:g<w1.heap.size:=Nat.lt_of_lt_of_le hblk hc1.size;clear hh1;go_wp2_with fail;refine Calls.mono (H2.out w1 HH1.out hg1) ?_;rintro e w2⟨rfl,hh2,hc2⟩;have HH2:Hid (_):=hh2;have hg2:g<w2.heap.size:=Nat.lt_of_lt_of_le hg1 hc2.size;clear hh2;go_wp2_with fail;refine Calls.mono (H3.out w2 HH2.out hg2) ?_;rintro e w3⟨rfl,hb3⟩;go_wp2_with fail;refine Calls.mono (H4.out w3) ?_;rintro e w4⟨rfl,hb4⟩;go_wp2;go_ret;exact⟨rfl,(((hc1.trans hc2).below hb3).below hb4).mono (λk _ hk=>by subst hk;rfl)⟩
end Go.Proofs.YtfmmllpjgkgeaaaGreatDoor
namespace Go.Proofs.YtfmmllpjgkgeaaaGreatDoor
open Go.Proofs.Tryz Go.RowKit Go.Maps Go.WideMaps Go.Shelf
def oJ(p:Thk.Bs)(xs:List gX):Thk.Bs :=
 if(Thk.kindOf p).toNat=109 then kJ ((bW ⟨p.toArray⟩ xs).map ah)
 else if(Thk.kindOf p).toNat=102 then(if rW ⟨p.toArray⟩ xs≠[]then [49]else [48])
 else if(Thk.kindOf p).toNat=99 then Lib.itoa (sumOf (rW ⟨p.toArray⟩ xs))
 else kJ (((rW ⟨p.toArray⟩ xs).map gX.v).map ah)
theorem Gq{α:Type}{P:Program}{gf:Nat}{lb:Array Value}{encs:α->Array Value}{S:List α->Prop}{E:Nat->Prop}{w w':World}(h:Iter P gf lb encs S E w)(hE:∀k,E k->k<w.heap.size)(hb:Below w.heap.size w w'):Iter P gf lb encs S E w':=by intro l J Jx W hk;exact h l J Jx W (bI.trans ⟨hb.size,λk hk=>hb.block k (hE k hk)⟩ hk)
structure sQ(S:List gX->Prop):Prop where
 len:∀xs,S xs->xs.length<=1000
 ok:∀xs,S xs->∀x∈xs,x.p.size<=1000/\x.v.size<=1000/\-1000000000<=x.m/\x.m<=1000000000
theorem uH(c:UInt8):∀(l cur:Thk.Bs),((Thk.bH c cur l).headD []).length<=cur.length+l.length:=by
 intro l;induction l with
 | nil=>intro cur;simp[Thk.bH]
 | cons x r ih =>
  intro cur;unfold Thk.bH;split
  ·simp
  ·have:=ih (cur++[x]);simp at this⊢;omega
theorem Gs(p l:Thk.Bs):(gV p l).length<=l.length:=by unfold gV Thk.split;have:=uH 47 (l.drop (p.length+1)) [];simp at this⊢;omega
theorem D9(p:ByteArray)(xs:List gX)(h:∀x∈xs,x.p.size<=1000):∀s∈bW p xs,s.size<=1000:=by
 intro s hs;unfold bW at hs;obtain⟨x,hx,rfl⟩:=List.mem_map.1 hs;have h1:=h x (List.mem_filter.1 hx).1;have h2:=Gs (ah p) (ah x.p);have h3:(ah x.p).length=x.p.size:=by show x.p.data.toList.length=_;simp
 show(gV (ah p) (ah x.p)).toArray.size<=1000;simp;omega
theorem Xh(w:World)(hG:Glob w)(p:ByteArray)(hps:p.size<=1048576)(hpp:Thk.path (ah p)=true)(gf:Nat)(lb:Array Value)(S:List gX->Prop)(E:Nat->Prop)(hit:Iter prog gf lb (λx:gX=>#[Value.agg #[.string x.p,.int .u8 x.a,.string x.v,.int .i64 x.m]]) S E w)(eg:∀args w,(callFunc gf args).run prog w=.ok (.enter gf args) w)(hE:∀k,E k->k<w.heap.size)(hS:sQ S):Calls prog 95 #[.string p,.func (.func gf) #[] lb] w λe w'=>∃xs,S xs/\e=.returned (.string ⟨(oJ (ah p) xs).toArray⟩)/\Below w.heap.size w w':=by
 have hpe:(⟨(ah p).toArray⟩:ByteArray)=p:=yN p;obtain⟨m,hm⟩:=hG.len
 -- the map's steps
 have zA:Hid (∀wx,Below w.heap.size w wx->Calls prog 157 #[.string p,.func (.func gf) #[] lb] wx λe w'=>∃v xs,e=.returned v/\S xs/\w'.ownsRow wx.heap.size 9 1 v (bW p xs).length (jY (bW p xs))/\Below wx.heap.size wx w'):=λwx hb=>by exact NR wx m ((hb.cell (p:=⟨0,0,none⟩) (block_lt_of_cell hm)).trans hm) p hps gf lb S E (Gq hit hE hb) eg (λk hk=>Nat.lt_of_lt_of_le (hE k hk) hb.size) (λxs hx=>⟨hS.len xs hx,λx hxx=>by have:=hS.ok xs hx x hxx;omega⟩)
 have zB:Hid (∀wx,Below w.heap.size w wx->∀wy,wy=(wx.alloc (.cells #[.string p] 83)).alloc (.cells #[.func (.func gf) #[] lb] 145)->Iter prog 218 #[.pointer (some ⟨wx.heap.size+1,0,none⟩),.pointer (some ⟨wx.heap.size,0,none⟩)] (λx:gX=>#[Value.agg #[.string x.p,.int .u8 x.a,.string x.v,.int .i64 x.m]]) (QO S p) (λk=>k=wx.heap.size+1\/k=wx.heap.size\/E k) wy/\(∀k,(k=wx.heap.size+1\/k=wx.heap.size\/E k)->k<wy.heap.size)/\Below wx.heap.size wx wy):=λwx hb wy hy=>by
  subst hy;have hb2:Below wx.heap.size wx ((wx.alloc (.cells #[.string p] 83)).alloc (.cells #[.func (.func gf) #[] lb] 145)):=((Below.refl _ wx).alloc (Nat.le_refl _) _).alloc (by simp) _;have kf:=aA.new (wx.alloc (.cells #[.string p] 83)) #[.func (.func gf) #[] lb] 145;rw[World.size_alloc]at kf;refine⟨JR _ (wx.heap.size+1) wx.heap.size p gf lb S E (Gq hit hE (hb.trans (hb2.mono hb.size))) eg (λk hk=>Nat.lt_of_lt_of_le (Nat.lt_of_lt_of_le (hE k hk) hb.size) hb2.size) kf ((aA.new wx _ _).alloc _), ?_,hb2⟩;rintro k (rfl|rfl|hk)
  ·simp
  ·simp;omega
  ·exact Nat.lt_of_lt_of_le (Nat.lt_of_lt_of_le (hE k hk) hb.size) hb2.size
 have QW:Hid (_):=E5 p w hps hpp;have ZV:Hid (sQ (QO S p)):=by
  refine⟨λxs hx=>?_,λxs hx x hxx=>?_⟩
  ·obtain⟨ys,hy,rfl⟩:=hx;exact Nat.le_trans (List.length_filter_le _ _) (hS.len ys hy)
  ·obtain⟨ys,hy,rfl⟩:=hx;exact hS.ok ys hy x (List.mem_filter.1 hxx).1
 have HS:Hid (sQ S):=hS;have HG:Hid (Glob w):=hG;have egH:∀args w,(callFunc 218 args).run prog w=.ok (.enter 218 args) w:=enters_of func218 (by kernel_rfl) rfl;have Xi:Hid (_):=egH;obtain⟨kd,hkd⟩:∃kd,kd=(Thk.kindOf (ah p)).toNat:=⟨_,rfl⟩;have HT:Hid (∀xs,oJ (ah p) xs=if kd=109 then kJ ((bW p xs).map ah)else if kd=102 then(if rW p xs≠[]then [49]else [48])else if kd=99 then Lib.itoa (sumOf (rW p xs))else kJ (((rW p xs).map gX.v).map ah)):=λxs=>by unfold oJ;rw[hpe,hkd]
 rw[<- hkd]at QW;clear hit eg hE hS hG hm hpe egH hkd;go_enter func95,ntmps95;go_wp2_with fail;refine Calls.mono QW.out ?_;rintro e w1⟨rfl,rfl⟩;clear QW;by_cases k1:kd=109
 ·subst k1;have h1:=HT.out;simp only[if_true]at h1;have H1:Hid (_):=h1;clear h1 HT;go_wp2_with fail;refine Calls.mono (zA.out _ (Below.refl _ _)) ?_;rintro e w2⟨v,xs,rfl,hx,hrow,hb2⟩;have HL:Hid (_):=Gp w2 _ v (bW p xs) hrow (Nat.le_trans (wL p xs) (HS.out.len xs hx)) (D9 p xs (λx hxx=>(HS.out.ok xs hx x hxx).1));have hvb:∀k,v.ownBlock=some k->w1.heap.size<=k:=λk hk=>(hrow.lt k hk).1;clear hrow zA zB;go_wp2_with fail;refine Calls.mono HL.out ?_;rintro e w3⟨rfl,hc3⟩;clear HL;go_wp2_with fail;go_ret;refine⟨xs,hx,by rw[H1.out xs];rfl,hb2.trans ⟨hc3.os,hc3.tape,hc3.output,hc3.size,λk hk=>hc3.block k (Nat.lt_of_lt_of_le hk hb2.size) (λe=>by have:=hvb k e;omega)⟩⟩
 ·have k1':((kd:Int)==109)=false:=beq_eq_false_iff_ne.2 (by omega);by_cases k2:kd=102
  ·subst k2;have h1:=HT.out;simp only[k1,if_false,if_true]at h1;have H1:Hid (∀xs,oJ (ah p) xs=if rW p xs≠[]then [49]else [48]):=h1;clear h1 HT;go_wp2_with fail;refine Calls.mono (zq w1 p gf lb) ?_;rintro e w2⟨rfl,hw2⟩;obtain⟨Gt,Vx,hb2⟩:=zB.out w1 (Below.refl _ _) w2 hw2;have HF:Hid (_):=QS w2 _ _ _ _ Gt Xi.out Vx;have hb2':Hid (Below w1.heap.size w1 w2):=hb2;clear Gt Vx hb2 hw2 zB zA;go_wp2_with fail;refine Calls.mono HF.out ?_;rintro e w3⟨ys,b,rfl,⟨xs,hx,rfl⟩,hb,hb3⟩;have Hb:Hid (b=true↔rW p xs≠[]):=hb;clear hb HF;cases b with
   | true =>have HN:Hid (rW p xs≠[]):=Hb.out.1 rfl;clear Hb;go_wp2_with fail;go_ret;exact⟨xs,hx,by rw[H1.out xs,if_pos HN.out];rfl,hb2'.out.trans (hb3.mono hb2'.out.size)⟩
   | false =>
    have HN:Hid (¬(rW p xs≠[])):=λh=>by have:=Hb.out.2 h;cases this
    clear Hb;go_wp2_with fail;go_ret;exact⟨xs,hx,by rw[H1.out xs,if_neg HN.out];rfl,hb2'.out.trans (hb3.mono hb2'.out.size)⟩
  ·have k2':((kd:Int)==102)=false:=beq_eq_false_iff_ne.2 (by omega);by_cases k3:kd=99
   ·subst k3;have h1:=HT.out;simp only[k1,k2,if_false,if_true]at h1;have H1:Hid (∀xs,oJ (ah p) xs=Lib.itoa (sumOf (rW p xs))):=h1;clear h1 HT;go_wp2_with fail;refine Calls.mono (zq w1 p gf lb) ?_;rintro e w2⟨rfl,hw2⟩;obtain⟨Gt,Vx,hb2⟩:=zB.out w1 (Below.refl _ _) w2 hw2;have HF:Hid (_):=QU w2 (HG.out.mono hb2) _ _ _ _ Gt Xi.out Vx (λxs hx=>⟨ZV.out.len xs hx,λx hxx=>by have:=ZV.out.ok xs hx x hxx;omega⟩);have hb2':Hid (Below w1.heap.size w1 w2):=hb2;clear Gt Vx hb2 hw2 zB zA;go_wp2_with fail;refine Calls.mono HF.out ?_;rintro e w3⟨ys,rfl,⟨xs,hx,rfl⟩,hb3⟩;clear HF;go_wp2_with fail;go_ret;exact⟨xs,hx,by rw[H1.out xs];rfl,hb2'.out.trans (hb3.mono hb2'.out.size)⟩
   ·have k3':((kd:Int)==99)=false:=beq_eq_false_iff_ne.2 (by omega);have h1:=HT.out;simp only[k1,k2,k3,if_false]at h1;have H1:Hid (∀xs,oJ (ah p) xs=kJ (((rW p xs).map gX.v).map ah)):=h1;clear h1 HT;go_wp2_with fail;refine Calls.mono (zq w1 p gf lb) ?_;rintro e w2⟨rfl,hw2⟩;obtain⟨Gt,Vx,hb2⟩:=zB.out w1 (Below.refl _ _) w2 hw2;have HF:Hid (_):=D6 w2 _ _ _ _ Gt Xi.out Vx ZV.out.len;have hb2':Hid (Below w1.heap.size w1 w2):=hb2;clear Gt Vx hb2 hw2 zB zA;go_wp2_with fail;refine Calls.mono HF.out ?_;rintro e w3⟨v,ys,rfl,hy,hrow,hb3⟩;have HL:Hid (_):=Gp w3 _ v (ys.map gX.v) (by rw[List.length_map];exact hrow) (by rw[List.length_map];exact ZV.out.len ys hy) (λs hs=>by obtain⟨x,hxx,rfl⟩:=List.mem_map.1 hs;exact(ZV.out.ok ys hy x hxx).2.1);have hvb:∀k,v.ownBlock=some k->w2.heap.size<=k:=λk hk=>(hrow.lt k hk).1;obtain⟨xs,hx,rfl⟩:=hy;have Gu:Below w1.heap.size w1 w3:=hb2'.out.trans (hb3.mono hb2'.out.size);have hs2:=hb2'.out.size;clear hrow HF hb3;go_wp2_with fail;refine Calls.mono HL.out ?_;rintro e w4⟨rfl,hc3⟩;clear HL;go_wp2_with fail;go_ret;refine⟨xs,hx,by rw[H1.out xs,List.map_map];rfl,Gu.trans ⟨hc3.os,hc3.tape,hc3.output,hc3.size,λk hk=>hc3.block k (Nat.lt_of_lt_of_le hk Gu.size) (λe=>by have:=hvb k e;omega)⟩⟩
theorem Gv(w:World)(hG:Glob w)(rb a:Nat)(io co lo:Option Nat)(K:Nat->Nat)(C:Nat->Option Thk.Ch)(hR:qC w rb a io co lo K C)(hok:sQ (jU (aO C)))(p:ByteArray)(hps:p.size<=1048576)(hpp:Thk.path (ah p)=true):Calls prog 51 #[.pointer (some ⟨rb,0,none⟩),.string p] w λe w'=>∃xs,jU (aO C) xs/\e=.returned (.string ⟨(oJ (ah p) xs).toArray⟩)/\Below w.heap.size w w':=by
 have HA:Hid (∀wx,wx=w.alloc (.cells #[.pointer (some ⟨rb,0,none⟩)] 81)->Calls prog 95 #[.string p,.func (.func 162) #[] #[.pointer (some ⟨w.heap.size,0,none⟩)]] wx λe w'=>∃xs,jU (aO C) xs/\e=.returned (.string ⟨(oJ (ah p) xs).toArray⟩)/\Below w.heap.size w w'):=λwx hx=>by
  subst hx;have hb:Below w.heap.size w (w.alloc (.cells #[.pointer (some ⟨rb,0,none⟩)] 81)):=(Below.refl _ w).alloc (Nat.le_refl _) _;have hR2:=hR.below hb;refine Calls.mono (Xh _ (hG.mono hb) p hps hpp _ _ (jU (aO C)) _ (Gl _ w.heap.size rb a io co lo K C (aA.new w _ _) hR2) (enters_of func162 (by kernel_rfl) rfl) ?_ hok) ?_
  ·rintro k (rfl|rfl|hk)
   ·simp
   ·exact hR2.blk.lt
   ·exact hR2.st.lt k (Or.inl (by rw[hk]))
  ·rintro e w'⟨xs,h1,rfl,h2⟩;exact⟨xs,h1,rfl,hb.trans (h2.mono hb.size)⟩
 have HL:Hid (_):=alive_any w rb;clear hR hok hG;go_enter func51,ntmps51;go_wp2_with fail;refine Calls.mono HL.out ?_;rintro e w1⟨rfl,hw1⟩;have HA2:Hid (_):=HA.out w1 hw1;clear HA HL hw1;go_wp2_with fail;refine Calls.mono HA2.out ?_;rintro e w2⟨xs,hx,rfl,hb⟩;clear HA2;go_wp2_with fail;go_ret;exact⟨xs,hx,rfl,hb⟩
