import Derived.Test.YtfmmllpjgkgeaaaGreatDoorPartM23
set_option linter.unusedVariables false
set_option linter.unusedSimpArgs false
set_option maxHeartbeats 16000000
set_option maxRecDepth 100000
namespace Go.Proofs.YtfmmllpjgkgeaaaGreatDoor
open Go.Proofs.Tryz Go.RowKit Go.Maps Go.WideMaps Go.Shelf
variable{rs:List (Nat×Nat)}{B N cap:Nat}{ao:Option Addr}{co io lo:Option Nat}{v:Value}{w wx:World}
attribute [local go_sem] Oper.semAt_some
theorem cZ.uD{w':World}{m:Value->Option Value}(h:cZ prog 134 w (.map io) N m)(hF:dh B w w'):cZ prog 134 w' (.map io) N m:=by
 rcases h with h|⟨b,h1,h2⟩
 ·exact Or.inl h
 ·exact Or.inr ⟨b,h1,h2.block (hF.block b h2.lt (λhm=>by obtain⟨_,cs,fz,e⟩:=hm;exact h2.mP e))⟩
theorem Ea{base:Nat}{w':World}{e:TypeId}{size:Nat}{n:Nat}{xs:List Value}(h:w.ownsRow base e size v n xs)(hF:dh B w w')(he:e≠5):w'.ownsRow base e size v n xs:=by
 refine aZ h hF (λg hg hm=>?_);obtain⟨_,cs,fz,e2⟩:=hm;rcases h.2 with⟨rfl,_⟩|⟨g',cap,cur,rfl,_,h3,_⟩
 ·cases hg
 ·cases hg;rw[h3]at e2;cases e2;exact he rfl
theorem xM{It:Nat->Option Value}{xs:List gX}(h:cZ prog 134 w v N (im It))(hx:jU It xs):xs.length=N:=by obtain⟨ns,h1,h2,h3⟩:=FV h;have hn:(xs.map gX.n).Nodup:=hx.1.1;have hp:(xs.map gX.n).Perm ns:=(List.perm_ext_iff_of_nodup hn h1).2 (λn=>(hx.1.2 n).trans (h3 n).symm);have:=hp.length_eq;rw[List.length_map,h2]at this;exact this
theorem qE(C:Nat->Option Thk.Ch)(h:∀k c,C k=some c->(kQ c).length<=1000):∀pre:List gX,((rD C pre).flatMap encI).length<=pre.length*1006
 | []=>by simp[rD]
 | x::pre=>by
  have ih:=qE C h pre;unfold rD at ih⊢;rw[List.map_cons,List.flatMap_cons,List.length_append,List.length_cons];have a1:=bD (who x.n);have a2:=bD (nth x.n);have h6:∀t:Thk.Bs,t.length<=1000->(encI (x.n,t)).length<=1006:=λt ht=>by have a3:=bD t.length;unfold encI jX;simp only[List.length_append];omega
  refine Nat.le_trans (Nat.add_le_add (h6 _ ?_) ih) (by omega);cases hc:C x.n with
  | none=>simp
  | some c=>exact h _ _ hc
theorem BR{F:Fence}{n:Nat}{P:Program}{s:Code}{Q:Exit->Act->World->Prop}{a:Act}(h:∀K:Act->World->Prop,(∀a w,Q .normal a w->K a w)->s.wpIn F n P (Exit.then K (λ_ _ _=>False)) a w):s.wpIn F n P Q a w:=by
 refine wpIn_mono (h (λa w=>Q .normal a w) (λ_ _ h=>h)) ?_;intro e a w hq;cases e with
 | normal=>exact hq
 | exit id=>exact False.elim hq
 | goto l=>exact False.elim hq
 | ret=>exact False.elim hq
 | panic ch=>exact False.elim hq
 | outgrown=>exact False.elim hq
structure jB(w:World)(ao:Option Addr)(cap:Nat)(rs:List (Nat×Nat))(io co lo:Option Nat)(N:Nat)(C:Nat->Option Thk.Ch)(wx:World):Prop where
 row:wx.ownsRow w.heap.size 250 3 (.slice ao rs.length cap) rs.length (fB rs)
 st:aA wx (w.heap.size+1) #[.map io,.map co,.map lo] 102
 mp:cZ prog 134 wx (.map io) N (im (aO C))
theorem jB.uD{C:Nat->Option Thk.Ch}{wy:World}(h:jB w ao cap rs io co lo N C wx)(hF:dh B wx wy):jB w ao cap rs io co lo N C wy :=
 ⟨Ea h.row hF (by decide),hF.blk h.st (by decide),h.mp.uD hF⟩
theorem jB.Xj{C:Nat->Option Thk.Ch}{wy:World}{b:Nat}(h:jB w ao cap rs io co lo N C wx)(hb:aA wx b #[v] 93)(hc:ay (λk=>k=b) wx wy):jB w ao cap rs io co lo N C wy:=by
 have hn:∀k,(∀cur fz,wx.heap[k]?≠some (.cells cur 93 fz))->k≠b:=λk hk e=>hk _ _ (e▸hb);refine⟨aZ h.row hc (λg hg=>?_),h.st.aJ hc (hn _ (λcur fz e=>?_)), ?_⟩
 ·intro e;exact ownsRow_ne h.row (λcur fz e2=>by rw[show wx.heap[b]?=_ from hb]at e2;cases e2) (e▸hg)
 ·rw[show wx.heap[w.heap.size+1]?=_ from h.st]at e;cases e
 ·rcases h.mp with h1|⟨k,h1,h2⟩
  ·exact Or.inl h1
  ·exact Or.inr ⟨k,h1,h2.block (hc.block k h2.lt (hn k (λcur fz e=>h2.mP e)))⟩
theorem jB.at{C:Nat->Option Thk.Ch}(h:jB w ao cap rs io co lo N C wx)(i:Nat)(hi:i<rs.length):∃g,ao=some ⟨g,0,none⟩/\wx.cell? ⟨g,i*3,none⟩=some (.int .i64 (who rs[i].1))/\wx.cell? ⟨g,i*3+1,none⟩=some (.int .i64 (nth rs[i].1))/\wx.cell? ⟨g,i*3+2,none⟩=some (.int .i64 (rs[i].2)):=by
 have hcl:=λg(hg:(Value.slice ao rs.length cap).ownBlock=some g)=>h.row.cells hg;rcases h.row.2 with⟨h1,h2⟩|⟨g,cap',cur,h1,_⟩
 ·omega
 ·cases h1;have hg:=sO rs i hi;have a1:=hcl g rfl _ _ hg.1;have a2:=hcl g rfl _ _ hg.2.1;have a3:=hcl g rfl _ _ hg.2.2;rw[Ld]at a1 a2 a3;exact⟨g,rfl,a1,a2,a3⟩
theorem vN(l:Thk.Bs)(rs:List (Nat×Nat))(i:Nat)(hl:l.length<=100)(hr:rs.length<=505):(l++aW rs.length++(rs.take i).flatMap encR).length<=20000:=by
 have h1:=bD rs.length;have h2:∀ys:List (Nat×Nat),(ys.flatMap encR).length<=ys.length*6:=by
  intro ys;induction ys with
  | nil=>simp
  | cons y ys ih =>
   rw[List.flatMap_cons,List.length_append,List.length_cons];have a1:=bD (who y.1);have a2:=bD (nth y.1);have a3:=bD y.2;have:(encR y).length<=6:=by unfold encR jX;simp only[List.length_append];omega
   omega
 have h3:=h2 (rs.take i);have h4:(rs.take i).length<=rs.length:=by rw[List.length_take];omega
 simp only[List.length_append];omega
theorem bF.shape{l:Thk.Bs}(h:bF B w v l):∃ao n cap,v=.slice ao n cap:=by
 rcases h.2 with⟨h1,h2⟩|⟨g,cap,cur,h1,_,_,h4,_⟩
 ·exact⟨_,_,_,h1⟩
 ·exact⟨_,_,_,h1⟩
theorem zD(w:World)(hG:Glob w)(B:Nat)(hB3:3<B)(v:Value)(l:Thk.Bs)(h:bF B w v l)(hB:B<=w.heap.size)(hl:l.length<=100)(io co lo:Option Nat)(c:Nat->Nat)(L:Nat->Bool)(C:Nat->Option Thk.Ch)(N:Nat)(QX:kM w (.map co) (.map lo) c L)(hits:cZ prog 134 w (.map io) N (im (aO C)))(hok:∀k,C k≠none->okD k)(hN:N<=505)(hns:∀ns:List Nat,ns.Nodup->(∀d,d∈ns↔1<=nth d/\kW c L d)->ns.length<=505)(hch:∀k c,C k=some c->(c.act=43\/c.act=94\/c.act=61\/c.act=62)/\(-9223372036854775808<=c.n/\c.n<=9223372036854775807)/\c.path.length<=1048576/\(aC c.act ⟨c.val.toArray⟩).size<=1048576/\(kQ c).length<=1000):Calls prog 165 #[v,.agg #[.map io,.map co,.map lo]] w λe w'=>∃v' ns rs xs,e=.returned v'/\ns.Nodup/\(∀d,d∈ns↔1<=nth d/\kW c L d)/\Runs ns ns.length rs/\jU (aO C) xs/\bF B w' v' (l++encS rs (rD C xs))/\dh B w w':=by
 have h3w:=hG.size;obtain⟨va,vn,vc,rfl⟩:=h.shape;have HG:Hid (∀wx,dh B w wx->Glob wx):=λwx hF=>hG.aJ hF (λk hk=>by have:=hk.1;omega);obtain⟨w1,hw1⟩:∃w1,w1=(w.alloc (.cells #[.slice va vn vc] 93)).alloc (.cells #[.map io,.map co,.map lo] 102):=⟨_,rfl⟩;have hb1:Below w.heap.size w w1:=by rw[hw1];exact((Below.refl _ w).alloc (Nat.le_refl _) _).alloc (by simp) _
 have kv:aA w1 w.heap.size #[.slice va vn vc] 93:=by rw[hw1];exact(aA.new w _ _).alloc _
 have ks:aA w1 (w.heap.size+1) #[.map io,.map co,.map lo] 102:=by have:=aA.new (w.alloc (.cells #[.slice va vn vc] 93)) #[.map io,.map co,.map lo] 102;rw[World.size_alloc]at this;rw[hw1];exact this
 have HR:Hid (Calls prog 221 #[.agg #[.map io,.map co,.map lo]] w1 λe w'=>∃u ns rs,e=.returned u/\(ns.Nodup/\(∀d,d∈ns↔1<=nth d/\kW c L d)/\Runs ns ns.length rs)/\w'.ownsRow w.heap.size 250 3 u rs.length (fB rs)/\zC w w.heap.size B l (λ_=>False) w' (.slice va vn vc)/\aA w' (w.heap.size+1) #[.map io,.map co,.map lo] 102/\cZ prog 134 w' (.map io) N (im (aO C))):=by refine Calls.mono (Nv w1 io co lo c L (QX.below hb1)) ?_;rintro e w'⟨u,ns,rs,rfl,h1,h2,h3,h4,h5⟩;have hs1:=hb1.size;have hbw:Below w.heap.size w w':=hb1.trans (h5.mono hs1);exact⟨u,ns,rs,rfl,⟨h1,h2,h3⟩,own_base h4 hs1,⟨kv.below h5,own_below h hbw,λh=>h,λ_ _ h=>h,dh.of_below hbw,λ_ h=>h.elim,Nat.le_refl _⟩,ks.below h5,hits.below hbw⟩
 have s0:=(ks.cell 0).trans rfl;have s1:=(ks.cell 1).trans rfl;have s2:=(ks.cell 2).trans rfl;have hs1:w.heap.size+1<w1.heap.size:=ks.lt;have xO:Hid (∀k c,C k=some c->(c.act=43\/c.act=94\/c.act=61\/c.act=62)/\(-9223372036854775808<=c.n/\c.n<=9223372036854775807)/\c.path.length<=1048576/\(aC c.act ⟨c.val.toArray⟩).size<=1048576/\(kQ c).length<=1000):=hch;have U9:Hid (∀ns:List Nat,ns.Nodup->(∀d,d∈ns↔1<=nth d/\kW c L d)->ns.length<=505):=hns;have QK:Hid (∀wx,Calls prog 148 #[.agg #[.map io,.map co,.map lo]] wx _):=λwx=>Dw wx io co lo;have Ai:Hid (∀k,C k≠none->okD k):=hok;have Hw1:Hid (w1=(w.alloc (.cells #[.slice va vn vc] 93)).alloc (.cells #[.map io,.map co,.map lo] 102)):=hw1;clear hG h QX hits hok hns hch hb1 kv ks hw1;refine(callsIn_wide (n:=3)).1 ?_;refine callsIn_of_wp_marks func165 rfl trivial ?_ rfl;simp only[ntmps165,List.size_toArray,List.length_cons,List.length_nil,Nat.reduceAdd,Nat.reduceSub,Array.replicate_succ,Array.replicate_zero,List.push_toArray,List.append_toArray,List.nil_append,List.cons_append];gi_wp2_with fail;rw[<- Hw1.out];refine⟨trivial,(callsIn_wide.2 HR.out).mono ?_⟩;rintro e w2⟨u5,ns,rs,rfl,hnr,hrow,hwr,hks,hmp⟩;have hrl:rs.length<=505:=Nat.le_trans hnr.2.2.len (U9.out ns hnr.1 hnr.2.1);have X9:Hid (Calls prog 220 #[.slice va vn vc,.int .i64 rs.length] w2 _):=lC B w2 (.slice va vn vc) l rs.length hwr.row (Nat.le_trans hB hwr.fr.size) (by omega) (by omega);have b0:=(hwr.bk.cell 0).trans rfl;have f0:=hwr.bk.frozen;obtain⟨ao,cap,hu5,hcap⟩:∃ao cap,u5=.slice ao rs.length cap/\rs.length<=cap:=by
  rcases hrow.2 with⟨h1,h2⟩|⟨g,cap,cur,h1,_,_,h4,_⟩
  ·exact⟨none,0,by rw[h1,h2],by omega⟩
  ·exact⟨_,cap,h1,h4⟩
 subst hu5;have HS:Hid (w2.ownsRow w.heap.size 250 3 (.slice ao rs.length cap) rs.length (fB rs)/\zC w w.heap.size B l (λ_=>False) w2 (.slice va vn vc)/\aA w2 (w.heap.size+1) #[.map io,.map co,.map lo] 102/\cZ prog 134 w2 (.map io) N (im (aO C))):=⟨hrow,hwr,hks,hmp⟩;have Hnr:Hid (ns.Nodup/\(∀d,d∈ns↔1<=nth d/\kW c L d)/\Runs ns ns.length rs):=hnr;clear hnr hrow hwr hks hmp HR Hw1 U9 s0 s1 s2;gi_wp2_with fail;refine⟨trivial,(callsIn_wide.2 X9.out).mono ?_⟩;rintro e w3⟨v3,rfl,ho3,hg3⟩;obtain⟨ZW,vn3,vc3,rfl⟩:=ho3.shape;have hw3:=HS.out.2.1.put (λ_ h=>h.elim) hg3 ho3;have hF3:dh B w2 w3:=hg3.uD HS.out.2.1.row;have c3:aA w3 w.heap.size #[.slice va vn vc] 93:=hg3.blk HS.out.2.1.row HS.out.2.1.bk (by decide);have b3:=(c3.cell 0).trans rfl;have f3:=c3.frozen;have HW3:Hid (zC w w.heap.size B (l++aW rs.length) (λ_=>False) (w3.setCell ⟨w.heap.size,0,none⟩ (.slice ZW vn3 vc3)) (.slice ZW vn3 vc3)):=hw3;have hcx:ay (λk=>k=w.heap.size) w3 (w3.setCell ⟨w.heap.size,0,none⟩ (.slice ZW vn3 vc3)):=(ay.refl (λk=>k=w.heap.size) w3).setCell (p:=⟨w.heap.size,0,none⟩) rfl _;have X4:Hid (jB w ao cap rs io co lo N C (w3.setCell ⟨w.heap.size,0,none⟩ (.slice ZW vn3 vc3))):=(jB.uD ⟨HS.out.1,HS.out.2.2.1,HS.out.2.2.2⟩ hF3).Xj c3 hcx;clear hw3 hF3 c3 hg3 ho3 hcx HS X9;gi_wp2_with fail
 gi_loopg [18] rs.length (λg v18 wx=>∃i:Nat,i+g=rs.length/\v18=.int .i64 i/\(∃a n k,zC w w.heap.size B (l++aW rs.length++(rs.take i).flatMap encR) (λ_=>False) wx (.slice a n k))/\jB w ao cap rs io co lo N C wx)
 case atStart=>exact⟨0,by omega,rfl,⟨_,_,_,by simpa using HW3.out⟩,X4.out⟩
 case round =>
  obtain⟨i,hig,rfl,⟨xa,xn,xc,hwi⟩,hxi⟩:=hrel;clear HW3 X4 b3 f3;by_cases him:i<rs.length
  ·obtain⟨g,hgeq,hc0,hc1,hc2⟩:=hxi.at i him;subst hgeq;have hrk:=Hnr.out.2.2.ok _ (List.getElem_mem him);have hfl:Hid ((rs.take (i+1)).flatMap encR=(rs.take i).flatMap encR++encR rs[i]):=by unfold Hid;rw[List.take_succ_eq_append_getElem him,List.flatMap_append,List.flatMap_singleton]
   have hlen:Hid ((l++aW rs.length++(rs.take i).flatMap encR).length<=20000):=vN l rs i hl hrl;generalize rs[i]=x at *;obtain⟨d,m⟩:=x;simp only at hc0 hc1 hc2 hrk;gi_wp2_with fail;have kr:aA (wr.alloc (.cells #[.int .i64 (who d),.int .i64 (nth d),.int .i64 m] 250)) wr.heap.size #[.int .i64 (who d),.int .i64 (nth d),.int .i64 m] 250:=aA.new wr _ _;have hbw:Below wr.heap.size wr (wr.alloc (.cells #[.int .i64 (who d),.int .i64 (nth d),.int .i64 m] 250)):=(Below.refl _ wr).alloc (Nat.le_refl _) _;generalize wr.alloc (.cells #[.int .i64 (who d),.int .i64 (nth d),.int .i64 m] 250)=w4 at *;have hw4:zC w w.heap.size B (l++aW rs.length++(rs.take i).flatMap encR) (λ_=>False) w4 (.slice xa xn xc):=hwi.lH (ay.of_below hbw) (λ_ h=>h.elim);have hx4:jB w (some ⟨g,0,none⟩) cap rs io co lo N C w4:=hxi.uD (B:=B) (dh.of_below hbw);have e0:=(kr.cell 0).trans rfl;have e1:=(kr.cell 1).trans rfl;have e2:=(kr.cell 2).trans rfl;have e3:=(hw4.bk.cell 0).trans rfl;have hB4:B<=w4.heap.size:=Nat.le_trans hB hw4.fr.size;obtain⟨lx,hlx⟩:∃lx,lx=l++aW rs.length++(rs.take i).flatMap encR:=⟨_,rfl⟩;rw[<- hlx]at hw4 hlen;have hed:=bD (who d);have hen:=bD (nth d);have hld:(lx++jX d).length<=30000:=by have:=hlen.out;unfold jX;simp only[List.length_append];omega
   have HD:Hid (∀wx,wx.heap=w4.heap->wx.os=w4.os->wx.tape=w4.tape->wx.output=w4.output->Calls prog 222 #[.slice xa xn xc,.agg #[.int .i64 (who d),.int .i64 (nth d)]] wx λe w'=>∃a n k,e=.returned (.slice a n k)/\(bF B w' (.slice a n k) (lx++jX d)/\dF (.slice xa xn xc) w4 (.slice a n k) w')/\w'.cell? ⟨wr.heap.size,2,none⟩=some (.int .i64 m)/\w'.cell? ⟨w.heap.size,0,none⟩=some (.slice xa xn xc)/\(∀j,w'.frozen? ⟨w.heap.size,j,none⟩=false)):=λwx hx ho ht hp=>by have hG0:dF (.slice xa xn xc) w4 (.slice xa xn xc) wx:=dF.heap hx ho ht hp;refine Calls.mono (FX B wx (.slice xa xn xc) lx d (hw4.row.heap hx) (Nat.le_trans hB4 hG0.aJ.size) (by have:=hlen.out;omega) hrk.1.1) ?_;rintro e w'⟨v',rfl,h1,h2⟩;obtain⟨a,n,k,rfl⟩:=h1.shape;have hG1:=hG0.trans h2;have kr':=hG1.blk hw4.row kr (by decide);have Lj:=hG1.blk hw4.row hw4.bk (by decide);exact⟨a,n,k,rfl,⟨h1,hG1⟩,(kr'.cell 2).trans rfl,(Lj.cell 0).trans rfl,Lj.frozen⟩
   have HM:Hid (∀wx w5 a n k,(bF B w5 (.slice a n k) (lx++jX d)/\dF (.slice xa xn xc) w4 (.slice a n k) w5)->wx.heap=w5.heap->wx.os=w5.os->wx.tape=w5.tape->wx.output=w5.output->Calls prog 220 #[.slice a n k,.int .i64 m] wx λe w'=>∃a' n' k',e=.returned (.slice a' n' k')/\(bF B w' (.slice a' n' k') (lx++jX d++aW m)/\dF (.slice xa xn xc) w4 (.slice a' n' k') w')/\w'.cell? ⟨w.heap.size,0,none⟩=some (.slice xa xn xc)/\(∀j,w'.frozen? ⟨w.heap.size,j,none⟩=false)):=λwx w5 a n k h5 hx ho ht hp=>by have hG0:=h5.2.trans (dF.heap hx ho ht hp);refine Calls.mono (lC B wx (.slice a n k) (lx++jX d) m (h5.1.heap hx) (Nat.le_trans hB4 hG0.aJ.size) (by omega) (by omega)) ?_;rintro e w'⟨v',rfl,h1,h2⟩;obtain⟨a',n',k',rfl⟩:=h1.shape;have hG1:=hG0.trans h2;have Lj:=hG1.blk hw4.row hw4.bk (by decide);exact⟨a',n',k',rfl,⟨h1,hG1⟩,(Lj.cell 0).trans rfl,Lj.frozen⟩
   have Yb:Hid (zC w w.heap.size B lx (λ_=>False) w4 (.slice xa xn xc)/\jB w (some ⟨g,0,none⟩) cap rs io co lo N C w4):=⟨hw4,hx4⟩;have ah6:Hid (lx++jX d++aW m=l++aW rs.length++(rs.take (i+1)).flatMap encR):=by unfold Hid;rw[hfl.out,hlx];unfold encR;simp only[List.append_assoc]
   clear hwi hxi hw4 hx4 kr hbw hc0 hc1 hc2 hlx hlen hfl hed hen hld;refine BR (λK hK=>?_)
   gi_cut [18]from 45 (λv18 wx=>v18=.int .i64 i/\(∃a n k,zC w w.heap.size B (l++aW rs.length++(rs.take (i+1)).flatMap encR) (λ_=>False) wx (.slice a n k))/\jB w (some ⟨g,0,none⟩) cap rs io co lo N C wx)
   case first =>
    gi_region_with (first|(refine⟨trivial,CallsIn.mono (callsIn_wide.2 (HM.out _ w5 _ _ _ h5 rfl rfl rfl rfl)) ?_⟩;rintro e w6⟨a6,n6,k6,rfl,h6,g0,g1⟩)|(refine⟨trivial,CallsIn.mono (callsIn_wide.2 (HD.out _ rfl rfl rfl rfl)) ?_⟩;rintro e w5⟨a5,n5,k5,rfl,h5,f0,f1,f2⟩))
    all_goals
     gi_wp2_with fail
     gi_meet
     refine⟨rfl,⟨a6,n6,k6, ?_⟩, ?_⟩
     ·rw[<- ah6.out];exact Yb.out.1.put (λ_ h=>h.elim) h6.2 h6.1
     ·exact(Yb.out.2.uD (h6.2.uD Yb.out.1.row)).Xj (h6.2.blk Yb.out.1.row Yb.out.1.bk (by decide)) ((ay.refl (λk=>k=w.heap.size) _).setCell (p:=⟨w.heap.size,0,none⟩) rfl _)
   case rest =>
    obtain⟨rfl,hwc,hxc⟩:=hcut;have HC:Hid ((∃a n k,zC w w.heap.size B (l++aW rs.length++(rs.take (i+1)).flatMap encR) (λ_=>False) wc (.slice a n k))/\jB w (some ⟨g,0,none⟩) cap rs io co lo N C wc):=⟨hwc,hxc⟩;clear hwc hxc Yb HD HM;refine hK _ _ ?_;gi_wp2_with fail
    gi_roundg (rs.length-(i+1))
    case measure=>omega
    case rel=>exact⟨i+1,by omega,by go_num,HC.out.1,HC.out.2⟩
  ·have e:i=rs.length:=by omega
   subst e;rw[List.take_length]at hwi;have hlen:(l++aW rs.length++rs.flatMap encR).length<=20000:=by have:=vN l rs rs.length hl hrl;rwa [List.take_length]at this
   obtain⟨lx,hlx⟩:∃lx,lx=l++aW rs.length++rs.flatMap encR:=⟨_,rfl⟩;rw[<- hlx]at hwi hlen;have Hlx:Hid (lx=l++aW rs.length++rs.flatMap encR):=hlx;have e0:=(hxi.st.cell 0).trans rfl;have e1:=(hxi.st.cell 1).trans rfl;have e2:=(hxi.st.cell 2).trans rfl;have e3:=(hwi.bk.cell 0).trans rfl;have hBr:B<=wr.heap.size:=Nat.le_trans hB hwi.fr.size;have HI:Hid (∀wx,wx.heap=wr.heap->wx.os=wr.os->wx.tape=wr.tape->wx.output=wr.output->Calls prog 223 #[.agg #[.map io,.map co,.map lo]] wx λe w'=>e=.returned (.int .i64 N)/\(bF B w' (.slice xa xn xc) lx/\dF (.slice xa xn xc) wr (.slice xa xn xc) w')/\w'.cell? ⟨w.heap.size,0,none⟩=some (.slice xa xn xc)/\(∀j,w'.frozen? ⟨w.heap.size,j,none⟩=false)):=λwx hx ho ht hp=>by have hG0:dF (.slice xa xn xc) wr (.slice xa xn xc) wx:=dF.heap hx ho ht hp;refine Calls.mono (JC wx io co lo N (im (aO C)) (hxi.mp.uD (hG0.uD hwi.row))) ?_;rintro e w'⟨rfl,hb⟩;have hG1:=hG0.trans (dF.of_below hb);have Lj:=hG1.blk hwi.row hwi.bk (by decide);exact⟨rfl,⟨own_below (hwi.row.heap hx) hb,hG1⟩,(Lj.cell 0).trans rfl,Lj.frozen⟩
   have HM:Hid (∀wx w5,(bF B w5 (.slice xa xn xc) lx/\dF (.slice xa xn xc) wr (.slice xa xn xc) w5)->wx.heap=w5.heap->wx.os=w5.os->wx.tape=w5.tape->wx.output=w5.output->Calls prog 220 #[.slice xa xn xc,.int .i64 N] wx λe w'=>∃a' n' k',e=.returned (.slice a' n' k')/\(bF B w' (.slice a' n' k') (lx++aW N)/\dF (.slice xa xn xc) wr (.slice a' n' k') w')/\w'.cell? ⟨w.heap.size,0,none⟩=some (.slice xa xn xc)/\(∀j,w'.frozen? ⟨w.heap.size,j,none⟩=false)):=λwx w5 h5 hx ho ht hp=>by have hG0:=h5.2.trans (dF.heap hx ho ht hp);have hrow:bF B wx (.slice xa xn xc) lx:=h5.1.heap hx;refine Calls.mono (lC B wx (.slice xa xn xc) lx N hrow (Nat.le_trans hBr hG0.aJ.size) (by omega) (by omega)) ?_;rintro e w'⟨v',rfl,h1,h2⟩;obtain⟨a',n',k',rfl⟩:=h1.shape;have hG1:=hG0.trans h2;have Lj:=hG1.blk hwi.row hwi.bk (by decide);exact⟨a',n',k',rfl,⟨h1,hG1⟩,(Lj.cell 0).trans rfl,Lj.frozen⟩
   have HW:Hid (zC w w.heap.size B lx (λ_=>False) wr (.slice xa xn xc)/\jB w ao cap rs io co lo N C wr):=⟨hwi,hxi⟩;clear hwi hxi hlx;gi_wp2_with fail;refine BR (λK hK=>?_)
   gi_cut [18]from 45 (λv18 wx=>(∃a n k,zC w w.heap.size B (lx++aW N) (λ_=>False) wx (.slice a n k))/\jB w ao cap rs io co lo N C wx)
   case first =>
    gi_region_with (first|(refine⟨trivial,CallsIn.mono (callsIn_wide.2 (HM.out _ w5 h5 rfl rfl rfl rfl)) ?_⟩;rintro e w6⟨a6,n6,k6,rfl,h6,g0,g1⟩)|(refine⟨trivial,CallsIn.mono (callsIn_wide.2 (HI.out _ rfl rfl rfl rfl)) ?_⟩;rintro e w5⟨rfl,h5,f0,f1⟩))
    all_goals
     gi_wp2_with fail
     gi_meet
     refine⟨⟨a6,n6,k6, ?_⟩, ?_⟩
     ·exact HW.out.1.put (λ_ h=>h.elim) h6.2 h6.1
     ·exact(HW.out.2.uD (h6.2.uD HW.out.1.row)).Xj (h6.2.blk HW.out.1.row HW.out.1.bk (by decide)) ((ay.refl (λk=>k=w.heap.size) _).setCell (p:=⟨w.heap.size,0,none⟩) rfl _)
   case rest =>
    obtain⟨⟨ya,yn,yc,hwc⟩,hxc⟩:=hcut;have HC:Hid (zC w w.heap.size B (lx++aW N) (λ_=>False) wc (.slice ya yn yc)/\jB w ao cap rs io co lo N C wc):=⟨hwc,hxc⟩;clear hwc hxc HW HI HM e0 e1 e2 e3;refine hK _ _ ?_;have e0:=(HC.out.2.st.cell 0).trans rfl;have e1:=(HC.out.2.st.cell 1).trans rfl;have e2:=(HC.out.2.st.cell 2).trans rfl;gi_wp2_with fail;refine⟨trivial,(callsIn_wide.2 (QK.out _)).mono ?_⟩;rintro e w4⟨rfl,rfl⟩;gi_wp2_with fail;have hbw:Below wc.heap.size wc (wc.alloc (.cells #[.map io,.map co,.map lo] 102)):=(Below.refl _ wc).alloc (Nat.le_refl _) _;have ks:aA (wc.alloc (.cells #[.map io,.map co,.map lo] 102)) wc.heap.size #[.map io,.map co,.map lo] 102:=aA.new wc _ _;generalize wc.alloc (.cells #[.map io,.map co,.map lo] 102)=w5 at *;have hw5:zC w w.heap.size B (lx++aW N) (λ_=>False) w5 (.slice ya yn yc):=HC.out.1.lH (ay.of_below hbw) (λ_ h=>h.elim);have NS:=HC.out.2.mp.below hbw;have Du:Iter prog 202 #[.pointer (some ⟨wc.heap.size,0,none⟩)] (λx:gX=>#[aP x.n,Value.agg #[.string x.p,.int .u8 x.a,.string x.v,.int .i64 x.m]]) (jU (aO C)) (λk=>k=wc.heap.size\/io=some k) w5:=vH w5 wc.heap.size io co lo (aO C) N ks NS (λk hk=>Ai.out k (dW.1 hk)) (λk v h=>jL h);have D5:∀k,io=some k->k<wc.heap.size:=λk hk=>by
     rcases HC.out.2.mp with⟨h1,_⟩|⟨b,h1,h2⟩
     ·rw[hk]at h1;cases h1
     ·rw[hk]at h1;cases h1;exact h2.lt
    have hs5:wc.heap.size<w5.heap.size:=ks.lt;refine gy (gf:=202) (lb:=#[.pointer (some ⟨wc.heap.size,0,none⟩)]) rfl (enters_of func202 (by kernel_rfl) rfl) Du (bI.refl _ _) (λk hk=>by rcases hk with rfl|hk;exact hs5;have:=D5 k hk;omega) (λ_=>rfl)
     (λT pre W=>∃a n k,zC w w.heap.size B (lx++aW N++(rD C pre).flatMap encI) T W (.slice a n k)) (λ_ _ _ _=>False)
     (λT T' pre W W' h hc hT=>by obtain⟨a,n,k,h⟩:=h;exact⟨a,n,k,h.lH hc hT⟩) (λ_ _ _ _ _ _ h _ _=>h)
     ⟨_,_,_,by simpa[rD]using hw5⟩ ?round ?done ?stop
    case round =>
     rintro lr T pre x W hTl hT⟨za,zn,zc,hW⟩ Fv ⟨ys,hys,hpre⟩;have hxy:x∈ys:=hpre.subset (by simp);obtain⟨cx,hcx,Dx⟩:=nZ (hys.2 x hxy);obtain⟨hact,hnn,hpl,hvl,htl⟩:=xO.out _ _ hcx;have Ez:Hid ((rD C (pre++[x])).flatMap encI=(rD C pre).flatMap encI++encI (x.n,kQ cx)):=by unfold Hid rD;simp[hcx]
     have hpl2:pre.length<=505:=by have h1:=xM NS hys;have h2:=hpre.length_le;rw[List.length_append]at h2;omega
     have hsm:(lx++aW N++(rD C pre).flatMap encI).length<=600000:=by have h1:=qE C (λk c hc=>(xO.out k c hc).2.2.2.2) pre;have h2:=bD N;simp only[List.length_append];omega
     obtain⟨xn,xp,xa',xv,xm⟩:=x;simp only[qO,Value.agg.injEq]at Dx;simp at Dx;obtain⟨rfl,rfl,rfl,rfl⟩:=Dx;simp only at hcx Ez;have hxo:okD xn:=Ai.out xn (by rw[hcx];simp);gi_wp2;have hsW:wc.heap.size<W.heap.size:=by have:=Fv.1;omega
     refine⟨⟨by simp;omega,λk hk=>?_⟩, ?_⟩
     ·refine(((Below.refl W.heap.size W).alloc (Nat.le_refl _) _).alloc (by simp) _).block k (hk.elim (λh=>?_) (λh=>(hT k h).2));rcases h with rfl|h
      ·omega
      ·have:=D5 k h;omega
     intro W2 hc2 hs2 hE2;have hTs:∀k,T k->k<W2.heap.size:=λk hk=>by rw[hs2];have:=(hT k hk).2;simp;omega
     have ZX:ay T W W2:=(ay.of_below ((((Below.refl W.heap.size W).alloc (Nat.le_refl _) _).alloc (by simp) _))).trans hc2;have hW2:=hW.lH ZX (λk hk=>⟨Or.inl hk,hTs k hk⟩);have kd:aA W2 W.heap.size #[.int .i64 (who xn),.int .i64 (nth xn)] 134:=((aA.new W _ _).alloc _).aJ hc2 (λhk=>by have:=(hT _ hk).2;omega);have ke:aA W2 (W.heap.size+1) #[.string ⟨cx.path.toArray⟩,.int .u8 (cx.act.toNat:Int),.string (aC cx.act ⟨cx.val.toArray⟩),.int .i64 cx.n] 86:=by have:=aA.new (W.alloc (.cells #[.int .i64 (who xn),.int .i64 (nth xn)] 134)) #[.string ⟨cx.path.toArray⟩,.int .u8 (cx.act.toNat:Int),.string (aC cx.act ⟨cx.val.toArray⟩),.int .i64 cx.n] 86;rw[World.size_alloc]at this;exact this.aJ hc2 (λhk=>by have:=(hT _ hk).2;omega)
     obtain⟨ly,hly⟩:∃ly,ly=lx++aW N++(rD C pre).flatMap encI:=⟨_,rfl⟩;rw[<- hly]at hsm hW2;have hB2:B<=W2.heap.size:=Nat.le_trans hB hW2.fr.size;have d0:=(kd.cell 0).trans rfl;have d1:=(kd.cell 1).trans rfl;have a0:=(ke.cell 0).trans rfl;have a1:=(ke.cell 1).trans rfl;have a2:=(ke.cell 2).trans rfl;have a3:=(ke.cell 3).trans rfl;have c0:=(hW2.bk.cell 0).trans rfl;have hed:=bD (who xn);have hen:=bD (nth xn);have hld:(ly++jX xn).length<=700000:=by unfold jX;simp only[List.length_append];omega
     have HD:Hid (∀wx,wx.heap=W2.heap->wx.os=W2.os->wx.tape=W2.tape->wx.output=W2.output->Calls prog 222 #[.slice za zn zc,.agg #[.int .i64 (who xn),.int .i64 (nth xn)]] wx λe w'=>∃a n k,e=.returned (.slice a n k)/\(bF B w' (.slice a n k) (ly++jX xn)/\dF (.slice za zn zc) W2 (.slice a n k) w')/\w'.cell? ⟨W.heap.size+1,0,none⟩=some (.string ⟨cx.path.toArray⟩)/\w'.cell? ⟨W.heap.size+1,1,none⟩=some (.int .u8 (cx.act.toNat:Int))/\w'.cell? ⟨W.heap.size+1,2,none⟩=some (.string (aC cx.act ⟨cx.val.toArray⟩))/\w'.cell? ⟨W.heap.size+1,3,none⟩=some (.int .i64 cx.n)):=λwx hx ho ht hp=>by have hG0:dF (.slice za zn zc) W2 (.slice za zn zc) wx:=dF.heap hx ho ht hp;refine Calls.mono (FX B wx (.slice za zn zc) ly xn (hW2.row.heap hx) (Nat.le_trans hB2 hG0.aJ.size) (by omega) hxo.1) ?_;rintro e w'⟨v',rfl,h1,h2⟩;obtain⟨a,n,k,rfl⟩:=h1.shape;have hG1:=hG0.trans h2;have ke':=hG1.blk hW2.row ke (by decide);exact⟨a,n,k,rfl,⟨h1,hG1⟩,(ke'.cell 0).trans rfl,(ke'.cell 1).trans rfl,(ke'.cell 2).trans rfl,(ke'.cell 3).trans rfl⟩
     have HX:Hid (∀wx w5 a n k,(bF B w5 (.slice a n k) (ly++jX xn)/\dF (.slice za zn zc) W2 (.slice a n k) w5)->wx.heap=w5.heap->wx.os=w5.os->wx.tape=w5.tape->wx.output=w5.output->Calls prog 225 #[.agg #[.string ⟨cx.path.toArray⟩,.int .u8 (cx.act.toNat:Int),.string (aC cx.act ⟨cx.val.toArray⟩),.int .i64 cx.n]] wx λe w'=>∃s,e=.returned (.string s)/\(ah s=kQ cx/\bF B w' (.slice a n k) (ly++jX xn)/\dF (.slice za zn zc) W2 (.slice a n k) w')):=λwx w5 a n k h5 hx ho ht hp=>by have hG0:=h5.2.trans (dF.heap hx ho ht hp);have hGl:=HG.out wx (hW2.fr.trans (hG0.uD hW2.row));refine Calls.mono (Qm wx hGl ⟨cx.path.toArray⟩ (aC cx.act ⟨cx.val.toArray⟩) cx.act cx.n hact hnn (by show cx.path.toArray.size<=_;simpa using hpl) hvl) ?_;rintro e w'⟨sx,rfl,h1,hb⟩;exact⟨sx,rfl,h1,own_below (h5.1.heap hx) hb,hG0.trans (dF.of_below hb)⟩
     have HY:Hid (∀wx w6 a n k sx,(ah sx=kQ cx/\bF B w6 (.slice a n k) (ly++jX xn)/\dF (.slice za zn zc) W2 (.slice a n k) w6)->wx.heap=w6.heap->wx.os=w6.os->wx.tape=w6.tape->wx.output=w6.output->Calls prog 224 #[.slice a n k,.string sx] wx λe w'=>∃a' n' k',e=.returned (.slice a' n' k')/\(bF B w' (.slice a' n' k') (ly++encI (xn,kQ cx))/\dF (.slice za zn zc) W2 (.slice a' n' k') w')/\w'.cell? ⟨w.heap.size,0,none⟩=some (.slice za zn zc)/\(∀j,w'.frozen? ⟨w.heap.size,j,none⟩=false)):=λwx w6 a n k sx h6 hx ho ht hp=>by
      have hG0:=h6.2.2.trans (dF.heap hx ho ht hp);have hsl:sx.size=(kQ cx).length:=by rw[<- h6.1];unfold ah;simp
      refine Calls.mono (Nw B wx (.slice a n k) (ly++jX xn) sx (h6.2.1.heap hx) (Nat.le_trans hB2 hG0.aJ.size) (by omega) (by omega)) ?_;rintro e w'⟨v',rfl,h1,h2⟩;obtain⟨a',n',k',rfl⟩:=h1.shape;have hG1:=hG0.trans h2;have Lj:=hG1.blk hW2.row hW2.bk (by decide);have he:ly++jX xn++aW sx.size++ah sx=ly++encI (xn,kQ cx):=by unfold encI;rw[hsl,h6.1];simp only[List.append_assoc]
      rw[he]at h1;exact⟨a',n',k',rfl,⟨h1,hG1⟩,(Lj.cell 0).trans rfl,Lj.frozen⟩
     have HE:Hid (∀k,(k=wc.heap.size\/io=some k)->k<W2.heap.size/\k≠w.heap.size/\(Value.slice za zn zc).ownBlock≠some k):=λk hk=>by
      have hkl:k<w5.heap.size:=by rcases hk with rfl|h;exact hs5;have:=D5 k h;omega
      have e1:W2.heap[k]?=w5.heap[k]?:=hE2.2 k hk;have hnu:∀t,(∀cur fz,w5.heap[k]?≠some (.cells cur t fz))->∀cur fz,W2.heap[k]?≠some (.cells cur t fz):=λt h cur fz e=>h cur fz (e1▸e);have hno:∀t,t≠102->∀cur fz,w5.heap[k]?≠some (.cells cur t fz):=λt ht cur fz e=>by
       rcases hk with rfl|h
       ·rw[show w5.heap[wc.heap.size]?=_ from ks]at e;cases e;exact ht rfl
       ·rcases NS with⟨h1,_⟩|⟨b,h1,h2⟩
        ·rw[h]at h1;cases h1
        ·rw[h]at h1;cases h1;exact h2.mP e
      refine⟨Nat.lt_of_lt_of_le hkl hE2.1,λe=>?_,ownsRow_ne hW2.row (hnu _ (hno _ (by decide)))⟩;have:=hnu _ (hno 93 (by decide)) _ _ (e▸hW2.bk);exact this
     have HW2:Hid (zC w w.heap.size B ly T W2 (.slice za zn zc)):=hW2;have Hly:Hid (ly++encI (xn,kQ cx)=lx++aW N++(rD C (pre++[⟨xn,⟨cx.path.toArray⟩,cx.act.toNat,aC cx.act ⟨cx.val.toArray⟩,cx.n⟩])).flatMap encI):=by unfold Hid;rw[Ez.out,hly];simp only[List.append_assoc]
     have HTs:Hid (∀k,T k->k<W2.heap.size):=hTs;clear hW hW2 kd ke ZX hc2 hs2 hE2 Fv hly hT hact hnn hpl hvl htl hed hen hld Du hw5 NS hTs;gi_wp2_with fail
     gi_region_with (first|(refine⟨trivial,CallsIn.inRound lr (CallsIn.mono (callsIn_wide.2 (HY.out _ w7 _ _ _ _ h7 rfl rfl rfl rfl)) ?_)⟩;rintro e w8⟨a8,n8,k8,rfl,h8,g0,g1⟩)|(refine⟨trivial,CallsIn.inRound lr (CallsIn.mono (callsIn_wide.2 (HX.out _ w6 _ _ _ h6 rfl rfl rfl rfl)) ?_)⟩;rintro e w7⟨s7,rfl,h7⟩)|(refine⟨trivial,CallsIn.inRound lr (CallsIn.mono (callsIn_wide.2 (HD.out _ rfl rfl rfl rfl)) ?_)⟩;rintro e w6⟨a6,n6,k6,rfl,h6,f0,f1,f2,f3⟩))
     all_goals
      gi_wp2_with fail;refine⟨⟨a8,n8,k8, ?_⟩, ?_⟩
      ·rw[<- Hly.out];exact HW2.out.put HTs.out h8.2 h8.1
      ·exact HW2.out.keep HTs.out HE.out h8.2 h8.1
    case done =>
     rintro D T xs W hD xJ hS'⟨za,zn,zc,hW⟩ hT hK2;have hxl:xs.length=N:=xM NS hS';have c0:=(hW.bk.cell 0).trans rfl;have HW:Hid (zC w w.heap.size B (lx++aW N++(rD C xs).flatMap encI) T W (.slice za zn zc)):=hW;clear hW Du hw5 NS;gi_wp2_with fail;refine⟨by simp,.inl ⟨_,_,rfl,run_takeDeferred hK2, ?_⟩⟩;have hfin:=HW.out.lH (T':=T) (dO W D (.deferred none) xJ) (λk hk=>⟨Or.inl hk,by rw[cu];exact(hT k hk).2⟩);have he:lx++aW N++(rD C xs).flatMap encI=l++encS rs (rD C xs):=by
      have hwl:(rD C xs).length=N:=by unfold rD;rw[List.length_map];exact hxl
      unfold encS;rw[hwl,Hlx.out];simp only[List.append_assoc]
     rw[he]at hfin;exact⟨_,results_tmp rfl _ _ _,.slice za zn zc,ns,rs,xs,rfl,Hnr.out.1,Hnr.out.2.1,Hnr.out.2.2,hS',hfin.row,hfin.fr⟩
    case stop =>rintro D T c pre W _ _ h;exact h.elim
