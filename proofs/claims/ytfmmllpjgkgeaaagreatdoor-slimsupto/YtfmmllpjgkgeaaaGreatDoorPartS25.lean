import Derived.Test.YtfmmllpjgkgeaaaGreatDoorPartS24
set_option linter.unusedVariables false
set_option linter.unusedSimpArgs false
set_option maxHeartbeats 16000000
set_option maxRecDepth 100000
namespace Go.Proofs.YtfmmllpjgkgeaaaGreatDoor
open Go.Proofs.Tryz Go.RowKit Go.Maps Go.WideMaps Go.Shelf
variable{rs:List (Nat×Nat)}{B N cap:Nat}{ao:Option Addr}{co io lo:Option Nat}{v:Value}{w wx:World}
attribute [local go_sem] Oper.semAt_some
theorem aW.pI{c:World}{m:Value->Option Value}(h:aW prog 134 w (.map io) N m)(hF:aY B w c):aW prog 134 c (.map io) N m:=by
 rcases h with h|⟨b,d,a⟩
 .exact τ h
 .exact υ ⟨b,d,a.block (hF.block b a.lt (λf=>by obtain⟨_,g,i,e⟩:=f;exact a.jH e))⟩
theorem zQ{base:Nat}{c:World}{e:TypeId}{size:Nat}{n:Nat}{xs:List Value}(h:w.ownsRow base e size v n xs)(hF:aY B w c)(f:e≠5):c.ownsRow base e size v n xs:=by
 refine ownsRow_chg h hF (λl b g=>?_);obtain⟨_,i,k,a⟩:=g;rcases h.2 with⟨rfl,_⟩|⟨m,cap,j,rfl,_,d,_⟩
 .cases b
 .cases b;rw[d]at a;cases a;exact f rfl
theorem sJ{It:Nat->Option Value}{xs:List dV}(h:aW prog 134 w v N (im It))(a:gY It xs):xs.length=N:=by obtain⟨ns,b,c,d⟩:=BQ h;have e:(xs.map dV.n).Nodup:=a.1.1;have f:(xs.map dV.n).Perm ns:=(List.perm_ext_iff_of_nodup e b).2 (λn=>(a.1.2 n).trans (d n).symm);have:=f.length_eq;rw[List.length_map,c]at this;exact this
theorem mG(C:Nat->Option Thk.Ch)(h:∀k c,C k=some c->(txtC c).length<=1000):∀a:List dV,((mF C a).flatMap encI).length<=a.length*1006
 | []=>by simp[mF]
 | x::a=>by
  have b:=mG C h a;unfold mF at b⊢;rw[List.map_cons,List.flatMap_cons,ρ,δ];have e:=encN_len (who x.n);have f:=encN_len (nth x.n);have d:∀t:Thk.Bs,t.length<=1000->(encI (x.n,t)).length<=1006:=λt i=>by have g:=encN_len t.length;unfold encI encD;simp only[ρ];omega
  refine ς (Nat.add_le_add (d _ ?_) b) V;cases hc:C x.n with
  | none=>simp
  | some c=>exact h _ _ hc
theorem yh{F:Fence}{n:Nat}{P:Program}{s:Code}{Q:Exit->Act->World->Prop}{a:Act}(h:∀K:Act->World->Prop,(∀a w,Q .normal a w->K a w)->s.wpIn F n P (Exit.then K (λ_ _ _=>False)) a w):s.wpIn F n P Q a w:=by
 refine wpIn_mono (h (λa w=>Q .normal a w) (λ_ _ h=>h)) ?_;intro e a w b;cases e with
 | normal=>exact b
 | exit id=>exact False.elim b
 | goto l=>exact False.elim b
 | ret=>exact False.elim b
 | panic c=>exact False.elim b
 | outgrown=>exact False.elim b
structure gG(w:World)(ao:Option Addr)(cap:Nat)(rs:List (Nat×Nat))(io co lo:Option Nat)(N:Nat)(C:Nat->Option Thk.Ch)(wx:World):Prop where
 row:wx.ownsRow w.heap.size 250 3 (.slice ao rs.length cap) rs.length (dA rs)
 st:ah wx (w.heap.size+1) #[.map io,.map co,.map lo] 102
 mp:aW prog 134 wx (.map io) N (im (itOf C))
theorem gG.pI{C:Nat->Option Thk.Ch}{wy:World}(h:gG w ao cap rs io co lo N C wx)(hF:aY B wx wy):gG w ao cap rs io co lo N C wy :=
 ⟨zQ h.row hF Ψ,hF.blk h.st Ψ,h.mp.pI hF⟩
theorem gG.TY{C:Nat->Option Thk.Ch}{wy:World}{b:Nat}(h:gG w ao cap rs io co lo N C wx)(j:ah wx b #[v] 93)(g:Chg (λk=>k=b) wx wy):gG w ao cap rs io co lo N C wy:=by
 have l:∀k,(∀a c,wx.heap[k]?≠some (.cells a 93 c))->k≠b:=λk n e=>n _ _ (e▸j);refine⟨ownsRow_chg h.row g (λo m=>?_),h.st.chg g (l _ (λa c e=>?_)), ?_⟩
 .intro e;exact ownsRow_ne h.row (λa c i=>by rw[show wx.heap[b]?=_ from j]at i;cases i) (e▸m)
 .rw[show wx.heap[w.heap.size+1]?=_ from h.st]at e;cases e
 .rcases h.mp with d|⟨k,d,f⟩
  .exact τ d
  .exact υ ⟨k,d,f.block (g.block k f.lt (l k (λa c e=>f.jH e)))⟩
theorem gG.at{C:Nat->Option Thk.Ch}(h:gG w ao cap rs io co lo N C wx)(i:Nat)(j:i<rs.length):∃g,ao=some (z g)/\wx.cell? (O g (i*3))=some (.int .i64 (who rs[i].1))/\wx.cell? (O g (i*3+1))=some (.int .i64 (nth rs[i].1))/\wx.cell? (O g (i*3+2))=some (.int .i64 (rs[i].2)):=by
 have b:=λg(a:(Value.slice ao rs.length cap).ownBlock=some g)=>h.row.cells a;rcases h.row.2 with⟨f,m⟩|⟨g,k,l,f,_⟩
 .omega
 .cases f;have a:=oH rs i j;have c:=b g rfl _ _ a.1;have d:=b g rfl _ _ a.2.1;have e:=b g rfl _ _ a.2.2;rw[GL]at c d e;exact⟨g,rfl,c,d,e⟩
theorem qL(l:Thk.Bs)(rs:List (Nat×Nat))(i:Nat)(j:l.length<=100)(k:rs.length<=505):(l++encN rs.length++(rs.take i).flatMap encR).length<=20000:=by
 have f:=encN_len rs.length;have b:∀a:List (Nat×Nat),(a.flatMap encR).length<=a.length*6:=by
  intro a;induction a with
  | nil=>simp
  | cons y a ih =>
   rw[List.flatMap_cons,ρ,δ];have c:=encN_len (who y.1);have d:=encN_len (nth y.1);have e:=encN_len y.2;have:(encR y).length<=6:=by unfold encR encD;simp only[ρ];omega
   omega
 have g:=b (rs.take i);have h:(rs.take i).length<=rs.length:=by rw[List.length_take];omega
 simp only[ρ];omega
theorem aH.shape{l:Thk.Bs}(h:aH B w v l):∃ao n cap,v=.slice ao n cap:=by
 rcases h.2 with⟨a,c⟩|⟨g,cap,b,a,_,_,d,_⟩
 .exact⟨_,_,_,a⟩
 .exact⟨_,_,_,a⟩
theorem vK(w:World)(hG:Glob w)(B:Nat)(cs:3<B)(v:Value)(l:Thk.Bs)(h:aH B w v l)(hB:B<=w.heap.size)(hl:l.length<=100)(io co lo:Option Nat)(c:Nat->Nat)(L:Nat->Bool)(C:Nat->Option Thk.Ch)(N:Nat)(Nh:iI w (.map co) (.map lo) c L)(bm:aW prog 134 w (.map io) N (im (itOf C)))(bt:∀k,C k≠none->okD k)(hN:N<=505)(br:∀i:List Nat,i.Nodup->(∀d,d∈i↔1<=nth d/\iP c L d)->i.length<=505)(bk:∀k c,C k=some c->(c.act=43\/c.act=94\/c.act=61\/c.act=62)/\(-9223372036854775808<=c.n/\c.n<=9223372036854775807)/\c.path.length<=1048576/\(au c.act ⟨c.val.toArray⟩).size<=1048576/\(txtC c).length<=1000):Calls prog 165 #[v,.agg #[.map io,.map co,.map lo]] w λe w'=>∃v' i rs xs,e=.returned v'/\BN i/\(∀d,d∈i↔1<=nth d/\iP c L d)/\Runs i i.length rs/\gY (itOf C) xs/\aH B w' v' (l++encS rs (mF C xs))/\aY B w w':=by
 have cr:=hG.size;obtain⟨va,vn,vc,rfl⟩:=h.shape;have HG:J<|∀wx,aY B w wx->Glob wx:=λwx hF=>hG.chg hF (λk dc=>by have:=dc.1;omega);obtain⟨w1,ai⟩:∃w1,w1=(w.alloc (.cells #[.slice va vn vc] 93)).alloc (.cells #[.map io,.map co,.map lo] 102):=⟨_,rfl⟩;have al:Below w.heap.size w w1:=by rw[ai];exact((φ _ w).alloc (χ _) _).alloc Ω _
 have kv:ah w1 w.heap.size #[.slice va vn vc] 93:=by rw[ai];exact(ah.new w _ _).alloc _
 have ks:ah w1 (w.heap.size+1) #[.map io,.map co,.map lo] 102:=by have:=ah.new (w.alloc (.cells #[.slice va vn vc] 93)) #[.map io,.map co,.map lo] 102;rw[ϊ]at this;rw[ai];exact this
 have HR:J<|Calls prog 221 #[.agg #[.map io,.map co,.map lo]] w1 λe w'=>∃u i rs,e=.returned u/\(BN i/\(∀d,d∈i↔1<=nth d/\iP c L d)/\Runs i i.length rs)/\w'.ownsRow w.heap.size 250 3 u rs.length (dA rs)/\vJ w w.heap.size B l (λ_=>False) w' (.slice va vn vc)/\ah w' (w.heap.size+1) #[.map io,.map co,.map lo] 102/\aW prog 134 w' (.map io) N (im (itOf C)):=by refine ψ (I9 w1 io co lo c L (Nh.below al)) ?_;rintro e w'⟨u,i,rs,rfl,f,q,h3,h4,A⟩;have b6:=al.size;have a4:Below w.heap.size w w':=al.trans (A.mono b6);exact⟨u,i,rs,rfl,⟨f,q,h3⟩,own_base h4 b6,⟨kv.below A,own_below h a4,λh=>h,λ_ _ h=>h,aY.of_below a4,λ_ h=>h.elim,χ _⟩,ks.below A,bm.below a4⟩
 have s0:=(ks.cell 0).trans rfl;have s1:=(ks.cell 1).trans rfl;have s2:=(ks.cell 2).trans rfl;have b6:w.heap.size+1<w1.heap.size:=ks.lt;have jP:J<|∀k c,C k=some c->(c.act=43\/c.act=94\/c.act=61\/c.act=62)/\(-9223372036854775808<=c.n/\c.n<=9223372036854775807)/\c.path.length<=1048576/\(au c.act ⟨c.val.toArray⟩).size<=1048576/\(txtC c).length<=1000:=bk;have QK:J<|∀i:List Nat,i.Nodup->(∀d,d∈i↔1<=nth d/\iP c L d)->i.length<=505:=br;have c7:J<|∀wx,Calls prog 148 #[.agg #[.map io,.map co,.map lo]] wx _:=λwx=>zh wx io co lo;have bb:J<|∀k,C k≠none->okD k:=bt;have bc:J<|w1=(w.alloc (.cells #[.slice va vn vc] 93)).alloc (.cells #[.map io,.map co,.map lo] 102):=ai;clear hG h Nh bm bt br bk al kv ks ai;refine(callsIn_wide (n:=3)).1 ?_;refine callsIn_of_wp_marks func165 rfl trivial ?_ rfl;simp only[ntmps165,List.size_toArray,δ,List.length_nil,Nat.reduceAdd,Nat.reduceSub,Array.replicate_succ,Array.replicate_zero,List.push_toArray,List.append_toArray,List.nil_append,List.cons_append];gi_wp2_with fail;rw[<- bc.o];refine⟨trivial,(callsIn_wide.2 HR.o).mono ?_⟩;rintro e w2⟨u5,i,rs,rfl,af,ag,ae,bn,bo⟩;have bx:rs.length<=505:=ς af.2.2.len (QK.o i af.1.nodup af.2.1);have UW:J<|Calls prog 220 #[.slice va vn vc,.int .i64 rs.length] w2 _:=iY B w2 (.slice va vn vc) l rs.length ae.row (ς hB ae.fr.size) V V;have b0:=(ae.bk.cell 0).trans rfl;have f0:=ae.bk.frozen;obtain⟨ao,cap,cj,cv⟩:∃ao cap,u5=.slice ao rs.length cap/\rs.length<=cap:=by
  rcases ag.2 with⟨f,q⟩|⟨g,cap,a7,f,_,_,h4,_⟩
  .exact⟨none,0,by rw[f,q],V⟩
  .exact⟨_,cap,f,h4⟩
 subst cj;have HS:J<|w2.ownsRow w.heap.size 250 3 (.slice ao rs.length cap) rs.length (dA rs)/\vJ w w.heap.size B l (λ_=>False) w2 (.slice va vn vc)/\ah w2 (w.heap.size+1) #[.map io,.map co,.map lo] 102/\aW prog 134 w2 (.map io) N (im (itOf C)):=⟨ag,ae,bn,bo⟩;have Yw:J<|BN i/\(∀d,d∈i↔1<=nth d/\iP c L d)/\Runs i i.length rs:=af;clear af ag ae bn bo HR bc QK s0 s1 s2;gi_wp2_with fail;refine⟨trivial,(callsIn_wide.2 UW.o).mono ?_⟩;rintro e w3⟨v3,rfl,b5,an⟩;obtain⟨Xh,Yx,Yy,rfl⟩:=b5.shape;have c4:=HS.o.2.1.put (λ_ h=>h.elim) an b5;have bf:aY B w2 w3:=an.pI HS.o.2.1.row;have c3:ah w3 w.heap.size #[.slice va vn vc] 93:=an.blk HS.o.2.1.row HS.o.2.1.bk Ψ;have b3:=(c3.cell 0).trans rfl;have f3:=c3.frozen;have ba:J<|vJ w w.heap.size B (l++encN rs.length) (λ_=>False) (w3.setCell (z w.heap.size) (.slice Xh Yx Yy)) (.slice Xh Yx Yy):=c4;have ab:Chg (λk=>k=w.heap.size) w3 (w3.setCell (z w.heap.size) (.slice Xh Yx Yy)):=(Chg.refl (λk=>k=w.heap.size) w3).setCell (p:=(z w.heap.size)) rfl _;have UM:J<|gG w ao cap rs io co lo N C (w3.setCell (z w.heap.size) (.slice Xh Yx Yy)):=(gG.pI ⟨HS.o.1,HS.o.2.2.1,HS.o.2.2.2⟩ bf).TY c3 ab;clear c4 bf c3 an b5 ab HS UW;gi_wp2_with fail
 gi_loopg [18] rs.length (λg aq wx=>∃o:Nat,o+g=rs.length/\aq=.int .i64 o/\(∃a n k,vJ w w.heap.size B (l++encN rs.length++(rs.take o).flatMap encR) (λ_=>False) wx (.slice a n k))/\gG w ao cap rs io co lo N C wx)
 case atStart=>exact⟨0,V,rfl,⟨_,_,_,by simpa using ba.o⟩,UM.o⟩
 case round =>
  obtain⟨o,cw,rfl,⟨dd,xn,de,M⟩,a9⟩:=hrel;clear ba UM b3 f3;by_cases b1:o<rs.length
  .obtain⟨g,ce,bi,bj,aa⟩:=a9.at o b1;subst ce;have bw:=Yw.o.2.2.ok _ (κ b1);have bl:J<|(rs.take (o+1)).flatMap encR=(rs.take o).flatMap encR++encR rs[o]:=ω<|by rw[ν b1,List.flatMap_append,List.flatMap_singleton]
   have ad:J<|(l++encN rs.length++(rs.take o).flatMap encR).length<=20000:=qL l rs o hl bx;generalize rs[o]=T at *;obtain⟨d,m⟩:=T;simp only at bi bj aa bw;gi_wp2_with fail;have kr:ah (wr.alloc (.cells #[.int .i64 (who d),.int .i64 (nth d),.int .i64 m] 250)) wr.heap.size #[.int .i64 (who d),.int .i64 (nth d),.int .i64 m] 250:=ah.new wr _ _;have a4:Below wr.heap.size wr (wr.alloc (.cells #[.int .i64 (who d),.int .i64 (nth d),.int .i64 m] 250)):=(φ _ wr).alloc (χ _) _;generalize wr.alloc (.cells #[.int .i64 (who d),.int .i64 (nth d),.int .i64 m] 250)=w4 at *;have X:vJ w w.heap.size B (l++encN rs.length++(rs.take o).flatMap encR) (λ_=>False) w4 (.slice dd xn de):=M.je (Chg.of_below a4) (λ_ h=>h.elim);have c5:gG w (some (z g)) cap rs io co lo N C w4:=a9.pI (B:=B) (aY.of_below a4);have e0:=(kr.cell 0).trans rfl;have e1:=(kr.cell 1).trans rfl;have e2:=(kr.cell 2).trans rfl;have e3:=(X.bk.cell 0).trans rfl;have be:B<=w4.heap.size:=ς hB X.fr.size;obtain⟨lx,ac⟩:∃lx,lx=l++encN rs.length++(rs.take o).flatMap encR:=⟨_,rfl⟩;rw[<- ac]at X ad;have aw:=encN_len (who d);have ax:=encN_len (nth d);have b2:(lx++encD d).length<=30000:=by have:=ad.o;unfold encD;simp only[ρ];omega
   have HD:J<|∀wx,wx.heap=w4.heap->wx.os=w4.os->wx.tape=w4.tape->wx.output=w4.output->Calls prog 222 #[.slice dd xn de,.agg #[.int .i64 (who d),.int .i64 (nth d)]] wx λe w'=>∃a n k,e=.returned (.slice a n k)/\(aH B w' (.slice a n k) (lx++encD d)/\bG (.slice dd xn de) w4 (.slice a n k) w')/\w'.cell? (O wr.heap.size 2)=some (.int .i64 m)/\w'.cell? (z w.heap.size)=some (.slice dd xn de)/\(∀j,w'.frozen? (O w.heap.size j)=false):=λwx df R E S=>by have r:bG (.slice dd xn de) w4 (.slice dd xn de) wx:=bG.heap df R E S;refine ψ (BU B wx (.slice dd xn de) lx d (X.row.heap df) (ς be r.chg.size) (by have:=ad.o;omega) bw.1.1) ?_;rintro e w'⟨v',rfl,f,q⟩;obtain⟨a,n,k,rfl⟩:=f.shape;have dg:=r.trans q;have cq:=dg.blk X.row kr Ψ;have dk:=dg.blk X.row X.bk Ψ;exact⟨a,n,k,rfl,⟨f,dg⟩,(cq.cell 2).trans rfl,(dk.cell 0).trans rfl,dk.frozen⟩
   have HM:J<|∀wx w5 a n k,(aH B w5 (.slice a n k) (lx++encD d)/\bG (.slice dd xn de) w4 (.slice a n k) w5)->wx.heap=w5.heap->wx.os=w5.os->wx.tape=w5.tape->wx.output=w5.output->Calls prog 220 #[.slice a n k,.int .i64 m] wx λe w'=>∃di y x,e=.returned (.slice di y x)/\(aH B w' (.slice di y x) (lx++encD d++encN m)/\bG (.slice dd xn de) w4 (.slice di y x) w')/\w'.cell? (z w.heap.size)=some (.slice dd xn de)/\(∀j,w'.frozen? (O w.heap.size j)=false):=λwx w5 a n k A df R E S=>by have r:=A.2.trans (bG.heap df R E S);refine ψ (iY B wx (.slice a n k) (lx++encD d) m (A.1.heap df) (ς be r.chg.size) V V) ?_;rintro e w'⟨v',rfl,f,q⟩;obtain⟨di,y,x,rfl⟩:=f.shape;have dg:=r.trans q;have dk:=dg.blk X.row X.bk Ψ;exact⟨di,y,x,rfl,⟨f,dg⟩,(dk.cell 0).trans rfl,dk.frozen⟩
   have UZ:J<|vJ w w.heap.size B lx (λ_=>False) w4 (.slice dd xn de)/\gG w (some (z g)) cap rs io co lo N C w4:=⟨X,c5⟩;have ca:J<|lx++encD d++encN m=l++encN rs.length++(rs.take (o+1)).flatMap encR:=ω<|by rw[bl.o,ac];unfold encR;simp only[List.append_assoc]
   clear M a9 X c5 kr a4 bi bj aa ac ad bl aw ax b2;refine yh (λK hK=>?_)
   gi_cut [18]from 45 (λaq wx=>aq=.int .i64 o/\(∃a n k,vJ w w.heap.size B (l++encN rs.length++(rs.take (o+1)).flatMap encR) (λ_=>False) wx (.slice a n k))/\gG w (some (z g)) cap rs io co lo N C wx)
   case first =>
    gi_region_with (first|(refine⟨trivial,CallsIn.mono (callsIn_wide.2 (HM.o _ w5 _ _ _ A rfl rfl rfl rfl)) ?_⟩;rintro e Z⟨a6,n6,k6,rfl,dj,g0,g1⟩)|(refine⟨trivial,CallsIn.mono (callsIn_wide.2 (HD.o _ rfl rfl rfl rfl)) ?_⟩;rintro e w5⟨a5,n5,k5,rfl,A,f0,f1,f2⟩))
    all_goals
     gi_wp2_with fail
     gi_meet
     refine⟨rfl,⟨a6,n6,k6, ?_⟩, ?_⟩
     .rw[<- ca.o];exact UZ.o.1.put (λ_ h=>h.elim) dj.2 dj.1
     .exact(UZ.o.2.pI (dj.2.pI UZ.o.1.row)).TY (dj.2.blk UZ.o.1.row UZ.o.1.bk Ψ) ((Chg.refl (λk=>k=w.heap.size) _).setCell (p:=(z w.heap.size)) rfl _)
   case rest =>
    obtain⟨rfl,aj,ak⟩:=hcut;have HC:J<|(∃a n k,vJ w w.heap.size B (l++encN rs.length++(rs.take (o+1)).flatMap encR) (λ_=>False) wc (.slice a n k))/\gG w (some (z g)) cap rs io co lo N C wc:=⟨aj,ak⟩;clear aj ak UZ HD HM;refine hK _ _ ?_;gi_wp2_with fail
    gi_roundg (rs.length-(o+1))
    case measure=>omega
    case rel=>exact⟨o+1,V,Λ,HC.o.1,HC.o.2⟩
  .have e:o=rs.length:=V
   subst e;rw[List.take_length]at M;have ad:(l++encN rs.length++rs.flatMap encR).length<=20000:=by have:=qL l rs rs.length hl bx;rwa [List.take_length]at this
   obtain⟨lx,ac⟩:∃lx,lx=l++encN rs.length++rs.flatMap encR:=⟨_,rfl⟩;rw[<- ac]at M ad;have c8:J<|lx=l++encN rs.length++rs.flatMap encR:=ac;have e0:=(a9.st.cell 0).trans rfl;have e1:=(a9.st.cell 1).trans rfl;have e2:=(a9.st.cell 2).trans rfl;have e3:=(M.bk.cell 0).trans rfl;have cb:B<=wr.heap.size:=ς hB M.fr.size;have HI:J<|∀wx,wx.heap=wr.heap->wx.os=wr.os->wx.tape=wr.tape->wx.output=wr.output->Calls prog 223 #[.agg #[.map io,.map co,.map lo]] wx λe w'=>e=.returned (.int .i64 N)/\(aH B w' (.slice dd xn de) lx/\bG (.slice dd xn de) wr (.slice dd xn de) w')/\w'.cell? (z w.heap.size)=some (.slice dd xn de)/\(∀j,w'.frozen? (O w.heap.size j)=false):=λwx df R E S=>by have r:bG (.slice dd xn de) wr (.slice dd xn de) wx:=bG.heap df R E S;refine ψ (Fe wx io co lo N (im (itOf C)) (a9.mp.pI (r.pI M.row))) ?_;rintro e w'⟨rfl,hb⟩;have dg:=r.trans (bG.of_below hb);have dk:=dg.blk M.row M.bk Ψ;exact⟨rfl,⟨own_below (M.row.heap df) hb,dg⟩,(dk.cell 0).trans rfl,dk.frozen⟩
   have HM:J<|∀wx w5,(aH B w5 (.slice dd xn de) lx/\bG (.slice dd xn de) wr (.slice dd xn de) w5)->wx.heap=w5.heap->wx.os=w5.os->wx.tape=w5.tape->wx.output=w5.output->Calls prog 220 #[.slice dd xn de,.int .i64 N] wx λe w'=>∃di y x,e=.returned (.slice di y x)/\(aH B w' (.slice di y x) (lx++encN N)/\bG (.slice dd xn de) wr (.slice di y x) w')/\w'.cell? (z w.heap.size)=some (.slice dd xn de)/\(∀j,w'.frozen? (O w.heap.size j)=false):=λwx w5 A df R E S=>by have r:=A.2.trans (bG.heap df R E S);have ag:aH B wx (.slice dd xn de) lx:=A.1.heap df;refine ψ (iY B wx (.slice dd xn de) lx N ag (ς cb r.chg.size) V V) ?_;rintro e w'⟨v',rfl,f,q⟩;obtain⟨di,y,x,rfl⟩:=f.shape;have dg:=r.trans q;have dk:=dg.blk M.row M.bk Ψ;exact⟨di,y,x,rfl,⟨f,dg⟩,(dk.cell 0).trans rfl,dk.frozen⟩
   have HW:J<|vJ w w.heap.size B lx (λ_=>False) wr (.slice dd xn de)/\gG w ao cap rs io co lo N C wr:=⟨M,a9⟩;clear M a9 ac;gi_wp2_with fail;refine yh (λK hK=>?_)
   gi_cut [18]from 45 (λaq wx=>(∃a n k,vJ w w.heap.size B (lx++encN N) (λ_=>False) wx (.slice a n k))/\gG w ao cap rs io co lo N C wx)
   case first =>
    gi_region_with (first|(refine⟨trivial,CallsIn.mono (callsIn_wide.2 (HM.o _ w5 A rfl rfl rfl rfl)) ?_⟩;rintro e Z⟨a6,n6,k6,rfl,dj,g0,g1⟩)|(refine⟨trivial,CallsIn.mono (callsIn_wide.2 (HI.o _ rfl rfl rfl rfl)) ?_⟩;rintro e w5⟨rfl,A,f0,f1⟩))
    all_goals
     gi_wp2_with fail
     gi_meet
     refine⟨⟨a6,n6,k6, ?_⟩, ?_⟩
     .exact HW.o.1.put (λ_ h=>h.elim) dj.2 dj.1
     .exact(HW.o.2.pI (dj.2.pI HW.o.1.row)).TY (dj.2.blk HW.o.1.row HW.o.1.bk Ψ) ((Chg.refl (λk=>k=w.heap.size) _).setCell (p:=(z w.heap.size)) rfl _)
   case rest =>
    obtain⟨⟨ya,yn,yc,aj⟩,ak⟩:=hcut;have HC:J<|vJ w w.heap.size B (lx++encN N) (λ_=>False) wc (.slice ya yn yc)/\gG w ao cap rs io co lo N C wc:=⟨aj,ak⟩;clear aj ak HW HI HM e0 e1 e2 e3;refine hK _ _ ?_;have e0:=(HC.o.2.st.cell 0).trans rfl;have e1:=(HC.o.2.st.cell 1).trans rfl;have e2:=(HC.o.2.st.cell 2).trans rfl;gi_wp2_with fail;refine⟨trivial,(callsIn_wide.2 (c7.o _)).mono ?_⟩;rintro e w4⟨rfl,rfl⟩;gi_wp2_with fail;have a4:Below wc.heap.size wc (wc.alloc (.cells #[.map io,.map co,.map lo] 102)):=(φ _ wc).alloc (χ _) _;have ks:ah (wc.alloc (.cells #[.map io,.map co,.map lo] 102)) wc.heap.size #[.map io,.map co,.map lo] 102:=ah.new wc _ _;generalize wc.alloc (.cells #[.map io,.map co,.map lo] 102)=w5 at *;have b7:vJ w w.heap.size B (lx++encN N) (λ_=>False) w5 (.slice ya yn yc):=HC.o.1.je (Chg.of_below a4) (λ_ h=>h.elim);have Jq:=HC.o.2.mp.below a4;have ar:Iter prog 202 #[.pointer (some (z wc.heap.size))] (λT:dV=>#[aA T.n,Value.agg #[.string T.p,.int .u8 T.a,.string T.v,.int .i64 T.m]]) (gY (itOf C)) (λk=>k=wc.heap.size\/io=some k) w5:=qF w5 wc.heap.size io co lo (itOf C) N ks Jq (λk dc=>bb.o k (itOf_none.1 dc)) (λk v h=>gK h);have zK:∀k,io=some k->k<wc.heap.size:=λk dc=>by
     rcases HC.o.2.mp with⟨f,_⟩|⟨b,f,q⟩
     .rw[dc]at f;cases f
     .rw[dc]at f;cases f;exact q.lt
    have c1:wc.heap.size<w5.heap.size:=ks.lt;refine dP (gf:=202) (lb:=#[.pointer (some (z wc.heap.size))]) rfl (enters_of func202 (by kernel_rfl) rfl) ar (aK.refl _ _) (λk dc=>by rcases dc with rfl|dc;exact c1;have:=zK k dc;omega) (λ_=>rfl)
     (λU Y W=>∃a n k,vJ w w.heap.size B (lx++encN N++(mF C Y).flatMap encI) U W (.slice a n k)) (λ_ _ _ _=>False)
     (λU T' Y W W' h hc hT=>by obtain⟨a,n,k,h⟩:=h;exact⟨a,n,k,h.je hc hT⟩) (λ_ _ _ _ _ _ h _ _=>h)
     ⟨_,_,_,by simpa[mF]using b7⟩ ?round ?done ?stop
    case round =>
     rintro lr U Y T W ct hT⟨F,H,G,hW⟩ Bv ⟨ys,c6,bv⟩;have cp:T∈ys:=bv.subset Ω;obtain⟨db,ab,zi⟩:=itOf_v (c6.2 T cp);obtain⟨bh,bp,bu,c2,ci⟩:=jP.o _ _ ab;have Am:J<|(mF C (Y++[T])).flatMap encI=(mF C Y).flatMap encI++encI (T.n,txtC db):=by unfold J mF;simp[ab]
     have cy:Y.length<=505:=by have f:=sJ Jq c6;have q:=bv.length_le;rw[ρ]at q;omega
     have ch:(lx++encN N++(mF C Y).flatMap encI).length<=600000:=by have f:=mG C (λk c hc=>(jP.o k c hc).2.2.2.2) Y;have q:=encN_len N;simp only[ρ];omega
     obtain⟨xn,xp,da,xv,xm⟩:=T;simp only[chV,Value.agg.injEq]at zi;simp at zi;obtain⟨rfl,rfl,rfl,rfl⟩:=zi;simp only at ab Am;have cn:okD xn:=bb.o xn (by rw[ab];simp);gi_wp2;have cz:wc.heap.size<W.heap.size:=by have:=Bv.1;omega
     refine⟨⟨Θ,λk dc=>?_⟩, ?_⟩
     .refine(((φ W.heap.size W).alloc (χ _) _).alloc Ω _).block k (dc.elim (λh=>?_) (λh=>(hT k h).2));rcases h with rfl|h
      .omega
      .have:=zK k h;omega
     intro W2 aa bz hE2;have av:∀k,U k->k<W2.heap.size:=λk dc=>by rw[bz];have:=(hT k dc).2;simp;omega
     have Xi:Chg U W W2:=(Chg.of_below ((((φ W.heap.size W).alloc (χ _) _).alloc Ω _))).trans aa;have Q:=hW.je Xi (λk dc=>⟨τ dc,av k dc⟩);have kd:ah W2 W.heap.size #[.int .i64 (who xn),.int .i64 (nth xn)] 134:=((ah.new W _ _).alloc _).chg aa (λdc=>by have:=(hT _ dc).2;omega);have ke:ah W2 (W.heap.size+1) #[.string ⟨db.path.toArray⟩,.int .u8 (db.act.toNat:Int),.string (au db.act ⟨db.val.toArray⟩),.int .i64 db.n] 86:=by have:=ah.new (W.alloc (.cells #[.int .i64 (who xn),.int .i64 (nth xn)] 134)) #[.string ⟨db.path.toArray⟩,.int .u8 (db.act.toNat:Int),.string (au db.act ⟨db.val.toArray⟩),.int .i64 db.n] 86;rw[ϊ]at this;exact this.chg aa (λdc=>by have:=(hT _ dc).2;omega)
     obtain⟨P,b4⟩:∃P,P=lx++encN N++(mF C Y).flatMap encI:=⟨_,rfl⟩;rw[<- b4]at ch Q;have bd:B<=W2.heap.size:=ς hB Q.fr.size;have d0:=(kd.cell 0).trans rfl;have d1:=(kd.cell 1).trans rfl;have a0:=(ke.cell 0).trans rfl;have a1:=(ke.cell 1).trans rfl;have a2:=(ke.cell 2).trans rfl;have a3:=(ke.cell 3).trans rfl;have c0:=(Q.bk.cell 0).trans rfl;have aw:=encN_len (who xn);have ax:=encN_len (nth xn);have b2:(P++encD xn).length<=700000:=by unfold encD;simp only[ρ];omega
     have HD:J<|∀wx,wx.heap=W2.heap->wx.os=W2.os->wx.tape=W2.tape->wx.output=W2.output->Calls prog 222 #[.slice F H G,.agg #[.int .i64 (who xn),.int .i64 (nth xn)]] wx λe w'=>∃a n k,e=.returned (.slice a n k)/\(aH B w' (.slice a n k) (P++encD xn)/\bG (.slice F H G) W2 (.slice a n k) w')/\w'.cell? (z (W.heap.size+1))=some (.string ⟨db.path.toArray⟩)/\w'.cell? (O (W.heap.size+1) 1)=some (.int .u8 (db.act.toNat:Int))/\w'.cell? (O (W.heap.size+1) 2)=some (.string (au db.act ⟨db.val.toArray⟩))/\w'.cell? (O (W.heap.size+1) 3)=some (.int .i64 db.n):=λwx df R E S=>by have r:bG (.slice F H G) W2 (.slice F H G) wx:=bG.heap df R E S;refine ψ (BU B wx (.slice F H G) P xn (Q.row.heap df) (ς bd r.chg.size) V cn.1) ?_;rintro e w'⟨v',rfl,f,q⟩;obtain⟨a,n,k,rfl⟩:=f.shape;have dg:=r.trans q;have ap:=dg.blk Q.row ke Ψ;exact⟨a,n,k,rfl,⟨f,dg⟩,(ap.cell 0).trans rfl,(ap.cell 1).trans rfl,(ap.cell 2).trans rfl,(ap.cell 3).trans rfl⟩
     have HX:J<|∀wx w5 a n k,(aH B w5 (.slice a n k) (P++encD xn)/\bG (.slice F H G) W2 (.slice a n k) w5)->wx.heap=w5.heap->wx.os=w5.os->wx.tape=w5.tape->wx.output=w5.output->Calls prog 225 #[.agg #[.string ⟨db.path.toArray⟩,.int .u8 (db.act.toNat:Int),.string (au db.act ⟨db.val.toArray⟩),.int .i64 db.n]] wx λe w'=>∃s,e=.returned (.string s)/\(toL s=txtC db/\aH B w' (.slice a n k) (P++encD xn)/\bG (.slice F H G) W2 (.slice a n k) w'):=λwx w5 a n k A df R E S=>by have r:=A.2.trans (bG.heap df R E S);have cc:=HG.o wx (Q.fr.trans (r.pI Q.row));refine ψ (LX wx cc ⟨db.path.toArray⟩ (au db.act ⟨db.val.toArray⟩) db.act db.n bh bp (by show db.path.toArray.size<=_;simpa using bu) c2) ?_;rintro e w'⟨sx,rfl,f,hb⟩;exact⟨sx,rfl,f,own_below (A.1.heap df) hb,r.trans (bG.of_below hb)⟩
     have HY:J<|∀wx Z a n k sx,(toL sx=txtC db/\aH B Z (.slice a n k) (P++encD xn)/\bG (.slice F H G) W2 (.slice a n k) Z)->wx.heap=Z.heap->wx.os=Z.os->wx.tape=Z.tape->wx.output=Z.output->Calls prog 224 #[.slice a n k,.string sx] wx λe w'=>∃di y x,e=.returned (.slice di y x)/\(aH B w' (.slice di y x) (P++encI (xn,txtC db))/\bG (.slice F H G) W2 (.slice di y x) w')/\w'.cell? (z w.heap.size)=some (.slice F H G)/\(∀j,w'.frozen? (O w.heap.size j)=false):=λwx Z a n k sx dj df R E S=>by
      have r:=dj.2.2.trans (bG.heap df R E S);have cg:sx.size=(txtC db).length:=by rw[<- dj.1];unfold toL;simp
      refine ψ (Ja B wx (.slice a n k) (P++encD xn) sx (dj.2.1.heap df) (ς bd r.chg.size) V V) ?_;rintro e w'⟨v',rfl,f,q⟩;obtain⟨di,y,x,rfl⟩:=f.shape;have dg:=r.trans q;have dk:=dg.blk Q.row Q.bk Ψ;have he:P++encD xn++encN sx.size++toL sx=P++encI (xn,txtC db):=by unfold encI;rw[cg,dj.1];simp only[List.append_assoc]
      rw[he]at f;exact⟨di,y,x,rfl,⟨f,dg⟩,(dk.cell 0).trans rfl,dk.frozen⟩
     have HE:J<|∀k,(k=wc.heap.size\/io=some k)->k<W2.heap.size/\k≠w.heap.size/\(Value.slice F H G).ownBlock≠some k:=λk dc=>by
      have cf:k<w5.heap.size:=by rcases dc with rfl|h;exact c1;have:=zK k h;omega
      have e1:W2.heap[k]?=w5.heap[k]?:=hE2.2 k dc;have bs:∀t,(∀a7 fz,w5.heap[k]?≠some (.cells a7 t fz))->∀a7 fz,W2.heap[k]?≠some (.cells a7 t fz):=λt h a7 fz e=>h a7 fz (e1▸e);have bq:∀t,t≠102->∀a7 fz,w5.heap[k]?≠some (.cells a7 t fz):=λt E a7 fz e=>by
       rcases dc with rfl|h
       .rw[show w5.heap[wc.heap.size]?=_ from ks]at e;cases e;exact E rfl
       .rcases Jq with⟨f,_⟩|⟨b,f,q⟩
        .rw[h]at f;cases f
        .rw[h]at f;cases f;exact q.jH e
      refine⟨ο cf hE2.1,λe=>?_,ownsRow_ne Q.row (bs _ (bq _ Ψ))⟩;have:=bs _ (bq 93 Ψ) _ _ (e▸Q.bk);exact this
     have b9:J<|vJ w w.heap.size B P U W2 (.slice F H G):=Q;have c9:J<|P++encI (xn,txtC db)=lx++encN N++(mF C (Y++[⟨xn,⟨db.path.toArray⟩,db.act.toNat,au db.act ⟨db.val.toArray⟩,db.n⟩])).flatMap encI:=ω<|by rw[Am.o,b4];simp only[List.append_assoc]
     have b8:J<|∀k,U k->k<W2.heap.size:=av;clear hW Q kd ke Xi aa bz hE2 Bv b4 hT bh bp bu c2 ci aw ax b2 ar b7 Jq av;gi_wp2_with fail
     gi_region_with (first|(refine⟨trivial,CallsIn.inRound lr (CallsIn.mono (callsIn_wide.2 (HY.o _ w7 _ _ _ _ h7 rfl rfl rfl rfl)) ?_)⟩;rintro e w8⟨a8,n8,k8,rfl,h8,g0,g1⟩)|(refine⟨trivial,CallsIn.inRound lr (CallsIn.mono (callsIn_wide.2 (HX.o _ Z _ _ _ dj rfl rfl rfl rfl)) ?_)⟩;rintro e w7⟨s7,rfl,h7⟩)|(refine⟨trivial,CallsIn.inRound lr (CallsIn.mono (callsIn_wide.2 (HD.o _ rfl rfl rfl rfl)) ?_)⟩;rintro e Z⟨a6,n6,k6,rfl,dj,f0,f1,f2,f3⟩))
     all_goals
      gi_wp2_with fail;refine⟨⟨a8,n8,k8, ?_⟩, ?_⟩
      .rw[<- c9.o];exact b9.o.put b8.o h8.2 h8.1
      .exact b9.o.keep b8.o HE.o h8.2 h8.1
    case done =>
     rintro D U xs W hD sG bg⟨F,H,G,hW⟩ hT cd;have cl:xs.length=N:=sJ Jq bg;have c0:=(hW.bk.cell 0).trans rfl;have HW:J<|vJ w w.heap.size B (lx++encN N++(mF C xs).flatMap encI) U W (.slice F H G):=hW;clear hW ar b7 Jq;gi_wp2_with fail;refine⟨Ω,.inl ⟨_,_,rfl,run_takeDeferred cd, ?_⟩⟩;have az:=HW.o.je (T':=U) (bJ W D (.deferred none) sG) (λk dc=>⟨τ dc,by rw[aV];exact(hT k dc).2⟩);have he:lx++encN N++(mF C xs).flatMap encI=l++encS rs (mF C xs):=by
      have ck:(mF C xs).length=N:=by unfold mF;rw[List.length_map];exact cl
      unfold encS;rw[ck,c8.o];simp only[List.append_assoc]
     rw[he]at az;exact⟨_,results_tmp rfl _ _ _,.slice F H G,i,rs,xs,rfl,Yw.o.1,Yw.o.2.1,Yw.o.2.2,bg,az.row,az.fr⟩
    case stop =>rintro D U c Y W _ _ h;exact h.elim
