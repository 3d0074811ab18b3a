import Derived.Test.YtfmmllpjgkgeaaaGreatDoorPartV20
set_option linter.unusedVariables false
set_option linter.unusedSimpArgs false
set_option maxHeartbeats 16000000
set_option maxRecDepth 100000
namespace Go.Proofs.YtfmmllpjgkgeaaaGreatDoor
open Go.RowKit Go.Maps Go.WideMaps Go.Shelf

attribute [local go_sem] Oper.semAt_some
theorem MapO.outF {B:Nat} {w w':World} {io:Option Nat} {N:Nat} {m:Value->Option Value} (h:MapO Tryz.prog 134 w (.map io) N m) (hF:OutF B w w'):MapO Tryz.prog 134 w' (.map io) N m:=by
 rcases h with h | ⟨b,h1,h2⟩
 ·exact Or.inl h
 ·exact Or.inr ⟨b,h1,h2.block (hF.block b h2.lt (fun hm=>by obtain ⟨_,cs,fz,e⟩:=hm;exact h2.noTag e))⟩
theorem ownsRow_outF {B base:Nat} {w w':World} {e:TypeId} {size:Nat} {v:Value} {n:Nat} {xs:List Value} (h:w.ownsRow base e size v n xs) (hF:OutF B w w') (he:e≠5):w'.ownsRow base e size v n xs:=by
 refine ownsRow_chg h hF (fun g hg hm=>?_)
 obtain ⟨_,cs,fz,e2⟩:=hm
 rcases h.2 with ⟨rfl,_⟩ | ⟨g',cap,cur,rfl,_,h3,_⟩
 ·cases hg
 ·cases hg
  rw[h3] at e2
  cases e2
  exact he rfl

theorem all_len {w:World} {v:Value} {N:Nat} {It:Nat->Option Value} {xs:List Itm} (h:MapO Tryz.prog 134 w v N (im It)) (hx:SAll It xs):xs.length=N:=by
 obtain ⟨ns,h1,h2,h3⟩:=im_count h
 have hn:(xs.map Itm.n).Nodup:=hx.1.1
 have hp:(xs.map Itm.n).Perm ns:=(List.perm_ext_iff_of_nodup hn h1).2 (fun n=>(hx.1.2 n).trans (h3 n).symm)
 have:=hp.length_eq
 rw[List.length_map,h2] at this
 exact this
theorem items_small (C:Nat->Option Thk.Ch) (h:∀ k c,C k=some c->(txtC c).length<=1000):∀ pre:List Itm,((wIt C pre).flatMap encI).length<=pre.length*1006
 | []=>by simp[wIt]
 | x :: pre=>by
  have ih:=items_small C h pre
  unfold wIt at ih ⊢
  rw[List.map_cons,List.flatMap_cons,List.length_append,List.length_cons]
  have a1:=encN_len (who x.n)
  have a2:=encN_len (nth x.n)
  have h6:∀ t:Thk.Bs,t.length<=1000->(encI (x.n,t)).length<=1006:=fun t ht=>by
   have a3:=encN_len t.length
   unfold encI encD;simp only[List.length_append];omega
  refine Nat.le_trans (Nat.add_le_add (h6 _ ?_) ih) (by omega)
  cases hc:C x.n with
  | none=>simp
  | some c=>exact h _ _ hc
theorem wpIn_norm {F:Fence} {n:Nat} {P:Program} {s:Code} {Q:Exit->Act->World->Prop} {a:Act} {w:World} (h:∀ K:Act->World->Prop,(∀ a w,Q .normal a w->K a w)->s.wpIn F n P (Exit.then K (fun _ _ _=>False)) a w):s.wpIn F n P Q a w:=by
 refine wpIn_mono (h (fun a w=>Q .normal a w) (fun _ _ h=>h)) ?_
 intro e a w hq
 cases e with
 | normal=>exact hq
 | exit id=>exact False.elim hq
 | goto l=>exact False.elim hq
 | ret=>exact False.elim hq
 | panic ch=>exact False.elim hq
 | outgrown=>exact False.elim hq
structure RowsX (w:World) (ao:Option Addr) (cap:Nat) (rs:List (Nat × Nat)) (io co lo:Option Nat) (N:Nat) (C:Nat->Option Thk.Ch) (wx:World):Prop where
 row:wx.ownsRow w.heap.size 250 3 (.slice ao rs.length cap) rs.length (rcells rs)
 st:Blk wx (w.heap.size+1) #[.map io,.map co,.map lo] 102
 mp:MapO Tryz.prog 134 wx (.map io) N (im (itOf C))
theorem RowsX.outF {w:World} {ao:Option Addr} {cap:Nat} {rs:List (Nat × Nat)} {io co lo:Option Nat} {N:Nat} {C:Nat->Option Thk.Ch} {wx wy:World} {B:Nat} (h:RowsX w ao cap rs io co lo N C wx) (hF:OutF B wx wy):RowsX w ao cap rs io co lo N C wy :=
 ⟨ownsRow_outF h.row hF (by decide),hF.blk h.st (by decide),h.mp.outF hF⟩
theorem RowsX.chg0 {w:World} {ao:Option Addr} {cap:Nat} {rs:List (Nat × Nat)} {io co lo:Option Nat} {N:Nat} {C:Nat->Option Thk.Ch} {wx wy:World} {v:Value} {b:Nat} (h:RowsX w ao cap rs io co lo N C wx) (hb:Blk wx b #[v] 93) (hc:Chg (fun k=>k=b) wx wy):RowsX w ao cap rs io co lo N C wy:=by
 have hn:∀ k,(∀ cur fz,wx.heap[k]?≠some (.cells cur 93 fz))->k≠b:=fun k hk e=>hk _ _ (e ▸ hb)
 refine ⟨ownsRow_chg h.row hc (fun g hg=>?_),h.st.chg hc (hn _ (fun cur fz e=>?_)), ?_⟩
 ·intro e
  exact ownsRow_ne h.row (fun cur fz e2=>by rw[show wx.heap[b]? = _ from hb] at e2;cases e2) (e ▸ hg)
 ·rw[show wx.heap[w.heap.size+1]? = _ from h.st] at e;cases e
 ·rcases h.mp with h1 | ⟨k,h1,h2⟩
  ·exact Or.inl h1
  ·exact Or.inr ⟨k,h1,h2.block (hc.block k h2.lt (hn k (fun cur fz e=>h2.noTag e)))⟩
theorem RowsX.at {w:World} {ao:Option Addr} {cap:Nat} {rs:List (Nat × Nat)} {io co lo:Option Nat} {N:Nat} {C:Nat->Option Thk.Ch} {wx:World} (h:RowsX w ao cap rs io co lo N C wx) (i:Nat) (hi:i<rs.length):∃ g,ao=some ⟨g,0,none⟩/\wx.cell? ⟨g,i*3,none⟩=some (.int .i64 (who rs[i].1:Int))/\wx.cell? ⟨g,i*3+1,none⟩=some (.int .i64 (nth rs[i].1:Int))/\wx.cell? ⟨g,i*3+2,none⟩=some (.int .i64 (rs[i].2:Int)):=by
 have hcl:=fun g (hg:(Value.slice ao rs.length cap).ownBlock=some g)=>h.row.cells hg
 rcases h.row.2 with ⟨h1,h2⟩ | ⟨g,cap',cur,h1,_⟩
 ·omega
 ·cases h1
  have hg:=rcells_get rs i hi
  have a1:=hcl g rfl _ _ hg.1
  have a2:=hcl g rfl _ _ hg.2.1
  have a3:=hcl g rfl _ _ hg.2.2
  rw[addr0] at a1 a2 a3
  exact ⟨g,rfl,a1,a2,a3⟩
theorem enc_small (l:Thk.Bs) (rs:List (Nat × Nat)) (i:Nat) (hl:l.length<=100) (hr:rs.length<=505):(l ++ encN rs.length ++ (rs.take i).flatMap encR).length<=20000:=by
 have h1:=encN_len rs.length
 have h2:∀ ys:List (Nat × Nat),(ys.flatMap encR).length<=ys.length*6:=by
  intro ys
  induction ys with
  | nil=>simp
  | cons y ys ih =>
   rw[List.flatMap_cons,List.length_append,List.length_cons]
   have a1:=encN_len (who y.1)
   have a2:=encN_len (nth y.1)
   have a3:=encN_len y.2
   have:(encR y).length<=6:=by unfold encR encD;simp only[List.length_append];omega
   omega
 have h3:=h2 (rs.take i)
 have h4:(rs.take i).length<=rs.length:=by rw[List.length_take];omega
 simp only[List.length_append]
 omega
theorem OutV.shape {B:Nat} {w:World} {v:Value} {l:Thk.Bs} (h:OutV B w v l):∃ ao n cap,v=.slice ao n cap:=by
 rcases h.2 with ⟨h1,h2⟩ | ⟨g,cap,cur,h1,_,_,h4,_⟩
 ·exact ⟨_,_,_,h1⟩
 ·exact ⟨_,_,_,h1⟩

theorem wStore_any (w:World) (hG:Glob w) (B:Nat) (hB3:3<B) (v:Value) (l:Thk.Bs) (h:OutV B w v l) (hB:B<=w.heap.size) (hl:l.length<=100) (io co lo:Option Nat) (c:Nat->Nat) (L:Nat->Bool) (C:Nat->Option Thk.Ch) (N:Nat)
  (hctx:CtxV w (.map co) (.map lo) c L) (hits:MapO Tryz.prog 134 w (.map io) N (im (itOf C))) (hok:∀ k,C k≠none->okD k) (hN:N<=505)
  (hns:∀ ns:List Nat,ns.Nodup->(∀ d,d∈ns↔1<=nth d/\inK c L d)->ns.length<=505)
  (hch:∀ k c,C k=some c->(c.act=43\/c.act=94\/c.act=61\/c.act=62)/\(-9223372036854775808<=c.n/\c.n<=9223372036854775807)/\c.path.length<=1048576/\(keptVal c.act ⟨c.val.toArray⟩).size<=1048576/\(txtC c).length<=1000) :
  Calls Tryz.prog 165 #[v,.agg #[.map io,.map co,.map lo]] w fun e w'=>∃ v' ns rs xs,e=.returned v'/\ns.Nodup/\(∀ d,d∈ns↔1<=nth d/\inK c L d)/\Runs ns ns.length rs/\SAll (itOf C) xs/\OutV B w' v' (l ++ encS rs (wIt C xs))/\OutF B w w':=by
 have h3w:=hG.size
 obtain ⟨va,vn,vc,rfl⟩:=h.shape
 have HG:Hid (∀ wx,OutF B w wx->Glob wx):=fun wx hF=>hG.chg hF (fun k hk=>by have:=hk.1;omega)
 obtain ⟨w1,hw1⟩:∃ w1,w1=(w.alloc (.cells #[.slice va vn vc] 93)).alloc (.cells #[.map io,.map co,.map lo] 102):=⟨_,rfl⟩
 have hb1:Below w.heap.size w w1:=by rw[hw1];exact ((Below.refl _ w).alloc (Nat.le_refl _) _).alloc (by simp) _
 have kv:Blk w1 w.heap.size #[.slice va vn vc] 93:=by rw[hw1];exact (Blk.new w _ _).alloc _
 have ks:Blk w1 (w.heap.size+1) #[.map io,.map co,.map lo] 102:=by
  have:=Blk.new (w.alloc (.cells #[.slice va vn vc] 93)) #[.map io,.map co,.map lo] 102
  rw[World.size_alloc] at this
  rw[hw1];exact this
 have HR:Hid (Calls Tryz.prog 221 #[.agg #[.map io,.map co,.map lo]] w1 fun e w'=>∃ u ns rs,e=.returned u/\(ns.Nodup/\(∀ d,d∈ns↔1<=nth d/\inK c L d)/\Runs ns ns.length rs)/\w'.ownsRow w.heap.size 250 3 u rs.length (rcells rs)/\WrV w w.heap.size B l (fun _=>False) w' (.slice va vn vc)/\Blk w' (w.heap.size+1) #[.map io,.map co,.map lo] 102/\MapO Tryz.prog 134 w' (.map io) N (im (itOf C))):=by
  refine Calls.mono (sRuns_any w1 io co lo c L (hctx.below hb1)) ?_
  rintro e w' ⟨u,ns,rs,rfl,h1,h2,h3,h4,h5⟩
  have hs1:=hb1.size
  have hbw:Below w.heap.size w w':=hb1.trans (h5.mono hs1)
  exact ⟨u,ns,rs,rfl,⟨h1,h2,h3⟩,own_base h4 hs1,⟨kv.below h5,own_below h hbw,fun h=>h,fun _ _ h=>h,OutF.of_below hbw,fun _ h=>h.elim,Nat.le_refl _⟩,ks.below h5,hits.below hbw⟩
 have s0:=(ks.cell 0).trans rfl
 have s1:=(ks.cell 1).trans rfl
 have s2:=(ks.cell 2).trans rfl
 have hs1:w.heap.size+1<w1.heap.size:=ks.lt
 have Hch:Hid (∀ k c,C k=some c->(c.act=43\/c.act=94\/c.act=61\/c.act=62)/\(-9223372036854775808<=c.n/\c.n<=9223372036854775807)/\c.path.length<=1048576/\(keptVal c.act ⟨c.val.toArray⟩).size<=1048576/\(txtC c).length<=1000):=hch
 have Hns:Hid (∀ ns:List Nat,ns.Nodup->(∀ d,d∈ns↔1<=nth d/\inK c L d)->ns.length<=505):=hns
 have HAll:Hid (∀ wx,Calls Tryz.prog 148 #[.agg #[.map io,.map co,.map lo]] wx _):=fun wx=>All_any wx io co lo
 have Hok:Hid (∀ k,C k≠none->okD k):=hok
 have Hw1:Hid (w1=(w.alloc (.cells #[.slice va vn vc] 93)).alloc (.cells #[.map io,.map co,.map lo] 102)):=hw1
 clear hG h hctx hits hok hns hch hb1 kv ks hw1
 refine (callsIn_wide (n:=3)).1 ?_
 refine callsIn_of_wp_marks Tryz.func165 rfl trivial ?_ rfl
 simp only[Tryz.ntmps165,List.size_toArray,List.length_cons,List.length_nil,Nat.reduceAdd,Nat.reduceSub,Array.replicate_succ,Array.replicate_zero,List.push_toArray,List.append_toArray,List.nil_append,List.cons_append]
 gi_wp2_with fail
 rw[<- Hw1.out]
 refine ⟨trivial,(callsIn_wide.2 HR.out).mono ?_⟩
 rintro e w2 ⟨u5,ns,rs,rfl,hnr,hrow,hwr,hks,hmp⟩
 have hrl:rs.length<=505:=Nat.le_trans hnr.2.2.len (Hns.out ns hnr.1 hnr.2.1)
 have HN1:Hid (Calls Tryz.prog 220 #[.slice va vn vc,.int .i64 (rs.length:Int)] w2 _):=Number_loc B w2 (.slice va vn vc) l rs.length hwr.row (Nat.le_trans hB hwr.fr.size) (by omega) (by omega)
 have b0:=(hwr.bk.cell 0).trans rfl
 have f0:=hwr.bk.frozen
 obtain ⟨ao,cap,hu5,hcap⟩:∃ ao cap,u5=.slice ao rs.length cap/\rs.length<=cap:=by
  rcases hrow.2 with ⟨h1,h2⟩ | ⟨g,cap,cur,h1,_,_,h4,_⟩
  ·exact ⟨none,0,by rw[h1,h2],by omega⟩
  ·exact ⟨_,cap,h1,h4⟩
 subst hu5
 have HS:Hid (w2.ownsRow w.heap.size 250 3 (.slice ao rs.length cap) rs.length (rcells rs)/\WrV w w.heap.size B l (fun _=>False) w2 (.slice va vn vc)/\Blk w2 (w.heap.size+1) #[.map io,.map co,.map lo] 102/\MapO Tryz.prog 134 w2 (.map io) N (im (itOf C))):=⟨hrow,hwr,hks,hmp⟩
 have Hnr:Hid (ns.Nodup/\(∀ d,d∈ns↔1<=nth d/\inK c L d)/\Runs ns ns.length rs):=hnr
 clear hnr hrow hwr hks hmp HR Hw1 Hns s0 s1 s2
 gi_wp2_with fail
 refine ⟨trivial,(callsIn_wide.2 HN1.out).mono ?_⟩
 rintro e w3 ⟨v3,rfl,ho3,hg3⟩
 obtain ⟨va3,vn3,vc3,rfl⟩:=ho3.shape
 have hw3:=HS.out.2.1.put (fun _ h=>h.elim) hg3 ho3
 have hF3:OutF B w2 w3:=hg3.outF HS.out.2.1.row
 have c3:Blk w3 w.heap.size #[.slice va vn vc] 93:=hg3.blk HS.out.2.1.row HS.out.2.1.bk (by decide)
 have b3:=(c3.cell 0).trans rfl
 have f3:=c3.frozen
 have HW3:Hid (WrV w w.heap.size B (l ++ encN rs.length) (fun _=>False) (w3.setCell ⟨w.heap.size,0,none⟩ (.slice va3 vn3 vc3)) (.slice va3 vn3 vc3)):=hw3
 have hcx:Chg (fun k=>k=w.heap.size) w3 (w3.setCell ⟨w.heap.size,0,none⟩ (.slice va3 vn3 vc3)):=(Chg.refl (fun k=>k=w.heap.size) w3).setCell (p:=⟨w.heap.size,0,none⟩) rfl _
 have HX3:Hid (RowsX w ao cap rs io co lo N C (w3.setCell ⟨w.heap.size,0,none⟩ (.slice va3 vn3 vc3))):=(RowsX.outF ⟨HS.out.1,HS.out.2.2.1,HS.out.2.2.2⟩ hF3).chg0 c3 hcx
 clear hw3 hF3 c3 hg3 ho3 hcx HS HN1
 gi_wp2_with fail
 gi_loopg [18] rs.length (fun g v18 wx=>∃ i:Nat,i+g=rs.length/\v18=.int .i64 (i:Int)/\(∃ a n k,WrV w w.heap.size B (l ++ encN rs.length ++ (rs.take i).flatMap encR) (fun _=>False) wx (.slice a n k))/\RowsX w ao cap rs io co lo N C wx)
 case atStart=>exact ⟨0,by omega,rfl,⟨_,_,_,by simpa using HW3.out⟩,HX3.out⟩
 case round =>
  obtain ⟨i,hig,rfl,⟨xa,xn,xc,hwi⟩,hxi⟩:=hrel
  clear HW3 HX3 b3 f3
  by_cases him:i<rs.length
  ·obtain ⟨g,hgeq,hc0,hc1,hc2⟩:=hxi.at i him
   subst hgeq
   have hrk:=Hnr.out.2.2.ok _ (List.getElem_mem him)
   have hfl:Hid ((rs.take (i+1)).flatMap encR=(rs.take i).flatMap encR ++ encR rs[i]):=by unfold Hid;rw[List.take_succ_eq_append_getElem him,List.flatMap_append,List.flatMap_singleton]
   have hlen:Hid ((l ++ encN rs.length ++ (rs.take i).flatMap encR).length<=20000):=enc_small l rs i hl hrl
   generalize rs[i]=x at *
   obtain ⟨d,m⟩:=x
   simp only at hc0 hc1 hc2 hrk
   gi_wp2_with fail
   have kr:Blk (wr.alloc (.cells #[.int .i64 (who d:Int),.int .i64 (nth d:Int),.int .i64 (m:Int)] 250)) wr.heap.size #[.int .i64 (who d:Int),.int .i64 (nth d:Int),.int .i64 (m:Int)] 250:=Blk.new wr _ _
   have hbw:Below wr.heap.size wr (wr.alloc (.cells #[.int .i64 (who d:Int),.int .i64 (nth d:Int),.int .i64 (m:Int)] 250)):=(Below.refl _ wr).alloc (Nat.le_refl _) _
   generalize wr.alloc (.cells #[.int .i64 (who d:Int),.int .i64 (nth d:Int),.int .i64 (m:Int)] 250)=w4 at *
   have hw4:WrV w w.heap.size B (l ++ encN rs.length ++ (rs.take i).flatMap encR) (fun _=>False) w4 (.slice xa xn xc):=hwi.stab (Chg.of_below hbw) (fun _ h=>h.elim)
   have hx4:RowsX w (some ⟨g,0,none⟩) cap rs io co lo N C w4:=hxi.outF (B:=B) (OutF.of_below hbw)
   have e0:=(kr.cell 0).trans rfl
   have e1:=(kr.cell 1).trans rfl
   have e2:=(kr.cell 2).trans rfl
   have e3:=(hw4.bk.cell 0).trans rfl
   have hB4:B<=w4.heap.size:=Nat.le_trans hB hw4.fr.size
   obtain ⟨lx,hlx⟩:∃ lx,lx=l ++ encN rs.length ++ (rs.take i).flatMap encR:=⟨_,rfl⟩
   rw[<- hlx] at hw4 hlen
   have hed:=encN_len (who d)
   have hen:=encN_len (nth d)
   have hld:(lx ++ encD d).length<=30000:=by have:=hlen.out;unfold encD;simp only[List.length_append];omega
   have HD:Hid (∀ wx,wx.heap=w4.heap->wx.os=w4.os->wx.tape=w4.tape->wx.output=w4.output->Calls Tryz.prog 222 #[.slice xa xn xc,.agg #[.int .i64 (who d:Int),.int .i64 (nth d:Int)]] wx fun e w'=>∃ a n k,e=.returned (.slice a n k)/\(OutV B w' (.slice a n k) (lx ++ encD d)/\OutG (.slice xa xn xc) w4 (.slice a n k) w')/\w'.cell? ⟨wr.heap.size,2,none⟩=some (.int .i64 (m:Int))/\w'.cell? ⟨w.heap.size,0,none⟩=some (.slice xa xn xc)/\(∀ j,w'.frozen? ⟨w.heap.size,j,none⟩=false)):=fun wx hx ho ht hp=>by
    have hG0:OutG (.slice xa xn xc) w4 (.slice xa xn xc) wx:=OutG.heap hx ho ht hp
    refine Calls.mono (wdot_loc B wx (.slice xa xn xc) lx d (hw4.row.heap hx) (Nat.le_trans hB4 hG0.chg.size) (by have:=hlen.out;omega) hrk.1.1) ?_
    rintro e w' ⟨v',rfl,h1,h2⟩
    obtain ⟨a,n,k,rfl⟩:=h1.shape
    have hG1:=hG0.trans h2
    have kr':=hG1.blk hw4.row kr (by decide)
    have kb':=hG1.blk hw4.row hw4.bk (by decide)
    exact ⟨a,n,k,rfl,⟨h1,hG1⟩,(kr'.cell 2).trans rfl,(kb'.cell 0).trans rfl,kb'.frozen⟩
   have HM:Hid (∀ wx w5 a n k,(OutV B w5 (.slice a n k) (lx ++ encD d)/\OutG (.slice xa xn xc) w4 (.slice a n k) w5)->wx.heap=w5.heap->wx.os=w5.os->wx.tape=w5.tape->wx.output=w5.output->Calls Tryz.prog 220 #[.slice a n k,.int .i64 (m:Int)] wx fun e w'=>∃ a' n' k',e=.returned (.slice a' n' k')/\(OutV B w' (.slice a' n' k') (lx ++ encD d ++ encN m)/\OutG (.slice xa xn xc) w4 (.slice a' n' k') w')/\w'.cell? ⟨w.heap.size,0,none⟩=some (.slice xa xn xc)/\(∀ j,w'.frozen? ⟨w.heap.size,j,none⟩=false)):=fun wx w5 a n k h5 hx ho ht hp=>by
    have hG0:=h5.2.trans (OutG.heap hx ho ht hp)
    refine Calls.mono (Number_loc B wx (.slice a n k) (lx ++ encD d) m (h5.1.heap hx) (Nat.le_trans hB4 hG0.chg.size) (by omega) (by omega)) ?_
    rintro e w' ⟨v',rfl,h1,h2⟩
    obtain ⟨a',n',k',rfl⟩:=h1.shape
    have hG1:=hG0.trans h2
    have kb':=hG1.blk hw4.row hw4.bk (by decide)
    exact ⟨a',n',k',rfl,⟨h1,hG1⟩,(kb'.cell 0).trans rfl,kb'.frozen⟩
   have HW4:Hid (WrV w w.heap.size B lx (fun _=>False) w4 (.slice xa xn xc)/\RowsX w (some ⟨g,0,none⟩) cap rs io co lo N C w4):=⟨hw4,hx4⟩
   have hen2:Hid (lx ++ encD d ++ encN m=l ++ encN rs.length ++ (rs.take (i+1)).flatMap encR):=by unfold Hid;rw[hfl.out,hlx];unfold encR;simp only[List.append_assoc]
   clear hwi hxi hw4 hx4 kr hbw hc0 hc1 hc2 hlx hlen hfl hed hen hld
   refine wpIn_norm (fun K hK=>?_)
   gi_cut [18] from 45 (fun v18 wx=>v18=.int .i64 (i:Int)/\(∃ a n k,WrV w w.heap.size B (l ++ encN rs.length ++ (rs.take (i+1)).flatMap encR) (fun _=>False) wx (.slice a n k))/\RowsX w (some ⟨g,0,none⟩) cap rs io co lo N C wx)
   case first =>
    gi_region_with (first | (refine ⟨trivial,CallsIn.mono (callsIn_wide.2 (HM.out _ w5 _ _ _ h5 rfl rfl rfl rfl)) ?_⟩;rintro e w6 ⟨a6,n6,k6,rfl,h6,g0,g1⟩) | (refine ⟨trivial,CallsIn.mono (callsIn_wide.2 (HD.out _ rfl rfl rfl rfl)) ?_⟩;rintro e w5 ⟨a5,n5,k5,rfl,h5,f0,f1,f2⟩))
    all_goals
     gi_wp2_with fail
     gi_meet
     refine ⟨rfl,⟨a6,n6,k6, ?_⟩, ?_⟩
     ·rw[<- hen2.out];exact HW4.out.1.put (fun _ h=>h.elim) h6.2 h6.1
     ·exact (HW4.out.2.outF (h6.2.outF HW4.out.1.row)).chg0 (h6.2.blk HW4.out.1.row HW4.out.1.bk (by decide)) ((Chg.refl (fun k=>k=w.heap.size) _).setCell (p:=⟨w.heap.size,0,none⟩) rfl _)
   case rest =>
    obtain ⟨rfl,hwc,hxc⟩:=hcut
    have HC:Hid ((∃ a n k,WrV w w.heap.size B (l ++ encN rs.length ++ (rs.take (i+1)).flatMap encR) (fun _=>False) wc (.slice a n k))/\RowsX w (some ⟨g,0,none⟩) cap rs io co lo N C wc):=⟨hwc,hxc⟩
    clear hwc hxc HW4 HD HM
    refine hK _ _ ?_
    gi_wp2_with fail
    gi_roundg (rs.length-(i+1))
    case measure=>omega
    case rel=>exact ⟨i+1,by omega,by go_num,HC.out.1,HC.out.2⟩
  ·have e:i=rs.length:=by omega
   subst e
   rw[List.take_length] at hwi
   have hlen:(l ++ encN rs.length ++ rs.flatMap encR).length<=20000:=by have:=enc_small l rs rs.length hl hrl;rwa [List.take_length] at this
   obtain ⟨lx,hlx⟩:∃ lx,lx=l ++ encN rs.length ++ rs.flatMap encR:=⟨_,rfl⟩
   rw[<- hlx] at hwi hlen
   have Hlx:Hid (lx=l ++ encN rs.length ++ rs.flatMap encR):=hlx
   have e0:=(hxi.st.cell 0).trans rfl
   have e1:=(hxi.st.cell 1).trans rfl
   have e2:=(hxi.st.cell 2).trans rfl
   have e3:=(hwi.bk.cell 0).trans rfl
   have hBr:B<=wr.heap.size:=Nat.le_trans hB hwi.fr.size
   have HI:Hid (∀ wx,wx.heap=wr.heap->wx.os=wr.os->wx.tape=wr.tape->wx.output=wr.output->Calls Tryz.prog 223 #[.agg #[.map io,.map co,.map lo]] wx fun e w'=>e=.returned (.int .i64 (N:Int))/\(OutV B w' (.slice xa xn xc) lx/\OutG (.slice xa xn xc) wr (.slice xa xn xc) w')/\w'.cell? ⟨w.heap.size,0,none⟩=some (.slice xa xn xc)/\(∀ j,w'.frozen? ⟨w.heap.size,j,none⟩=false)):=fun wx hx ho ht hp=>by
    have hG0:OutG (.slice xa xn xc) wr (.slice xa xn xc) wx:=OutG.heap hx ho ht hp
    refine Calls.mono (sItems_any wx io co lo N (im (itOf C)) (hxi.mp.outF (hG0.outF hwi.row))) ?_
    rintro e w' ⟨rfl,hb⟩
    have hG1:=hG0.trans (OutG.of_below hb)
    have kb':=hG1.blk hwi.row hwi.bk (by decide)
    exact ⟨rfl,⟨own_below (hwi.row.heap hx) hb,hG1⟩,(kb'.cell 0).trans rfl,kb'.frozen⟩
   have HM:Hid (∀ wx w5,(OutV B w5 (.slice xa xn xc) lx/\OutG (.slice xa xn xc) wr (.slice xa xn xc) w5)->wx.heap=w5.heap->wx.os=w5.os->wx.tape=w5.tape->wx.output=w5.output->Calls Tryz.prog 220 #[.slice xa xn xc,.int .i64 (N:Int)] wx fun e w'=>∃ a' n' k',e=.returned (.slice a' n' k')/\(OutV B w' (.slice a' n' k') (lx ++ encN N)/\OutG (.slice xa xn xc) wr (.slice a' n' k') w')/\w'.cell? ⟨w.heap.size,0,none⟩=some (.slice xa xn xc)/\(∀ j,w'.frozen? ⟨w.heap.size,j,none⟩=false)):=fun wx w5 h5 hx ho ht hp=>by
    have hG0:=h5.2.trans (OutG.heap hx ho ht hp)
    have hrow:OutV B wx (.slice xa xn xc) lx:=h5.1.heap hx
    refine Calls.mono (Number_loc B wx (.slice xa xn xc) lx N hrow (Nat.le_trans hBr hG0.chg.size) (by omega) (by omega)) ?_
    rintro e w' ⟨v',rfl,h1,h2⟩
    obtain ⟨a',n',k',rfl⟩:=h1.shape
    have hG1:=hG0.trans h2
    have kb':=hG1.blk hwi.row hwi.bk (by decide)
    exact ⟨a',n',k',rfl,⟨h1,hG1⟩,(kb'.cell 0).trans rfl,kb'.frozen⟩
   have HW:Hid (WrV w w.heap.size B lx (fun _=>False) wr (.slice xa xn xc)/\RowsX w ao cap rs io co lo N C wr):=⟨hwi,hxi⟩
   clear hwi hxi hlx
   gi_wp2_with fail
   refine wpIn_norm (fun K hK=>?_)
   gi_cut [18] from 45 (fun v18 wx=>(∃ a n k,WrV w w.heap.size B (lx ++ encN N) (fun _=>False) wx (.slice a n k))/\RowsX w ao cap rs io co lo N C wx)
   case first =>
    gi_region_with (first | (refine ⟨trivial,CallsIn.mono (callsIn_wide.2 (HM.out _ w5 h5 rfl rfl rfl rfl)) ?_⟩;rintro e w6 ⟨a6,n6,k6,rfl,h6,g0,g1⟩) | (refine ⟨trivial,CallsIn.mono (callsIn_wide.2 (HI.out _ rfl rfl rfl rfl)) ?_⟩;rintro e w5 ⟨rfl,h5,f0,f1⟩))
    all_goals
     gi_wp2_with fail
     gi_meet
     refine ⟨⟨a6,n6,k6, ?_⟩, ?_⟩
     ·exact HW.out.1.put (fun _ h=>h.elim) h6.2 h6.1
     ·exact (HW.out.2.outF (h6.2.outF HW.out.1.row)).chg0 (h6.2.blk HW.out.1.row HW.out.1.bk (by decide)) ((Chg.refl (fun k=>k=w.heap.size) _).setCell (p:=⟨w.heap.size,0,none⟩) rfl _)
   case rest =>
    obtain ⟨⟨ya,yn,yc,hwc⟩,hxc⟩:=hcut
    have HC:Hid (WrV w w.heap.size B (lx ++ encN N) (fun _=>False) wc (.slice ya yn yc)/\RowsX w ao cap rs io co lo N C wc):=⟨hwc,hxc⟩
    clear hwc hxc HW HI HM e0 e1 e2 e3
    refine hK _ _ ?_
    have e0:=(HC.out.2.st.cell 0).trans rfl
    have e1:=(HC.out.2.st.cell 1).trans rfl
    have e2:=(HC.out.2.st.cell 2).trans rfl
    gi_wp2_with fail
    refine ⟨trivial,(callsIn_wide.2 (HAll.out _)).mono ?_⟩
    rintro e w4 ⟨rfl,rfl⟩
    gi_wp2_with fail
    have hbw:Below wc.heap.size wc (wc.alloc (.cells #[.map io,.map co,.map lo] 102)):=(Below.refl _ wc).alloc (Nat.le_refl _) _
    have ks:Blk (wc.alloc (.cells #[.map io,.map co,.map lo] 102)) wc.heap.size #[.map io,.map co,.map lo] 102:=Blk.new wc _ _
    generalize wc.alloc (.cells #[.map io,.map co,.map lo] 102)=w5 at *
    have hw5:WrV w w.heap.size B (lx ++ encN N) (fun _=>False) w5 (.slice ya yn yc):=HC.out.1.stab (Chg.of_below hbw) (fun _ h=>h.elim)
    have hmp5:=HC.out.2.mp.below hbw
    have hIt:Iter Tryz.prog 202 #[.pointer (some ⟨wc.heap.size,0,none⟩)] (fun x:Itm=>#[dotE x.n,Value.agg #[.string x.p,.int .u8 x.a,.string x.v,.int .i64 x.m]]) (SAll (itOf C)) (fun k=>k=wc.heap.size\/io=some k) w5:=All1_iter w5 wc.heap.size io co lo (itOf C) N ks hmp5 (fun k hk=>Hok.out k (itOf_none.1 hk)) (fun k v h=>itOf_item h)
    have hiol:∀ k,io=some k->k<wc.heap.size:=fun k hk=>by
     rcases HC.out.2.mp with ⟨h1,_⟩ | ⟨b,h1,h2⟩
     ·rw[hk] at h1;cases h1
     ·rw[hk] at h1;cases h1;exact h2.lt
    have hs5:wc.heap.size<w5.heap.size:=ks.lt
    refine range_iter (gf:=202) (lb:=#[.pointer (some ⟨wc.heap.size,0,none⟩)]) rfl (enters_of Tryz.func202 (by kernel_rfl) rfl) hIt (KeepT.refl _ _) (fun k hk=>by rcases hk with rfl | hk;exact hs5;have:=hiol k hk;omega) (fun _=>rfl)
     (fun T pre W=>∃ a n k,WrV w w.heap.size B (lx ++ encN N ++ (wIt C pre).flatMap encI) T W (.slice a n k)) (fun _ _ _ _=>False)
     (fun T T' pre W W' h hc hT=>by obtain ⟨a,n,k,h⟩:=h;exact ⟨a,n,k,h.stab hc hT⟩) (fun _ _ _ _ _ _ h _ _=>h)
     ⟨_,_,_,by simpa[wIt] using hw5⟩ ?round ?done ?stop
    case round =>
     rintro lr T pre x W hTl hT ⟨za,zn,zc,hW⟩ hEW ⟨ys,hys,hpre⟩
     have hxy:x∈ys:=hpre.subset (by simp)
     obtain ⟨cx,hcx,hveq⟩:=itOf_v (hys.2 x hxy)
     obtain ⟨hact,hnn,hpl,hvl,htl⟩:=Hch.out _ _ hcx
     have Hsn:Hid ((wIt C (pre ++ [x])).flatMap encI=(wIt C pre).flatMap encI ++ encI (x.n,txtC cx)):=by unfold Hid wIt;simp[hcx]
     have hpl2:pre.length<=505:=by
      have h1:=all_len hmp5 hys
      have h2:=hpre.length_le
      rw[List.length_append] at h2
      omega
     have hsm:(lx ++ encN N ++ (wIt C pre).flatMap encI).length<=600000:=by
      have h1:=items_small C (fun k c hc=>(Hch.out k c hc).2.2.2.2) pre
      have h2:=encN_len N
      simp only[List.length_append]
      omega
     obtain ⟨xn,xp,xa',xv,xm⟩:=x
     simp only[chV,Value.agg.injEq] at hveq
     simp at hveq
     obtain ⟨rfl,rfl,rfl,rfl⟩:=hveq
     simp only at hcx Hsn
     have hxo:okD xn:=Hok.out xn (by rw[hcx];simp)
     gi_wp2
     have hsW:wc.heap.size<W.heap.size:=by have:=hEW.1;omega
     refine ⟨⟨by simp;omega,fun k hk=>?_⟩, ?_⟩
     ·refine (((Below.refl W.heap.size W).alloc (Nat.le_refl _) _).alloc (by simp) _).block k (hk.elim (fun h=>?_) (fun h=>(hT k h).2))
      rcases h with rfl | h
      ·omega
      ·have:=hiol k h;omega
     intro W2 hc2 hs2 hE2
     have hTs:∀ k,T k->k<W2.heap.size:=fun k hk=>by rw[hs2];have:=(hT k hk).2;simp;omega
     have hchW:Chg T W W2:=(Chg.of_below ((((Below.refl W.heap.size W).alloc (Nat.le_refl _) _).alloc (by simp) _))).trans hc2
     have hW2:=hW.stab hchW (fun k hk=>⟨Or.inl hk,hTs k hk⟩)
     have kd:Blk W2 W.heap.size #[.int .i64 (who xn:Int),.int .i64 (nth xn:Int)] 134:=((Blk.new W _ _).alloc _).chg hc2 (fun hk=>by have:=(hT _ hk).2;omega)
     have ke:Blk W2 (W.heap.size+1) #[.string ⟨cx.path.toArray⟩,.int .u8 (cx.act.toNat:Int),.string (keptVal cx.act ⟨cx.val.toArray⟩),.int .i64 cx.n] 86:=by
      have:=Blk.new (W.alloc (.cells #[.int .i64 (who xn:Int),.int .i64 (nth xn:Int)] 134)) #[.string ⟨cx.path.toArray⟩,.int .u8 (cx.act.toNat:Int),.string (keptVal cx.act ⟨cx.val.toArray⟩),.int .i64 cx.n] 86
      rw[World.size_alloc] at this
      exact this.chg hc2 (fun hk=>by have:=(hT _ hk).2;omega)
     obtain ⟨ly,hly⟩:∃ ly,ly=lx ++ encN N ++ (wIt C pre).flatMap encI:=⟨_,rfl⟩
     rw[<- hly] at hsm hW2
     have hB2:B<=W2.heap.size:=Nat.le_trans hB hW2.fr.size
     have d0:=(kd.cell 0).trans rfl
     have d1:=(kd.cell 1).trans rfl
     have a0:=(ke.cell 0).trans rfl
     have a1:=(ke.cell 1).trans rfl
     have a2:=(ke.cell 2).trans rfl
     have a3:=(ke.cell 3).trans rfl
     have c0:=(hW2.bk.cell 0).trans rfl
     have hed:=encN_len (who xn)
     have hen:=encN_len (nth xn)
     have hld:(ly ++ encD xn).length<=700000:=by unfold encD;simp only[List.length_append];omega
     have HD:Hid (∀ wx,wx.heap=W2.heap->wx.os=W2.os->wx.tape=W2.tape->wx.output=W2.output->Calls Tryz.prog 222 #[.slice za zn zc,.agg #[.int .i64 (who xn:Int),.int .i64 (nth xn:Int)]] wx fun e w'=>∃ a n k,e=.returned (.slice a n k)/\(OutV B w' (.slice a n k) (ly ++ encD xn)/\OutG (.slice za zn zc) W2 (.slice a n k) w')/\w'.cell? ⟨W.heap.size+1,0,none⟩=some (.string ⟨cx.path.toArray⟩)/\w'.cell? ⟨W.heap.size+1,1,none⟩=some (.int .u8 (cx.act.toNat:Int))/\w'.cell? ⟨W.heap.size+1,2,none⟩=some (.string (keptVal cx.act ⟨cx.val.toArray⟩))/\w'.cell? ⟨W.heap.size+1,3,none⟩=some (.int .i64 cx.n)):=fun wx hx ho ht hp=>by
      have hG0:OutG (.slice za zn zc) W2 (.slice za zn zc) wx:=OutG.heap hx ho ht hp
      refine Calls.mono (wdot_loc B wx (.slice za zn zc) ly xn (hW2.row.heap hx) (Nat.le_trans hB2 hG0.chg.size) (by omega) hxo.1) ?_
      rintro e w' ⟨v',rfl,h1,h2⟩
      obtain ⟨a,n,k,rfl⟩:=h1.shape
      have hG1:=hG0.trans h2
      have ke':=hG1.blk hW2.row ke (by decide)
      exact ⟨a,n,k,rfl,⟨h1,hG1⟩,(ke'.cell 0).trans rfl,(ke'.cell 1).trans rfl,(ke'.cell 2).trans rfl,(ke'.cell 3).trans rfl⟩
     have HX:Hid (∀ wx w5 a n k,(OutV B w5 (.slice a n k) (ly ++ encD xn)/\OutG (.slice za zn zc) W2 (.slice a n k) w5)->wx.heap=w5.heap->wx.os=w5.os->wx.tape=w5.tape->wx.output=w5.output->Calls Tryz.prog 225 #[.agg #[.string ⟨cx.path.toArray⟩,.int .u8 (cx.act.toNat:Int),.string (keptVal cx.act ⟨cx.val.toArray⟩),.int .i64 cx.n]] wx fun e w'=>∃ s,e=.returned (.string s)/\(toL s=txtC cx/\OutV B w' (.slice a n k) (ly ++ encD xn)/\OutG (.slice za zn zc) W2 (.slice a n k) w')):=fun wx w5 a n k h5 hx ho ht hp=>by
      have hG0:=h5.2.trans (OutG.heap hx ho ht hp)
      have hGl:=HG.out wx (hW2.fr.trans (hG0.outF hW2.row))
      refine Calls.mono (Text_any wx hGl ⟨cx.path.toArray⟩ (keptVal cx.act ⟨cx.val.toArray⟩) cx.act cx.n hact hnn (by show cx.path.toArray.size<=_;simpa using hpl) hvl) ?_
      rintro e w' ⟨sx,rfl,h1,hb⟩
      exact ⟨sx,rfl,h1,own_below (h5.1.heap hx) hb,hG0.trans (OutG.of_below hb)⟩
     have HY:Hid (∀ wx w6 a n k sx,(toL sx=txtC cx/\OutV B w6 (.slice a n k) (ly ++ encD xn)/\OutG (.slice za zn zc) W2 (.slice a n k) w6)->wx.heap=w6.heap->wx.os=w6.os->wx.tape=w6.tape->wx.output=w6.output->Calls Tryz.prog 224 #[.slice a n k,.string sx] wx fun e w'=>∃ a' n' k',e=.returned (.slice a' n' k')/\(OutV B w' (.slice a' n' k') (ly ++ encI (xn,txtC cx))/\OutG (.slice za zn zc) W2 (.slice a' n' k') w')/\w'.cell? ⟨w.heap.size,0,none⟩=some (.slice za zn zc)/\(∀ j,w'.frozen? ⟨w.heap.size,j,none⟩=false)):=fun wx w6 a n k sx h6 hx ho ht hp=>by
      have hG0:=h6.2.2.trans (OutG.heap hx ho ht hp)
      have hsl:sx.size=(txtC cx).length:=by rw[<- h6.1];unfold toL;simp
      refine Calls.mono (wText_loc B wx (.slice a n k) (ly ++ encD xn) sx (h6.2.1.heap hx) (Nat.le_trans hB2 hG0.chg.size) (by omega) (by omega)) ?_
      rintro e w' ⟨v',rfl,h1,h2⟩
      obtain ⟨a',n',k',rfl⟩:=h1.shape
      have hG1:=hG0.trans h2
      have kb':=hG1.blk hW2.row hW2.bk (by decide)
      have he:ly ++ encD xn ++ encN sx.size ++ toL sx=ly ++ encI (xn,txtC cx):=by unfold encI;rw[hsl,h6.1];simp only[List.append_assoc]
      rw[he] at h1
      exact ⟨a',n',k',rfl,⟨h1,hG1⟩,(kb'.cell 0).trans rfl,kb'.frozen⟩
     have HE:Hid (∀ k,(k=wc.heap.size\/io=some k)->k<W2.heap.size/\k≠w.heap.size/\(Value.slice za zn zc).ownBlock≠some k):=fun k hk=>by
      have hkl:k<w5.heap.size:=by rcases hk with rfl | h;exact hs5;have:=hiol k h;omega
      have e1:W2.heap[k]? = w5.heap[k]?:=hE2.2 k hk
      have hnu:∀ t,(∀ cur fz,w5.heap[k]?≠some (.cells cur t fz))->∀ cur fz,W2.heap[k]?≠some (.cells cur t fz):=fun t h cur fz e=>h cur fz (e1 ▸ e)
      have hno:∀ t,t≠102->∀ cur fz,w5.heap[k]?≠some (.cells cur t fz):=fun t ht cur fz e=>by
       rcases hk with rfl | h
       ·rw[show w5.heap[wc.heap.size]? = _ from ks] at e;cases e;exact ht rfl
       ·rcases hmp5 with ⟨h1,_⟩ | ⟨b,h1,h2⟩
        ·rw[h] at h1;cases h1
        ·rw[h] at h1;cases h1;exact h2.noTag e
      refine ⟨Nat.lt_of_lt_of_le hkl hE2.1,fun e=>?_,ownsRow_ne hW2.row (hnu _ (hno _ (by decide)))⟩
      have:=hnu _ (hno 93 (by decide)) _ _ (e ▸ hW2.bk)
      exact this
     have HW2:Hid (WrV w w.heap.size B ly T W2 (.slice za zn zc)):=hW2
     have Hly:Hid (ly ++ encI (xn,txtC cx)=lx ++ encN N ++ (wIt C (pre ++ [⟨xn,⟨cx.path.toArray⟩,cx.act.toNat,keptVal cx.act ⟨cx.val.toArray⟩,cx.n⟩])).flatMap encI):=by unfold Hid;rw[Hsn.out,hly];simp only[List.append_assoc]
     have HTs:Hid (∀ k,T k->k<W2.heap.size):=hTs
     clear hW hW2 kd ke hchW hc2 hs2 hE2 hEW hly hT hact hnn hpl hvl htl hed hen hld hIt hw5 hmp5 hTs
     gi_wp2_with fail
     gi_region_with (first | (refine ⟨trivial,CallsIn.inRound lr (CallsIn.mono (callsIn_wide.2 (HY.out _ w7 _ _ _ _ h7 rfl rfl rfl rfl)) ?_)⟩;rintro e w8 ⟨a8,n8,k8,rfl,h8,g0,g1⟩) | (refine ⟨trivial,CallsIn.inRound lr (CallsIn.mono (callsIn_wide.2 (HX.out _ w6 _ _ _ h6 rfl rfl rfl rfl)) ?_)⟩;rintro e w7 ⟨s7,rfl,h7⟩) | (refine ⟨trivial,CallsIn.inRound lr (CallsIn.mono (callsIn_wide.2 (HD.out _ rfl rfl rfl rfl)) ?_)⟩;rintro e w6 ⟨a6,n6,k6,rfl,h6,f0,f1,f2,f3⟩))
     all_goals
      gi_wp2_with fail
      refine ⟨⟨a8,n8,k8, ?_⟩, ?_⟩
      ·rw[<- Hly.out];exact HW2.out.put HTs.out h8.2 h8.1
      ·exact HW2.out.keep HTs.out HE.out h8.2 h8.1
    case done =>
     rintro D T xs W hD hTD hS' ⟨za,zn,zc,hW⟩ hT hK2
     have hxl:xs.length=N:=all_len hmp5 hS'
     have c0:=(hW.bk.cell 0).trans rfl
     have HW:Hid (WrV w w.heap.size B (lx ++ encN N ++ (wIt C xs).flatMap encI) T W (.slice za zn zc)):=hW
     clear hW hIt hw5 hmp5
     gi_wp2_with fail
     refine ⟨by simp,.inl ⟨_,_,rfl,run_takeDeferred hK2, ?_⟩⟩
     have hfin:=HW.out.stab (T':=T) (chg_putObj W D (.deferred none) hTD) (fun k hk=>⟨Or.inl hk,by rw[size_putObj];exact (hT k hk).2⟩)
     have he:lx ++ encN N ++ (wIt C xs).flatMap encI=l ++ encS rs (wIt C xs):=by
      have hwl:(wIt C xs).length=N:=by unfold wIt;rw[List.length_map];exact hxl
      unfold encS
      rw[hwl,Hlx.out]
      simp only[List.append_assoc]
     rw[he] at hfin
     exact ⟨_,results_tmp rfl _ _ _,.slice za zn zc,ns,rs,xs,rfl,Hnr.out.1,Hnr.out.2.1,Hnr.out.2.2,hS',hfin.row,hfin.fr⟩
    case stop =>
     rintro D T c pre W _ _ h
     exact h.elim
end Go.Proofs.YtfmmllpjgkgeaaaGreatDoor

