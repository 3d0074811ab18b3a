import Derived.Test.YtfmmllpjgkgeaaaGreatDoorPartM33
set_option linter.unusedVariables false
set_option linter.unusedSimpArgs false
set_option maxHeartbeats 16000000
set_option maxRecDepth 100000
namespace Go.Proofs.YtfmmllpjgkgeaaaGreatDoor
open Go.Proofs.Tryz Go.RowKit Go.Maps Go.WideMaps Go.Deep
theorem UK(r room:Int)(w:World)(h:r<1\/6<r\/room<0\/50<room):Calls prog 40 #[.int .i64 r,.int .i64 room] w λe w'=>e=.returned (.tuple #[.pointer none,.int .i64 1])/\w'=w:=by
 have hd:(decide (r<1)||decide (6<r)||decide (room<0)||decide (50<room))=true:=by simp;omega
 go_enter func40,ntmps40;go_wp2;all_goals first|(go_ret2;exact⟨rfl,rfl⟩)|(exfalso;omega)
theorem Tryz.infoPR:(prog.info? 81).map (λi=>(i.zero,i.size,i.bytes))=some (some (.pointer none),1,8):=by kernel_rfl
theorem Tryz.infoInt8:(prog.info? 3).map (λi=>(i.zero,i.size,i.bytes))=some (some (.int .i64 0),1,8):=by kernel_rfl
def GV(l:List Nat):List Value:=l.map λn:Nat=>.int .i64 n
theorem J8{w:World}{B:Nat}{v:Value}{l:List Nat}(h:w.ownsRow B 3 1 v l.length (GV l)):jq w v l:=by
 have h0:=h;obtain⟨_,⟨h1,h2⟩|⟨g,cap,cur,h1,h2,h3,h4,_⟩⟩:=h
 ·exact Or.inl ⟨h1,List.length_eq_zero_iff.1 h2⟩
 ·refine Or.inr ⟨g,0,cap,h1,h4,(Array.getElem?_eq_some_iff.1 h3).1,λj hj=>?_⟩;have:=h0.cells (g:=g) (by rw[h1];rfl) j (.int .i64 (l[j])) (by simp[GV,hj]);rw[Addr.add_lit]at this;exact this
theorem J9(w:World)(i n:Nat)(hn:n<=6)(hi:i<=6):Calls prog 75 #[.int .i64 i,.int .i64 n] w λe w'=>∃v,e=.returned v/\jq w' v (others i n)/\Below w.heap.size w w':=by
 obtain⟨i0,hif,hz0,hz1,hz2⟩:=info_parts Tryz.infoInt8;go_enter func75,ntmps75;go_wp2_with fail;go_loopg [5,6,8] n (λg v5 v6 v8 wx=>∃j:Nat,j+g=n/\v8=.int .i64 j/\Below w.heap.size w wx/\wx.ownsRow w.heap.size 3 1 v5 (others i j).length (GV (others i j)));case atStart=>exact⟨0,by omega,rfl,Below.refl _ _,World.ownsRow_nil _ _ _ _⟩
 case round =>
  obtain⟨j,hjg,rfl,hb,hrow⟩:=hrel;have HB:Hid (Below w.heap.size w wr):=hb;have vM:Hid (wr.ownsRow w.heap.size 3 1 u5 (others i j).length (GV (others i j))):=hrow;have hsz:=hb.size;have hll:=zK i j;have hsh:∃ao cap,u5=.slice ao (others i j).length cap:=by
   rcases hrow.2 with⟨h1,h2⟩|⟨g,cp,cur,h1,_⟩
   ·exact⟨none,0,by rw[h1,h2]⟩
   ·exact⟨_,cp,h1⟩
  obtain⟨ao,cap,rfl⟩:=hsh;clear hb hrow;by_cases hlt:j<n
  ·have Hs:=GU i j;have HS:Hid (others i (j+1)=if j=i then others i j else others i j++[j]):=Hs;clear Hs;generalize others i j=ls at *;by_cases e:j=i
   ·have he:((j:Int)=(i:Int)):=by omega
    have heb:((j:Int) !=(i:Int))=false:=by simpa using he
    have hed:decide ((j:Int)≠(i:Int))=false:=by simpa using he
    subst e;clear he heb hed;go_wp2_with fail;go_roundg (n-(j+1));case measure=>omega
    case rel=>exact⟨j+1,by omega,by go_num,HB.out,by have hs:=HS.out;simp at hs;rw[hs];exact vM.out⟩
   ·have he:¬((j:Int)=(i:Int)):=by omega
    have HA:Hid (∀o,(wr.alloc o).ownsRow w.heap.size 3 1 (.slice ao ls.length cap) ls.length (GV ls)):=λo=>vM.out.alloc o;have h63:ls.length+1<=maxLen:=by unfold maxLen;omega
    have h64:(ls.length+1)*8<=140737488355328:=by omega
    go_wp2_with (first|(at_builtin;refine wpList_append_own_at _ rfl (.tmp 14) (.tmp 16) 42 rfl w.heap.size 3 i0 (.int .i64 0) 1 8 underlying42 hif hz0 hz1 hz2 rfl (by decide) _ _ _ rfl (HA.out _) ⟨wr.heap.size,0,none⟩ 1 1 [.int .i64 j] rfl rfl (cell_one_new _ _ _) (by simp[Value.oneCell']) h63 h64 (by simp;omega) ?_;intro v6 w6 kF eG Ae uO));have hb6:Below w.heap.size w w6:=(HB.out.alloc hsz _).grown eG (by simp;omega) (λk e=>(vM.out.lt k e).1);go_roundg (n-(j+1));case measure=>omega
    case rel =>
     refine⟨j+1,by omega,by go_num,hb6, ?_⟩;rw[HS.out,if_neg e,List.length_append];have e2:GV (ls++[j])=GV ls++[.int .i64 j]:=by simp[GV]
     rw[e2];exact kF
  ·have e:j=n:=by omega
   subst e;go_wp2_with fail;go_ret;exact⟨_,rfl,J8 vM.out,HB.out⟩
theorem Ru(r room:Nat)(w:World)(hG:Glob w)(h1:1<=r)(h6:r<=6)(h50:room<=50):Calls prog 40 #[.int .i64 r,.int .i64 room] w λe w'=>∃rv ds,e=.returned (.tuple #[.pointer (some ⟨w.heap.size,0,none⟩),.int .i64 0])/\ds.length=r/\zL w w' rv r room ds:=by
 obtain⟨iR,OJ,wU,wV,wW⟩:=info_parts Tryz.infoPR;have HG:Hid (Glob w):=hG;clear hG;go_enter func40,ntmps40;go_wp2;go_loopw [25] (λi wr=>∃(ds:List RD)(rv:Value),ds.length<=r/\i=.int .i64 ds.length/\zL w wr rv r room ds) (λi _=>r-(intOf i).toNat);case atStart =>exact⟨[],.slice none 0 0,by simp,rfl,aA.new w _ _,World.ownsRow_nil _ _ _ _,λj h=>absurd h (by simp),λi j hi=>absurd hi (by simp),(Below.refl _ _).alloc (Nat.le_refl _) _⟩
 case round =>
  obtain⟨ds,rv,hk,rfl,hN⟩:=hrel;by_cases hlt:ds.length<r
  ·have HN:Hid (zL w wr rv r room ds):=hN;have hwl:w.heap.size<wr.heap.size:=hN.blk.lt;have c1:wr.drew.cell? ⟨w.heap.size,2,none⟩=some rv:=(hN.blk.cell 2).trans rfl;have m1:Hid (ds.length+1<=maxLen):=by unfold Hid maxLen;omega
   have m2:Hid ((ds.length+1)*8<=140737488355328):=by unfold Hid;omega
   have hne:Hid (rv.ownBlock≠some w.heap.size):=hN.ne hN.blk (by decide);have Yi:ds.length<=5:=by omega
   have hbd:Below wr.heap.size wr wr.drew:=(Below.refl _ wr).drew;have HOt:Hid (∀wx,Below wr.heap.size wr wx->Calls prog 75 #[.int .i64 ds.length,.int .i64 r] wx λe w'=>∃ao n cp,e=.returned (.slice ao n cp)/\(jq w' (.slice ao n cp) (others ds.length r)/\Below wr.heap.size wr w')/\w'.cell? ⟨w.heap.size,2,none⟩=some rv):=λwx hb=>by refine Calls.mono (J9 wx ds.length r h6 (by omega)) ?_;rintro e w'⟨v,rfl,h2,h3⟩;obtain⟨ao,cp,rfl⟩:=h2.shape;have h4:=hb.trans (h3.mono hb.size);exact⟨ao,_,cp,rfl,⟨h2,h4⟩,((HN.out.blk.below h4).cell 2).trans rfl⟩
   have HRn:Hid (∀wx w5 ao n cp,(jq w5 (.slice ao n cp) (others ds.length r)/\Below wr.heap.size wr w5)->wx.heap=w5.heap->wx.os=w5.os->wx.tape=w5.tape->wx.output=w5.output->Calls prog 74 #[.int .i64 ds.length,.int .i64 room,.slice ao n cp] wx λe w'=>∃rb q,e=.returned (.pointer (some ⟨rb,0,none⟩))/\(q.rb=rb/\dQ w' q/\(∃rb kb db ab,q=Cb rb kb db ab ds.length room r)/\(∀k,q.own k->wr.heap.size<=k)/\Below wr.heap.size wr w')/\w'.cell? ⟨w.heap.size,2,none⟩=some rv/\∀o,(w'.alloc o).cell? ⟨w.heap.size,2,none⟩=some rv):=λwx w5 ao n cp h5 hx ho ht hp=>by have ab6:Below w5.heap.size w5 wx:=⟨ho,ht,hp,by rw[hx];exact Nat.le_refl _,λk _=>by rw[hx]⟩;have hbx:Below wr.heap.size wr wx:=h5.2.trans (ab6.mono h5.2.size);have hbw:Below w.heap.size w wx:=HN.out.bel.trans (hbx.mono HN.out.bel.size);refine Calls.mono (J4 wx (HG.out.mono hbw) ds.length room _ (others ds.length r) (h5.1.below ab6) Yi h50 (λj hj=>by have:=(zJ.1 hj).1;omega) (Nat.le_trans (zK _ _) h6)) ?_;rintro e w'⟨rb,kb,db,ab,rfl,h7,h8,h9⟩;have hsx:=hbx.size;have hb':=hbx.trans (h9.mono hbx.size);exact⟨rb,Cb rb kb db ab ds.length room r,rfl,⟨rfl,h7,⟨rb,kb,db,ab,rfl⟩,λk hk=>by have:=Oj hk;omega,hb'⟩,((HN.out.blk.below hb').cell 2).trans rfl,λo=>(((HN.out.blk.below hb').alloc o).cell 2).trans rfl⟩
   clear hN;go_wp2_with fail
   go_region_law (first|(go_simp;refine Calls.mono (HRn.out _ w5 _ _ _ h5 rfl rfl rfl rfl) ?_;rintro e w7⟨rb7,q7,rfl,h7,d1,d1A⟩)|(go_simp;refine Calls.mono (HOt.out _ hbd) ?_;rintro e w5⟨ao5,n5,cp5,rfl,h5,e1⟩)|(refine iY rfl (.tmp 32) (.tmp 39) 76 rfl w.heap.size 81 iR (.pointer none) 1 8 underlying76 OJ wU wV wW rfl (by decide) rv ds.length (ptrs (ds.map RD.rb)) rfl ?_ _ 1 1 [.pointer (some ⟨rb7,0,none⟩)] rfl rfl ?_ ?_ m1.out m2.out ?_ ?_;(exact(own_below HN.out.row h7.2.2.2.2).alloc _);(intro j u hj;match j,hj with|0,hj=>(cases hj;simp[Addr.add]));(intro u hu;simp at hu;subst hu;rfl);(have Yd:=h7.2.2.2.2.size;simp;omega);intro v6 w6 kF eG;obtain⟨g6,c6,rfl⟩:=dL kF (Nat.succ_pos _);have kb7:=(HN.out.blk.below h7.2.2.2.2).alloc (.cells #[.pointer (some ⟨rb7,0,none⟩)] 81);have Yh:aA w6 w.heap.size #[.int .i32 0,.int .u32 0,rv,.slice none 0 0] 79:=((eG.block _ kb7.lt (Ne.symm hne.out)).trans kb7);have k1:=(Yh.cell 2).trans rfl;have kf:=Yh.frozen))
   all_goals
    obtain⟨hq7,h7⟩:=h7;subst hq7;have hm:=HN.out.more h7.2.2.2 h7.1 h7.2.1 h7.2.2.1 kF eG;have HM:Hid (_):=hm;clear hm h7 kF eG;go_wp2;go_roundw;case rel=>exact⟨ds++[q7],.slice (some ⟨g6,0,none⟩) (ds.length+1) c6,by simp<;>omega,by simp<;>go_num,HM.out⟩
    case measure=>simp[intOf];omega
  ·have HN:Hid (zL w wr rv r room ds):=hN;have hr:ds.length=r:=by omega
   clear hN;go_wp2;go_ret2;exact⟨rv,ds,rfl,hr,HN.out⟩
