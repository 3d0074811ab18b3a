import Derived.Test.YtfmmllpjgkgeaaaGreatDoorPartV30
set_option linter.unusedVariables false
set_option linter.unusedSimpArgs false
set_option maxHeartbeats 16000000
set_option maxRecDepth 100000
namespace Go.Proofs.YtfmmllpjgkgeaaaGreatDoor
open Go.RowKit Go.Maps Go.WideMaps Go.Deep

theorem New_bad (r room:Int) (w:World) (h:r<1\/6<r\/room<0\/50<room) :
  Calls Tryz.prog 40 #[.int .i64 r,.int .i64 room] w fun e w'=>e=.returned (.tuple #[.pointer none,.int .i64 1])/\w'=w:=by
 have hd:(decide (r<1) || decide (6<r) || decide (room<0) || decide (50<room))=true:=by simp;omega
 go_enter Tryz.func40,Tryz.ntmps40
 go_wp2
 all_goals first | (go_ret2;exact ⟨rfl,rfl⟩) | (exfalso;omega)

theorem Tryz.infoPR:(Tryz.prog.info? 81).map (fun i=>(i.zero,i.size,i.bytes))=some (some (.pointer none),1,8):=by kernel_rfl
theorem Tryz.infoInt8:(Tryz.prog.info? 3).map (fun i=>(i.zero,i.size,i.bytes))=some (some (.int .i64 0),1,8):=by kernel_rfl
def intV (l:List Nat):List Value:=l.map fun n:Nat=>.int .i64 (n:Int)
theorem row_sliceN {w:World} {B:Nat} {v:Value} {l:List Nat} (h:w.ownsRow B 3 1 v l.length (intV l)):SliceN w v l:=by
 have h0:=h
 obtain ⟨_,⟨h1,h2⟩ | ⟨g,cap,cur,h1,h2,h3,h4,_⟩⟩:=h
 ·exact Or.inl ⟨h1,List.length_eq_zero_iff.1 h2⟩
 ·refine Or.inr ⟨g,0,cap,h1,h4,(Array.getElem?_eq_some_iff.1 h3).1,fun j hj=>?_⟩
  have:=h0.cells (g:=g) (by rw[h1];rfl) j (.int .i64 (l[j]:Int)) (by simp[intV,hj])
  rw[Addr.add_lit] at this
  exact this

theorem others_any (w:World) (i n:Nat) (hn:n<=6) (hi:i<=6) :
  Calls Tryz.prog 75 #[.int .i64 (i:Int),.int .i64 (n:Int)] w fun e w'=>∃ v,e=.returned v/\SliceN w' v (others i n)/\Below w.heap.size w w':=by
 obtain ⟨i0,hif,hz0,hz1,hz2⟩:=info_parts Tryz.infoInt8
 go_enter Tryz.func75,Tryz.ntmps75
 go_wp2_with fail
 go_loopg [5,6,8] n (fun g v5 v6 v8 wx=>∃ j:Nat,j+g=n/\v8=.int .i64 (j:Int)/\Below w.heap.size w wx/\wx.ownsRow w.heap.size 3 1 v5 (others i j).length (intV (others i j)))
 case atStart=>exact ⟨0,by omega,rfl,Below.refl _ _,World.ownsRow_nil _ _ _ _⟩
 case round =>
  obtain ⟨j,hjg,rfl,hb,hrow⟩:=hrel
  have HB:Hid (Below w.heap.size w wr):=hb
  have Hrow:Hid (wr.ownsRow w.heap.size 3 1 u5 (others i j).length (intV (others i j))):=hrow
  have hsz:=hb.size
  have hll:=others_len i j
  have hsh:∃ ao cap,u5=.slice ao (others i j).length cap:=by
   rcases hrow.2 with ⟨h1,h2⟩ | ⟨g,cp,cur,h1,_⟩
   ·exact ⟨none,0,by rw[h1,h2]⟩
   ·exact ⟨_,cp,h1⟩
  obtain ⟨ao,cap,rfl⟩:=hsh
  clear hb hrow
  by_cases hlt:j<n
  ·have Hs:=others_succ i j
   have HS:Hid (others i (j+1)=if j=i then others i j else others i j ++ [j]):=Hs
   clear Hs
   generalize others i j=ls at *
   by_cases e:j=i
   ·have he:((j:Int)=(i:Int)):=by omega
    have heb:((j:Int) != (i:Int))=false:=by simpa using he
    have hed:decide ((j:Int)≠(i:Int))=false:=by simpa using he
    subst e
    clear he heb hed
    go_wp2_with fail
    go_roundg (n-(j+1))
    case measure=>omega
    case rel=>exact ⟨j+1,by omega,by go_num,HB.out,by have hs:=HS.out;simp at hs;rw[hs];exact Hrow.out⟩
   ·have he:¬((j:Int)=(i:Int)):=by omega
    have HA:Hid (∀ o,(wr.alloc o).ownsRow w.heap.size 3 1 (.slice ao ls.length cap) ls.length (intV ls)):=fun o=>Hrow.out.alloc o
    have h63:ls.length+1<=maxLen:=by unfold maxLen;omega
    have h64:(ls.length+1)*8<=140737488355328:=by omega
    go_wp2_with (first | (at_builtin;refine wpList_append_own_at _ rfl (.tmp 14) (.tmp 16) 42 rfl w.heap.size 3 i0 (.int .i64 0) 1 8 Tryz.underlying42 hif hz0 hz1 hz2 rfl (by decide) _ _ _ rfl (HA.out _) ⟨wr.heap.size,0,none⟩ 1 1 [.int .i64 (j:Int)] rfl rfl (cell_one_new _ _ _) (by simp[Value.oneCell']) h63 h64 (by simp;omega) ?_;intro v6 w6 ho6 hg6 hn6 hl6))
    have hb6:Below w.heap.size w w6:=(HB.out.alloc hsz _).grown hg6 (by simp;omega) (fun k e=>(Hrow.out.lt k e).1)
    go_roundg (n-(j+1))
    case measure=>omega
    case rel =>
     refine ⟨j+1,by omega,by go_num,hb6, ?_⟩
     rw[HS.out,if_neg e,List.length_append]
     have e2:intV (ls ++ [j])=intV ls ++ [.int .i64 (j:Int)]:=by simp[intV]
     rw[e2]
     exact ho6
  ·have e:j=n:=by omega
   subst e
   go_wp2_with fail
   go_ret
   exact ⟨_,rfl,row_sliceN Hrow.out,HB.out⟩

theorem New_good (r room:Nat) (w:World) (hG:Glob w) (h1:1<=r) (h6:r<=6) (h50:room<=50) :
  Calls Tryz.prog 40 #[.int .i64 (r:Int),.int .i64 (room:Int)] w fun e w'=>∃ rv ds,e=.returned (.tuple #[.pointer (some ⟨w.heap.size,0,none⟩),.int .i64 0])/\ds.length=r/\NewP w w' rv r room ds:=by
 obtain ⟨iR,hiR,hzR0,hzR1,hzR2⟩:=info_parts Tryz.infoPR
 have HG:Hid (Glob w):=hG
 clear hG
 go_enter Tryz.func40,Tryz.ntmps40
 go_wp2
 go_loopw [25] (fun i wr=>∃ (ds:List RD) (rv:Value),ds.length<=r/\i=.int .i64 (ds.length:Int)/\NewP w wr rv r room ds) (fun i _=>r-(intOf i).toNat)
 case atStart =>
  exact ⟨[],.slice none 0 0,by simp,rfl,Blk.new w _ _,World.ownsRow_nil _ _ _ _,fun j h=>absurd h (by simp),fun i j hi=>absurd hi (by simp),(Below.refl _ _).alloc (Nat.le_refl _) _⟩
 case round =>
  obtain ⟨ds,rv,hk,rfl,hN⟩:=hrel
  by_cases hlt:ds.length<r
  ·have HN:Hid (NewP w wr rv r room ds):=hN
   have hwl:w.heap.size<wr.heap.size:=hN.blk.lt
   have c1:wr.drew.cell? ⟨w.heap.size,2,none⟩=some rv:=(hN.blk.cell 2).trans rfl
   have m1:Hid (ds.length+1<=maxLen):=by unfold Hid maxLen;omega
   have m2:Hid ((ds.length+1)*8<=140737488355328):=by unfold Hid;omega
   have hne:Hid (rv.ownBlock≠some w.heap.size):=hN.ne hN.blk (by decide)
   have ha5:ds.length<=5:=by omega
   have hbd:Below wr.heap.size wr wr.drew:=(Below.refl _ wr).drew
   have HOt:Hid (∀ wx,Below wr.heap.size wr wx->Calls Tryz.prog 75 #[.int .i64 (ds.length:Int),.int .i64 (r:Int)] wx fun e w'=>∃ ao n cp,e=.returned (.slice ao n cp)/\(SliceN w' (.slice ao n cp) (others ds.length r)/\Below wr.heap.size wr w')/\w'.cell? ⟨w.heap.size,2,none⟩=some rv):=fun wx hb=>by
    refine Calls.mono (others_any wx ds.length r h6 (by omega)) ?_
    rintro e w' ⟨v,rfl,h2,h3⟩
    obtain ⟨ao,cp,rfl⟩:=h2.shape
    have h4:=hb.trans (h3.mono hb.size)
    exact ⟨ao,_,cp,rfl,⟨h2,h4⟩,((HN.out.blk.below h4).cell 2).trans rfl⟩
   have HRn:Hid (∀ wx w5 ao n cp,(SliceN w5 (.slice ao n cp) (others ds.length r)/\Below wr.heap.size wr w5)->wx.heap=w5.heap->wx.os=w5.os->wx.tape=w5.tape->wx.output=w5.output->Calls Tryz.prog 74 #[.int .i64 (ds.length:Int),.int .i64 (room:Int),.slice ao n cp] wx fun e w'=>∃ rb q,e=.returned (.pointer (some ⟨rb,0,none⟩))/\(q.rb=rb/\RepF w' q/\(∃ rb kb db ab,q=initR rb kb db ab ds.length room r)/\(∀ k,q.own k->wr.heap.size<=k)/\Below wr.heap.size wr w')/\w'.cell? ⟨w.heap.size,2,none⟩=some rv/\∀ o,(w'.alloc o).cell? ⟨w.heap.size,2,none⟩=some rv):=fun wx w5 ao n cp h5 hx ho ht hp=>by
    have hb5x:Below w5.heap.size w5 wx:=⟨ho,ht,hp,by rw[hx];exact Nat.le_refl _,fun k _=>by rw[hx]⟩
    have hbx:Below wr.heap.size wr wx:=h5.2.trans (hb5x.mono h5.2.size)
    have hbw:Below w.heap.size w wx:=HN.out.bel.trans (hbx.mono HN.out.bel.size)
    refine Calls.mono (RepNew_any wx (HG.out.mono hbw) ds.length room _ (others ds.length r) (h5.1.below hb5x) ha5 h50 (fun j hj=>by have:=(others_mem.1 hj).1;omega) (Nat.le_trans (others_len _ _) h6)) ?_
    rintro e w' ⟨rb,kb,db,ab,rfl,h7,h8,h9⟩
    have hsx:=hbx.size
    have hb':=hbx.trans (h9.mono hbx.size)
    exact ⟨rb,initR rb kb db ab ds.length room r,rfl,⟨rfl,h7,⟨rb,kb,db,ab,rfl⟩,fun k hk=>by have:=initR_own hk;omega,hb'⟩,((HN.out.blk.below hb').cell 2).trans rfl,fun o=>(((HN.out.blk.below hb').alloc o).cell 2).trans rfl⟩
   clear hN
   go_wp2_with fail
   go_region_law (first | (go_simp;refine Calls.mono (HRn.out _ w5 _ _ _ h5 rfl rfl rfl rfl) ?_;rintro e w7 ⟨rb7,q7,rfl,h7,d1,d1A⟩) | (go_simp;refine Calls.mono (HOt.out _ hbd) ?_;rintro e w5 ⟨ao5,n5,cp5,rfl,h5,e1⟩) | (refine step_append_own rfl (.tmp 32) (.tmp 39) 76 rfl w.heap.size 81 iR (.pointer none) 1 8 Tryz.underlying76 hiR hzR0 hzR1 hzR2 rfl (by decide) rv ds.length (ptrs (ds.map RD.rb)) rfl ?_ _ 1 1 [.pointer (some ⟨rb7,0,none⟩)] rfl rfl ?_ ?_ m1.out m2.out ?_ ?_;(exact (own_below HN.out.row h7.2.2.2.2).alloc _);(intro j u hj;match j,hj with | 0,hj=>(cases hj;simp[Addr.add]));(intro u hu;simp at hu;subst hu;rfl);(have hz7:=h7.2.2.2.2.size;simp;omega);intro v6 w6 ho6 hg6;obtain ⟨g6,c6,rfl⟩:=own_some ho6 (Nat.succ_pos _);have kb7:=(HN.out.blk.below h7.2.2.2.2).alloc (.cells #[.pointer (some ⟨rb7,0,none⟩)] 81);have kb6:Blk w6 w.heap.size #[.int .i32 0,.int .u32 0,rv,.slice none 0 0] 79:=((hg6.block _ kb7.lt (Ne.symm hne.out)).trans kb7);have k1:=(kb6.cell 2).trans rfl;have kf:=kb6.frozen))
   all_goals
    obtain ⟨hq7,h7⟩:=h7
    subst hq7
    have hm:=HN.out.more h7.2.2.2 h7.1 h7.2.1 h7.2.2.1 ho6 hg6
    have HM:Hid (_):=hm
    clear hm h7 ho6 hg6
    go_wp2
    go_roundw
    case rel=>exact ⟨ds ++ [q7],.slice (some ⟨g6,0,none⟩) (ds.length+1) c6,by simp <;> omega,by simp <;> go_num,HM.out⟩
    case measure=>simp[intOf];omega
  ·have HN:Hid (NewP w wr rv r room ds):=hN
   have hr:ds.length=r:=by omega
   clear hN
   go_wp2
   go_ret2
   exact ⟨rv,ds,rfl,hr,HN.out⟩
end Go.Proofs.YtfmmllpjgkgeaaaGreatDoor

