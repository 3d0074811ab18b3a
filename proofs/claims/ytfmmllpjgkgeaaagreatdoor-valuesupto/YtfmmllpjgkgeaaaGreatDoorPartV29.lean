import Derived.Test.YtfmmllpjgkgeaaaGreatDoorPartV28
set_option linter.unusedVariables false
set_option linter.unusedSimpArgs false
set_option maxHeartbeats 16000000
set_option maxRecDepth 100000
namespace Go.Proofs.YtfmmllpjgkgeaaaGreatDoor
open Go.RowKit Go.Maps Go.WideMaps Go.Shelf

theorem stc_zero (w:World):StC w none none none (fst (fun _=>0)) (fun _=>none):=by
 have hc:cm (fun _=>0)=fun _=>none:=(cm_ext (fun a=>rfl) (fun key _=>rfl)).symm
 have hl:lm (fun _=>false)=fun _=>none:=by funext key;simp[lm]
 have hi:itOf (fun _=>none)=fun _=>none:=rfl
 refine ⟨⟨⟨fun _=>0,fun _=>false,⟨⟨0,Or.inl ⟨rfl,rfl,hc⟩⟩,⟨0,Or.inl ⟨rfl,rfl,hl⟩⟩,fun _=>by omega,fun _ h=>absurd rfl h,fun n h=>(by cases h)⟩,fun _=>rfl,fun n _=>by simp[inK,fst]⟩,⟨0,Or.inl ⟨rfl,rfl,by rw[hi,im_none]⟩⟩,fun n h=>absurd rfl h⟩,⟨fun ns hn hm=>?_,fun k h=>absurd rfl h,fun k c h=>(by cases h),fun k c h=>(by cases h)⟩⟩
 cases ns with
 | nil=>simp
 | cons d l=>have:=hm d (by simp);unfold fst at this;dsimp only at this;omega

theorem RepNew_any (w:World) (hG:Glob w) (a room:Nat) (sv:Value) (nb:List Nat) (hsl:SliceN w sv nb) (ha:a<=5) (hr:room<=50) (h5:∀ j∈nb,j<=5) (hl:nb.length<=6) :
  Calls Tryz.prog 74 #[.int .i64 (a:Int),.int .i64 (room:Int),sv] w fun e w'=>∃ rb kb db ab,e=.returned (.pointer (some ⟨rb,0,none⟩))/\RepF w' ⟨rb,a,none,none,none,kb,db,room,.slice none 0 0,0,ab,nb,fun _=>0,[],fun _=>0,fun _=>none,0,false,0⟩/\(w.heap.size<=rb/\w.heap.size<=kb/\w.heap.size<=db/\w.heap.size<=ab)/\Below w.heap.size w w':=by
 obtain ⟨ao,cap,hs⟩:=hsl.shape
 subst hs
 have HN:Hid (_):=kNew_any w room _ nb hsl hr h5 hl
 have HG:Hid (Glob w):=hG
 clear hsl h5 hG
 go_enter Tryz.func74,Tryz.ntmps74
 go_wp2_with fail
 refine Calls.mono HN.out ?_
 rintro e w1 ⟨kb,ab,rfl,hK1,hkb,hab,hb1⟩
 obtain ⟨w2,hw2⟩:∃ w2,w2=w1.alloc (.cells #[.int .i64 (a:Int),.map none,.map none,.map none,.pointer (some ⟨kb,0,none⟩),.pointer none,.bool false] 125):=⟨_,rfl⟩
 have h12:Below w1.heap.size w1 w2:=by rw[hw2];exact (Below.refl _ w1).alloc (Nat.le_refl _) _
 have hb2:Below w.heap.size w w2:=hb1.trans (h12.mono hb1.size)
 have k2:Blk w2 w1.heap.size #[.int .i64 (a:Int),.map none,.map none,.map none,.pointer (some ⟨kb,0,none⟩),.pointer none,.bool false] 125:=by rw[hw2];exact Blk.new w1 _ _
 have hs1:=hb1.size
 have q1:=(k2.cell 1).trans rfl
 have q2:=(k2.cell 2).trans rfl
 have q3:=(k2.cell 3).trans rfl
 have H2:Hid (KeptP w2 kb room (.slice none 0 0) 0 ab nb (fun _=>0) []/\Blk w2 w1.heap.size #[.int .i64 (a:Int),.map none,.map none,.map none,.pointer (some ⟨kb,0,none⟩),.pointer none,.bool false] 125/\Below w.heap.size w w2):=⟨hK1.below h12,k2,hb2⟩
 have HW:Hid (_):=written_any w2 (HG.out.mono hb2) none none none _ _ (stc_zero w2)
 have Hw2:Hid (w2=w1.alloc (.cells #[.int .i64 (a:Int),.map none,.map none,.map none,.pointer (some ⟨kb,0,none⟩),.pointer none,.bool false] 125)):=hw2
 clear HN hK1 h12 hb2 k2 hw2
 go_wp2_with fail
 rw[<- Hw2.out]
 refine Calls.mono HW.out ?_
 rintro e w3 ⟨s,rs,its,rfl,hs,he,hz,hb3⟩
 have HD:Hid (_):=diskNew w3 s (by omega)
 have H3:Hid (KeptP w3 kb room (.slice none 0 0) 0 ab nb (fun _=>0) []/\Blk w3 w1.heap.size #[.int .i64 (a:Int),.map none,.map none,.map none,.pointer (some ⟨kb,0,none⟩),.pointer none,.bool false] 125/\Below w.heap.size w w3):=⟨H2.out.1.below hb3,H2.out.2.1.below hb3,H2.out.2.2.trans (hb3.mono H2.out.2.2.size)⟩
 have hs3:w1.heap.size<w3.heap.size:=H3.out.2.1.lt
 have HE:Hid (toL s=encS rs its/\EncOf (fst (fun _=>0)) (fun _=>none) rs its):=⟨hs,he⟩
 clear HW H2 Hw2 hb3 q1 q2 q3 hs he
 go_wp2_with fail
 refine Calls.mono HD.out ?_
 rintro e w4 ⟨rfl,hd4,hb4⟩
 have k4:=H3.out.2.1.below hb4
 have c5:=(k4.cell 5).trans rfl
 have cf:=k4.frozen
 have H4:Hid (KeptP w4 kb room (.slice none 0 0) 0 ab nb (fun _=>0) []/\Blk w4 w1.heap.size #[.int .i64 (a:Int),.map none,.map none,.map none,.pointer (some ⟨kb,0,none⟩),.pointer none,.bool false] 125/\Below w.heap.size w w4/\DiskS w4 w3.heap.size 0 (toL s) false 0):=⟨H3.out.1.below hb4,k4,H3.out.2.2.trans (hb4.mono H3.out.2.2.size),hd4⟩
 clear HD H3 hd4 hb4 k4
 go_wp2_with fail
 go_ret
 have hcz:Chg (fun k=>k=w1.heap.size) w4 (w4.setCell ⟨w1.heap.size,5,none⟩ (.pointer (some ⟨w3.heap.size,0,none⟩))):=(Chg.refl (fun k=>k=w1.heap.size) w4).setCell (p:=⟨w1.heap.size,5,none⟩) rfl _
 have hkl:ab<w1.heap.size\/w1.heap.size<=ab:=Nat.lt_or_ge _ _
 refine ⟨w1.heap.size,kb,w3.heap.size,ab,rfl,⟨?_,stc_zero _, ?_,⟨rs,its, ?_,HE.out.2⟩,by simp,fun _=>Nat.zero_le _,ha,Nat.zero_le _⟩,by omega,H4.out.2.2.1.setCell (p:=⟨w1.heap.size,5,none⟩) (by show w.heap.size<=w1.heap.size;omega) _⟩
 ·have:=H4.out.2.1
  unfold Blk at this ⊢
  simp[World.setCell,Array.getElem?_modify,this]
 ·refine H4.out.1.chg1 hcz (fun e=>?_) (fun k hk=>by cases hk) (fun e=>?_) (fun k e _=>by subst e;exact ⟨_,_,_,H4.out.2.1⟩)
  ·exact blk_ne H4.out.1.blk H4.out.2.1 (by decide) e
  ·obtain ⟨N,hN⟩:=H4.out.1.ack
   exact hN.noTag (e ▸ H4.out.2.1)
 ·have:=H4.out.2.2.2.chg hcz (by omega)
  rw[HE.out.1] at this
  exact this

end Go.Proofs.YtfmmllpjgkgeaaaGreatDoor
namespace Go.Proofs.YtfmmllpjgkgeaaaGreatDoor
open Go.RowKit Go.Maps Go.WideMaps

end Go.Proofs.YtfmmllpjgkgeaaaGreatDoor

