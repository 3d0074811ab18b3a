import Derived.Test.YtfmmllpjgkgeaaaGreatDoorPart26
set_option linter.unusedVariables false
set_option linter.unusedSimpArgs false
set_option maxHeartbeats 16000000
set_option maxRecDepth 100000
namespace Go.Proofs.YtfmmllpjgkgeaaaGreatDoor
open Go.RowKit Go.Maps Go.WideMaps Go.Shelf

theorem flatMap_le' {α : Type} (f:α->Thk.Bs) (b:Nat):∀ (l:List α),(∀ x∈l,(f x).length<=b)->(l.flatMap f).length<=l.length*b
 | [],_=>by simp
 | x :: r,h=>by
  have h1:=flatMap_le' f b r (fun y hy=>h y (by simp[hy]))
  have h2:=h x (by simp)
  rw[List.flatMap_cons,List.length_append,List.length_cons,Nat.add_mul]
  omega
theorem EncOf.len {S:Nat->Prop} {C:Nat->Option Thk.Ch} {rs:List (Nat × Nat)} {its:List (Nat × Thk.Bs)} (h:EncOf S C rs its):(encS rs its).length<=10000000:=by
 have q3:=encN_len rs.length
 have q4:=encN_len its.length
 have q5:=flatMap_le' encR 6 rs (fun r _=>by
  unfold encR encD
  have:=encN_len (who r.1);have:=encN_len (nth r.1);have:=encN_len r.2
  simp only[List.length_append];omega)
 have q6:=flatMap_le' encI 16400 its (fun x hx=>by
  unfold encI encD
  have:=encN_len (who x.1);have:=encN_len (nth x.1);have:=encN_len x.2.length
  have:=(h.io x hx).2.1
  simp only[List.length_append];omega)
 have:=h.r505
 have:=h.i505
 have e1:rs.length*6<=505*6:=Nat.mul_le_mul_right _ h.r505
 have e2:its.length*16400<=505*16400:=Nat.mul_le_mul_right _ h.i505
 unfold encS
 simp only[List.length_append]
 omega

theorem stc_zero (w:World):StC w none none none (fst (fun _=>0)) (fun _=>none):=by
 have hc:cm (fun _=>0)=fun _=>none:=(cm_ext (fun a=>rfl) (fun key _=>rfl)).symm
 have hl:lm (fun _=>false)=fun _=>none:=by funext key;simp[lm]
 have hi:itOf (fun _=>none)=fun _=>none:=rfl
 refine ⟨⟨⟨fun _=>0,fun _=>false,⟨⟨0,Or.inl ⟨rfl,rfl,hc⟩⟩,⟨0,Or.inl ⟨rfl,rfl,hl⟩⟩,fun _=>by omega,fun _ h=>absurd rfl h,fun n h=>(by cases h)⟩,fun _=>rfl,fun n _=>by simp[inK,fst]⟩,⟨0,Or.inl ⟨rfl,rfl,by rw[hi,im_none]⟩⟩,fun n h=>absurd rfl h⟩,⟨fun ns hn hm=>?_,fun k h=>absurd rfl h,fun k c h=>(by cases h),fun k c h=>(by cases h)⟩⟩
 cases ns with
 | nil=>simp
 | cons d l=>have:=hm d (by simp);unfold fst at this;dsimp only at this;omega

theorem RepNew_any (w:World) (hG:Glob w) (a room:Nat) (sv:Value) (nb:List Nat) (hsl:SliceN w sv nb) (ha:a<=5) (hr:room<=50) (h5:∀ j∈nb,j<=5) (hl:nb.length<=6) :
  Calls Tryz.prog 74 #[.int .i64 (a:Int),.int .i64 (room:Int),sv] w fun e w'=>∃ rb kb db ab,e=.returned (.pointer (some ⟨rb,0,none⟩))/\RepF w' ⟨rb,a,none,none,none,kb,db,room,.slice none 0 0,0,ab,nb,fun _=>0,[],fun _=>0,fun _=>none,0,false,0⟩/\(w.heap.size<=rb/\w.heap.size<=kb/\w.heap.size<=db/\w.heap.size<=ab)/\Below w.heap.size w w':=by
 obtain ⟨ao,cap,hs⟩:=hsl.shape
 subst hs
 have HN:Hid (_):=kNew_any w room _ nb hsl hr h5 hl
 have HG:Hid (Glob w):=hG
 clear hsl h5 hG
 go_enter Tryz.func74,Tryz.ntmps74
 go_wp2_with fail
 refine Calls.mono HN.out ?_
 rintro e w1 ⟨kb,ab,rfl,hK1,hkb,hab,hb1⟩
 obtain ⟨w2,hw2⟩:∃ w2,w2=w1.alloc (.cells #[.int .i64 (a:Int),.map none,.map none,.map none,.pointer (some ⟨kb,0,none⟩),.pointer none,.bool false] 125):=⟨_,rfl⟩
 have h12:Below w1.heap.size w1 w2:=by rw[hw2];exact (Below.refl _ w1).alloc (Nat.le_refl _) _
 have hb2:Below w.heap.size w w2:=hb1.trans (h12.mono hb1.size)
 have k2:Blk w2 w1.heap.size #[.int .i64 (a:Int),.map none,.map none,.map none,.pointer (some ⟨kb,0,none⟩),.pointer none,.bool false] 125:=by rw[hw2];exact Blk.new w1 _ _
 have hs1:=hb1.size
 have q1:=(k2.cell 1).trans rfl
 have q2:=(k2.cell 2).trans rfl
 have q3:=(k2.cell 3).trans rfl
 have H2:Hid (KeptP w2 kb room (.slice none 0 0) 0 ab nb (fun _=>0) []/\Blk w2 w1.heap.size #[.int .i64 (a:Int),.map none,.map none,.map none,.pointer (some ⟨kb,0,none⟩),.pointer none,.bool false] 125/\Below w.heap.size w w2):=⟨hK1.below h12,k2,hb2⟩
 have HW:Hid (_):=written_any w2 (HG.out.mono hb2) none none none _ _ (stc_zero w2)
 have Hw2:Hid (w2=w1.alloc (.cells #[.int .i64 (a:Int),.map none,.map none,.map none,.pointer (some ⟨kb,0,none⟩),.pointer none,.bool false] 125)):=hw2
 clear HN hK1 h12 hb2 k2 hw2
 go_wp2_with fail
 rw[<- Hw2.out]
 refine Calls.mono HW.out ?_
 rintro e w3 ⟨s,rs,its,rfl,hs,he,hz,hb3⟩
 have HD:Hid (_):=diskNew w3 s (by omega)
 have H3:Hid (KeptP w3 kb room (.slice none 0 0) 0 ab nb (fun _=>0) []/\Blk w3 w1.heap.size #[.int .i64 (a:Int),.map none,.map none,.map none,.pointer (some ⟨kb,0,none⟩),.pointer none,.bool false] 125/\Below w.heap.size w w3):=⟨H2.out.1.below hb3,H2.out.2.1.below hb3,H2.out.2.2.trans (hb3.mono H2.out.2.2.size)⟩
 have hs3:w1.heap.size<w3.heap.size:=H3.out.2.1.lt
 have HE:Hid (toL s=encS rs its/\EncOf (fst (fun _=>0)) (fun _=>none) rs its):=⟨hs,he⟩
 clear HW H2 Hw2 hb3 q1 q2 q3 hs he
 go_wp2_with fail
 refine Calls.mono HD.out ?_
 rintro e w4 ⟨rfl,hd4,hb4⟩
 have k4:=H3.out.2.1.below hb4
 have c5:=(k4.cell 5).trans rfl
 have cf:=k4.frozen
 have H4:Hid (KeptP w4 kb room (.slice none 0 0) 0 ab nb (fun _=>0) []/\Blk w4 w1.heap.size #[.int .i64 (a:Int),.map none,.map none,.map none,.pointer (some ⟨kb,0,none⟩),.pointer none,.bool false] 125/\Below w.heap.size w w4/\DiskS w4 w3.heap.size 0 (toL s) false 0):=⟨H3.out.1.below hb4,k4,H3.out.2.2.trans (hb4.mono H3.out.2.2.size),hd4⟩
 clear HD H3 hd4 hb4 k4
 go_wp2_with fail
 go_ret
 have hcz:Chg (fun k=>k=w1.heap.size) w4 (w4.setCell ⟨w1.heap.size,5,none⟩ (.pointer (some ⟨w3.heap.size,0,none⟩))):=(Chg.refl (fun k=>k=w1.heap.size) w4).setCell (p:=⟨w1.heap.size,5,none⟩) rfl _
 have hkl:ab<w1.heap.size\/w1.heap.size<=ab:=Nat.lt_or_ge _ _
 refine ⟨w1.heap.size,kb,w3.heap.size,ab,rfl,⟨?_,stc_zero _, ?_,⟨rs,its, ?_,HE.out.2⟩,by simp,fun _=>Nat.zero_le _,ha,Nat.zero_le _⟩,by omega,H4.out.2.2.1.setCell (p:=⟨w1.heap.size,5,none⟩) (by show w.heap.size<=w1.heap.size;omega) _⟩
 ·have:=H4.out.2.1
  unfold Blk at this ⊢
  simp[World.setCell,Array.getElem?_modify,this]
 ·refine H4.out.1.chg1 hcz (fun e=>?_) (fun k hk=>by cases hk) (fun e=>?_) (fun k e _=>by subst e;exact ⟨_,_,_,H4.out.2.1⟩)
  ·exact blk_ne H4.out.1.blk H4.out.2.1 (by decide) e
  ·obtain ⟨N,hN⟩:=H4.out.1.ack
   exact hN.noTag (e ▸ H4.out.2.1)
 ·have:=H4.out.2.2.2.chg hcz (by omega)
  rw[HE.out.1] at this
  exact this

structure RepM (w:World) (r:RD):Prop where
 blk:Blk w r.rb #[.int .i64 (r.a:Int),.map r.io,.map r.co,.map r.lo,.pointer (some ⟨r.kb,0,none⟩),.pointer (some ⟨r.db,0,none⟩),.bool false] 125
 kept:KeptP w r.kb r.room r.pv r.dr r.ab r.nb r.A r.ps
 dsk:∃ rs its,DiskS w r.db r.n (encS rs its) r.cut r.k/\EncOf (fst r.K) r.C rs its
 b:StoB (fst r.K) r.C
 k500:∀ x,r.K x<=500
 a5:r.a<=5
 n:r.n<=sizeK r.K
theorem RepF.mem {w:World} {r:RD} (h:RepF w r):RepM w r:=⟨h.blk,h.kept,h.dsk,h.st.b,h.k500,h.a5,h.n⟩
theorem RepM.below {w w':World} {r:RD} (h:RepM w r) (hb:Below w.heap.size w w'):RepM w' r:=by
 obtain ⟨rs,its,h1,h2⟩:=h.dsk
 exact ⟨h.blk.below hb,h.kept.below hb,⟨rs,its,h1.chg (M:=fun _=>False) (Chg.of_below hb) (fun h=>h),h2⟩,h.b,h.k500,h.a5,h.n⟩
theorem RepM.db_ne {w:World} {r:RD} (h:RepM w r):r.db≠r.rb/\r.db≠r.kb/\r.pv.ownBlock≠some r.db/\r.db≠r.ab/\r.rb≠r.kb/\r.pv.ownBlock≠some r.rb/\r.rb≠r.ab:=by
 obtain ⟨rs,its,h1,_⟩:=h.dsk
 obtain ⟨cs,hd⟩:=h1.blk
 obtain ⟨N,hN⟩:=h.kept.ack
 exact ⟨blk_ne hd h.blk (by decide),blk_ne hd h.kept.blk (by decide),row_ne hd h.kept.row (by decide),fun e=>hN.noTag (e ▸ hd),blk_ne h.blk h.kept.blk (by decide),row_ne h.blk h.kept.row (by decide),fun e=>hN.noTag (e ▸ h.blk)⟩

theorem Crash_gen (w:World) (hG:Glob w) (r:RD) (hF:RepM w r) :
  Calls Tryz.prog 76 #[.pointer (some ⟨r.rb,0,none⟩)] w fun e w'=>e=.returned (.tuple #[])/\∃ io co lo:Nat,RepF w' { r with io:=some io,co:=some co,lo:=some lo,pv:=.slice none 0 0,dr:=sizeK r.K,A:=fun _=>0,ps:=[] }/\(w.heap.size<=io/\w.heap.size<=co/\w.heap.size<=lo)/\Chg r.own w w':=by
 obtain ⟨rs,its,hd,he⟩:=hF.dsk
 have q5:=(hF.blk.cell 5).trans rfl
 have hrl:=hF.blk.lt
 have HF:Hid (RepM w r):=hF
 have HG:Hid (Glob w):=hG
 have HE:Hid (EncOf (fst r.K) r.C rs its):=he
 have HR:Hid (_):=diskRead w r.db r.n _ r.cut r.k hd
 have hel:=he.len
 clear hF hG hd he
 go_enter Tryz.func76,Tryz.ntmps76
 go_wp2_with fail
 refine Calls.mono HR.out ?_
 rintro e w1 ⟨u,rfl,hu,hb1⟩
 have hus:u.size<=1000000000:=by rw[<- toL_length,hu];omega
 have Hu:Hid (toL u=encS rs its ++ []):=by unfold Hid;rw[hu,List.append_nil]
 have HB1:Hid (Below w.heap.size w w1):=hb1
 clear HR hu
 go_wp2_with fail
 refine Calls.mono (NewReader_any _ u) ?_
 rintro e w2 ⟨rfl,rfl⟩
 have hs1:=HB1.out.size
 have h3w:=HG.out.size
 have HS:Hid (∀ wx,wx=w1.alloc (.cells #[.string u,.bool false] 245)->Calls Tryz.prog 126 #[.pointer (some ⟨w1.heap.size,0,none⟩)] wx fun e w'=>∃ ib cb lb,e=.returned (.agg #[.map (some ib),.map (some cb),.map (some lb)])/\(StoreS w' ib cb lb (fst r.K) (itOf r.C)/\(w.heap.size<=ib/\w.heap.size<=cb/\w.heap.size<=lb)/\Below w.heap.size w w')):=fun wx hx=>by
  have hbx:Below w1.heap.size w1 wx:=by rw[hx];exact (Below.refl _ w1).alloc (Nat.le_refl _) _
  have hbw:=HB1.out.trans (hbx.mono hs1)
  have hsx:w1.heap.size<=wx.heap.size:=hbx.size
  refine Calls.mono (rStore_any wx (HG.out.mono hbw) w1.heap.size (by omega) u rs its [] (by rw[hx];exact Blk.new w1 _ _) Hu.out hus HE.out.r505 HE.out.ro HE.out.i505 HE.out.io) ?_
  rintro e w' ⟨ib,cb,lb,s',rfl,h1,_,_,h2,h3⟩
  rw[HE.out.it] at h1
  refine ⟨ib,cb,lb,rfl,⟨h1.ctx.iff (fun d hd=>by have:=HE.out.dots d hd;rw[HE.out.it] at this;exact this.symm),h1.its,h1.ne,fun n hn=>⟨(h1.ok n hn).1, ?_⟩⟩,by omega,rb_below hbw h3 hs1⟩
  exact (HF.out.b.ok n (itOf_none.1 hn)).2
 clear hb1
 go_wp2_with fail
 refine Calls.mono (HS.out _ rfl) ?_
 rintro e w3 ⟨ib,cb,lb,rfl,hX3⟩
 have hF3:RepM w3 r:=HF.out.below hX3.2.2
 have c1:=(hF3.blk.cell 1).trans rfl
 have c2:=(hF3.blk.cell 2).trans rfl
 have c3:=(hF3.blk.cell 3).trans rfl
 have cf:=hF3.blk.frozen
 have H3:Hid (StoreS w3 ib cb lb (fst r.K) (itOf r.C)/\(w.heap.size<=ib/\w.heap.size<=cb/\w.heap.size<=lb)/\Below w.heap.size w w3/\RepM w3 r):=⟨hX3.1,hX3.2.1,hX3.2.2,hF3⟩
 clear HS hX3 hF3
 go_wp2_with fail
 obtain ⟨w4,hw4⟩:∃ w4,w4=((w3.setCell ⟨r.rb,1,none⟩ (.map (some ib))).setCell ⟨r.rb,2,none⟩ (.map (some cb))).setCell ⟨r.rb,3,none⟩ (.map (some lb)):=⟨_,rfl⟩
 have hcr:Chg (fun k=>k=r.rb) w3 w4:=by rw[hw4];exact (((Chg.refl (fun k=>k=r.rb) w3).setCell (p:=⟨r.rb,1,none⟩) rfl _).setCell (p:=⟨r.rb,2,none⟩) rfl _).setCell (p:=⟨r.rb,3,none⟩) rfl _
 have hne:=HF.out.db_ne
 have hn3:=H3.out.2.1
 have hal:r.ab<w.heap.size:=HF.out.kept.lt (Or.inr (Or.inr (Or.inl rfl)))
 have hR4:RepF w4 { r with io:=some ib,co:=some cb,lo:=some lb }:=by
  obtain ⟨rs',its',hd',he'⟩:=H3.out.2.2.2.dsk
  refine ⟨by rw[hw4];exact blk7_known H3.out.2.2.2.blk,⟨(H3.out.1.chg hcr (by omega) (by omega) (by omega)).toR,HF.out.b⟩, ?_,⟨rs',its',hd'.chg hcr hne.1,he'⟩, ?_,HF.out.k500,HF.out.a5,HF.out.n⟩
  ·exact H3.out.2.2.2.kept.chg1 hcr (fun e=>hne.2.2.2.2.1 e.symm) (fun k hk e=>hne.2.2.2.2.2.1 (e ▸ hk)) (fun e=>hne.2.2.2.2.2.2 e.symm) (fun k e _=>by subst e;exact ⟨_,_,_,H3.out.2.2.2.blk⟩)
  ·intro e
   rcases e with e | e | e <;> (simp only[Option.some.injEq] at e;omega)
 have hC4:Chg r.own w w4:=(Chg.of_below H3.out.2.2.1).trans (hcr.mono (fun k _ e=>Or.inl e))
 have f4:w4.cell? ⟨r.rb,4,none⟩=some (.pointer (some ⟨r.kb,0,none⟩)):=(hR4.blk.cell 4).trans rfl
 have H4:Hid (RepF w4 { r with io:=some ib,co:=some cb,lo:=some lb }/\Chg r.own w w4):=⟨hR4,hC4⟩
 have hK5:=sizeK_le HF.out.k500
 have HKn:Hid (∀ wx,wx.heap=w4.heap->wx.os=w4.os->wx.tape=w4.tape->wx.output=w4.output->Calls Tryz.prog 46 #[.pointer (some ⟨r.rb,0,none⟩)] wx fun e w'=>e=.returned (.int .i64 (sizeK r.K:Int))/\Below w4.heap.size w4 w'/\w'.cell? ⟨r.rb,4,none⟩=some (.pointer (some ⟨r.kb,0,none⟩))):=fun wx hx ho ht hp=>by
  have hbx:Below w4.heap.size w4 wx:=⟨ho,ht,hp,by rw[hx];exact Nat.le_refl _,fun k _=>by rw[hx]⟩
  refine Calls.mono (RepKnows_any wx r.rb r.a (some ib) (some cb) (some lb) r.K r.C (H4.out.1.below hbx).rep) ?_
  rintro e w' ⟨rfl,h1⟩
  have h2:=hbx.trans (h1.mono hbx.size)
  exact ⟨rfl,h2,((H4.out.1.blk.below h2).cell 4).trans rfl⟩
 have HLs:Hid (∀ wx w5,Below w4.heap.size w4 w5->wx.heap=w5.heap->wx.os=w5.os->wx.tape=w5.tape->wx.output=w5.output->Calls Tryz.prog 127 #[.pointer (some ⟨r.kb,0,none⟩),.int .i64 (sizeK r.K:Int)] wx fun e w'=>e=.returned (.tuple #[])/\(RepF w' { r with io:=some ib,co:=some cb,lo:=some lb,pv:=.slice none 0 0,dr:=sizeK r.K,A:=fun _=>0,ps:=[] }/\Chg r.own w w')):=fun wx w5 hb5 hx ho ht hp=>by
  have hbx:Below w4.heap.size w4 wx:=hb5.trans ⟨ho,ht,hp,by rw[hx];exact Nat.le_refl _,fun k _=>by rw[hx]⟩
  have hRx:=H4.out.1.below hbx
  refine Calls.mono (Lose_any wx r.kb r.room r.pv r.dr r.ab r.nb r.A r.ps (sizeK r.K) hRx.kept (by omega)) ?_
  rintro e w' ⟨rfl,h1,h2⟩
  exact ⟨rfl,hRx.kept' h2 (fun k hk=>by rcases hk with e | e;exact Or.inl e;exact Or.inr (Or.inr e)) h1,(H4.out.2.below hbx).trans (h2.mono (fun k _ e=>Or.inr (Or.inr (Or.inl (by rcases e with e | e;exact Or.inl e;exact Or.inr (Or.inr (Or.inl e)))))))⟩
 have Hw4:Hid (w4=((w3.setCell ⟨r.rb,1,none⟩ (.map (some ib))).setCell ⟨r.rb,2,none⟩ (.map (some cb))).setCell ⟨r.rb,3,none⟩ (.map (some lb))):=hw4
 rw[<- Hw4.out]
 clear hw4 hcr hR4 hC4 c1 c2 c3 cf H3 q5
 go_region_with (first | (go_at_call 127;refine Calls.mono (HLs.out _ w5 h5 rfl rfl rfl rfl) ?_;rintro e w6 ⟨rfl,h6⟩) | (go_at_call 46;refine Calls.mono (HKn.out _ rfl rfl rfl rfl) ?_;rintro e w5 ⟨rfl,h5,g4⟩))
 all_goals
  go_wp2_with fail
  exact bodyPost_end (results_none rfl _ _ _) rfl ⟨rfl,ib,cb,lb,h6.1,hn3,h6.2⟩
theorem Crash_any (w:World) (hG:Glob w) (r:RD) (hF:RepF w r) :
  Calls Tryz.prog 76 #[.pointer (some ⟨r.rb,0,none⟩)] w fun e w'=>e=.returned (.tuple #[])/\∃ io co lo:Nat,RepF w' { r with io:=some io,co:=some co,lo:=some lo,pv:=.slice none 0 0,dr:=sizeK r.K,A:=fun _=>0,ps:=[] }/\(w.heap.size<=io/\w.heap.size<=co/\w.heap.size<=lo)/\Chg r.own w w':=Crash_gen w hG r hF.mem
end Go.Proofs.YtfmmllpjgkgeaaaGreatDoor
namespace Go.Proofs.YtfmmllpjgkgeaaaGreatDoor
open Go.RowKit Go.Maps Go.WideMaps

def maxK (K1 K2:Nat->Nat):Nat->Nat:=fun x=>max (K1 x) (K2 x)
open Classical in
noncomputable def joinC (K1:Nat->Nat) (C1:Nat->Option Thk.Ch) (K2:Nat->Nat) (C2:Nat->Option Thk.Ch):Nat->Option Thk.Ch:=fun d =>
 if (C1 d=none/\nth d<=K1 (who d))\/(C2 d=none/\nth d<=K2 (who d)) then none else (C1 d).or (C2 d)

end Go.Proofs.YtfmmllpjgkgeaaaGreatDoor

