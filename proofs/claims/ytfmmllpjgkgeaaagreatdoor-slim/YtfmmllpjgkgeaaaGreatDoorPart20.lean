import Derived.Test.YtfmmllpjgkgeaaaGreatDoorPart12
import Derived.Test.YtfmmllpjgkgeaaaGreatDoorPart19
set_option linter.unusedVariables false
set_option linter.unusedSimpArgs false
set_option maxHeartbeats 16000000
set_option maxRecDepth 100000
namespace Go.Proofs.YtfmmllpjgkgeaaaGreatDoor
open Go.RowKit Go.Maps Go.WideMaps Go.Shelf

theorem toL_nums (l:Thk.Bs):toL (strOfNums (l.map fun b=>(b.toNat:Int)))=l:=by
 unfold toL strOfNums
 simp[List.map_map,Function.comp_def]
theorem conv_out {B:Nat} {w:World} {v:Value} {l:Thk.Bs} (h:OutV B w v l) (hl:l≠[]):(convert 93 9 v).run Tryz.prog w=.ok (.string (strOfNums (l.map fun b=>(b.toNat:Int)))) w:=by
 have hcl:=fun g (hg:v.ownBlock=some g)=>h.cells hg
 rcases h.2 with ⟨rfl,h2⟩ | ⟨g,cap,cur,rfl,_⟩
 ·exact absurd (List.eq_nil_of_length_eq_zero h2) hl
 ·refine run_convert_bytes_arg (P:=Tryz.prog) _ 93 5 Tryz.underlying93 Tryz.underlying5 g 0 l.length cap _ (by simp) ?_ 9 Tryz.underlying9
  intro i hi
  have:=hcl g rfl i (.int .u8 (l[i].toNat:Int)) (by unfold bsV;simp[hi])
  rw[addr0] at this
  rw[Nat.zero_add,this]
  simp[hi]
theorem encN_ne (n:Nat) (l:Thk.Bs):encN n ++ l≠[]:=fun h=>by
 have h1:=encN_len n
 have h2:=congrArg List.length h
 rw[List.length_append] at h2
 simp at h2
 rw[h2.1] at h1
 simp at h1

def encAm (a m:Nat):Thk.Bs:=encN 1 ++ encN a ++ encN m
def encFm (a m:Nat) (rs:List (Nat × Nat)) (its:List (Nat × Thk.Bs)):Thk.Bs:=encN 0 ++ encN a ++ encN m ++ encS rs its
theorem encS_small {C:Nat->Option Thk.Ch} {rs:List (Nat × Nat)} {xs:List Itm} (l:Thk.Bs) (hl:l.length<=100) (hr:rs.length<=505) (hx:xs.length<=505) (h:∀ k c,C k=some c->(txtC c).length<=1000):(l ++ encS rs (wIt C xs)).length<=600000:=by
 have h1:=enc_small l rs rs.length hl hr
 rw[List.take_length] at h1
 have h2:=items_small C h xs
 have h3:=encN_len (wIt C xs).length
 unfold encS
 simp only[List.length_append] at h1 ⊢
 have:xs.length*1006<=505*1006:=Nat.mul_le_mul_right _ hx
 omega
theorem sealL_ne (l:Thk.Bs):sealL l≠[]:=fun h=>by have:=sealL_len l;rw[h] at this;simp at this

theorem Bytes_ack (w:World) (a m:Nat) (ha:a<=5) (hm:m<=505) (io co lo:Option Nat) :
  Calls Tryz.prog 97 #[.agg #[.int .i64 (a:Int),.int .i64 (m:Int),.bool true,.map io,.map co,.map lo]] w fun e w'=>∃ s,e=.returned (.string s)/\toL s=sealL (encAm a m)/\Below w.heap.size w w':=by
 have h1:=encN_len 1
 have h2:=encN_len a
 have h3:=encN_len m
 have hlen:Hid ((encAm a m).length<=1000000):=by unfold Hid encAm;simp only[List.length_append];omega
 have HA:Hid (∀ ob,Calls Tryz.prog 164 #[.agg #[.int .i64 (a:Int),.int .i64 (m:Int),.bool true,.map io,.map co,.map lo],.int .i64 1] (w.alloc ob) fun e w'=>∃ va n k,e=.returned (.slice va n k)/\Hid (OutV w.heap.size w' (.slice va n k) (encAm a m)/\Below w.heap.size w w')):=fun ob=>by
  refine Calls.mono (head_any (w.alloc ob) a m 1 true _ _ _ ha hm (by omega)) ?_
  rintro e w' ⟨v',rfl,h1,h2⟩
  obtain ⟨va,n,k,rfl⟩:=h1.shape
  have hb:Below w.heap.size w (w.alloc ob):=(Below.refl _ w).alloc (Nat.le_refl _) _
  exact ⟨va,n,k,rfl,own_base h1 hb.size,hb.trans ((h2.below (Nat.le_refl _)).mono hb.size)⟩
 clear h1 h2 h3
 go_enter Tryz.func97,Tryz.ntmps97
 go_wp2_with fail
 refine Calls.mono (HA.out _) ?_
 rintro e w2 ⟨va,n,k,rfl,hH⟩
 go_wp2_with fail
 refine Calls.mono (Seal_any w.heap.size w2 _ _ hH.out.1 hH.out.2.size hlen.out) ?_
 rintro e w3 ⟨v3,rfl,h5,h6⟩
 obtain ⟨va3,n3,k3,rfl⟩:=h5.shape
 have hcv:=conv_out h5 (sealL_ne _)
 have HB:Hid (Below w.heap.size w w3):=hH.out.2.trans (h6.below hH.out.2.size)
 clear h5 h6 hH HA
 go_wp2_with fail
 go_ret
 exact ⟨_,rfl,by rw[toL_nums],HB.out⟩

theorem Bytes_brings (w:World) (hG:Glob w) (a m:Nat) (ha:a<=5) (hm:m<=505) (io co lo:Option Nat) (c:Nat->Nat) (L:Nat->Bool) (C:Nat->Option Thk.Ch) (N:Nat)
  (hctx:CtxV w (.map co) (.map lo) c L) (hits:MapO Tryz.prog 134 w (.map io) N (im (itOf C))) (hok:∀ k,C k≠none->okD k) (hN:N<=505)
  (hns:∀ ns:List Nat,ns.Nodup->(∀ d,d∈ns↔1<=nth d/\inK c L d)->ns.length<=505)
  (hch:∀ k c,C k=some c->(c.act=43\/c.act=94\/c.act=61\/c.act=62)/\(-9223372036854775808<=c.n/\c.n<=9223372036854775807)/\c.path.length<=1048576/\(keptVal c.act ⟨c.val.toArray⟩).size<=1048576/\(txtC c).length<=1000) :
  Calls Tryz.prog 97 #[.agg #[.int .i64 (a:Int),.int .i64 (m:Int),.bool false,.map io,.map co,.map lo]] w fun e w'=>∃ s,e=.returned (.string s)/\(∃ ns rs xs,ns.Nodup/\(∀ d,d∈ns↔1<=nth d/\inK c L d)/\Runs ns ns.length rs/\SAll (itOf C) xs/\xs.length=N/\toL s=sealL (encFm a m rs (wIt C xs))/\s.size<=700000)/\Below w.heap.size w w':=by
 have h3w:=hG.size
 obtain ⟨w0,hw0⟩:∃ w0,w0=w.alloc (.cells #[.int .i64 (a:Int),.int .i64 (m:Int),.bool false,.map io,.map co,.map lo] 104):=⟨_,rfl⟩
 have hb0:Below w.heap.size w w0:=by rw[hw0];exact (Below.refl _ w).alloc (Nat.le_refl _) _
 have kb:Blk w0 w.heap.size #[.int .i64 (a:Int),.int .i64 (m:Int),.bool false,.map io,.map co,.map lo] 104:=by rw[hw0];exact Blk.new w _ _
 have c0:=(kb.cell 0).trans rfl
 have c1:=(kb.cell 1).trans rfl
 have c2:=(kb.cell 2).trans rfl
 have c3:=(kb.cell 3).trans rfl
 have c4:=(kb.cell 4).trans rfl
 have c5:=(kb.cell 5).trans rfl
 have hen:=encN_len 0
 have hea:=encN_len a
 have hem:=encN_len m
 have HA:Hid (∀ wx,wx.heap=w0.heap->wx.os=w0.os->wx.tape=w0.tape->wx.output=w0.output->Calls Tryz.prog 164 #[.agg #[.int .i64 (a:Int),.int .i64 (m:Int),.bool false,.map io,.map co,.map lo],.int .i64 0] wx fun e w'=>∃ va n k,e=.returned (.slice va n k)/\(OutV w.heap.size w' (.slice va n k) (encN 0 ++ encN a ++ encN m)/\Below w.heap.size w w')/\w'.cell? ⟨w.heap.size,3,none⟩=some (.map io)/\w'.cell? ⟨w.heap.size,4,none⟩=some (.map co)/\w'.cell? ⟨w.heap.size,5,none⟩=some (.map lo)):=fun wx hx ho ht hp=>by
  refine Calls.mono (head_any wx a m 0 false _ _ _ ha hm (by omega)) ?_
  rintro e w' ⟨v',rfl,h1,h2⟩
  obtain ⟨va,n,k,rfl⟩:=h1.shape
  have hbx:Below w.heap.size w wx:=⟨ho.trans hb0.os,ht.trans hb0.tape,hp.trans hb0.output,by rw[hx];exact hb0.size,fun k hk=>by rw[hx];exact hb0.block k hk⟩
  have h3:=h2.below (Nat.le_refl _)
  have kx:Blk wx w.heap.size #[.int .i64 (a:Int),.int .i64 (m:Int),.bool false,.map io,.map co,.map lo] 104:=by unfold Blk;rw[hx];exact kb
  have k':=kx.below h3
  exact ⟨va,n,k,rfl,⟨own_base h1 hbx.size,hbx.trans (h3.mono hbx.size)⟩,(k'.cell 3).trans rfl,(k'.cell 4).trans rfl,(k'.cell 5).trans rfl⟩
 have HS:Hid (∀ wx w5 va n k,(OutV w.heap.size w5 (.slice va n k) (encN 0 ++ encN a ++ encN m)/\Below w.heap.size w w5)->wx.heap=w5.heap->wx.os=w5.os->wx.tape=w5.tape->wx.output=w5.output->Calls Tryz.prog 165 #[.slice va n k,.agg #[.map io,.map co,.map lo]] wx fun e w'=>∃ va' n' k' ns rs xs,e=.returned (.slice va' n' k')/\(OutV w.heap.size w' (.slice va' n' k') (encFm a m rs (wIt C xs))/\Below w.heap.size w w'/\ns.Nodup/\(∀ d,d∈ns↔1<=nth d/\inK c L d)/\Runs ns ns.length rs/\SAll (itOf C) xs/\xs.length=N/\(encFm a m rs (wIt C xs)).length<=600000)):=fun wx w5 va n k h5 hx ho ht hp=>by
  have hbx:Below w.heap.size w wx:=⟨ho.trans h5.2.os,ht.trans h5.2.tape,hp.trans h5.2.output,by rw[hx];exact h5.2.size,fun k hk=>by rw[hx];exact h5.2.block k hk⟩
  have hl100:(encN 0 ++ encN a ++ encN m).length<=100:=by simp only[List.length_append];omega
  refine Calls.mono (wStore_any wx (hG.mono hbx) w.heap.size h3w (.slice va n k) (encN 0 ++ encN a ++ encN m) (h5.1.heap hx) hbx.size hl100 io co lo c L C N (hctx.below hbx) (hits.below hbx) hok hN hns hch) ?_
  rintro e w' ⟨v',ns,rs,xs,rfl,h1,h2,h3,h4,h6,h7⟩
  obtain ⟨va',n',k',rfl⟩:=h6.shape
  have hxN:=all_len hits h4
  exact ⟨va',n',k',ns,rs,xs,rfl,h6,hbx.trans (h7.below hbx.size),h1,h2,h3,h4,hxN,encS_small _ hl100 (Nat.le_trans h3.len (hns ns h1 h2)) (by omega) (fun k c hk=>(hch k c hk).2.2.2.2)⟩
 have HL:Hid (∀ wx w5 va n k ns rs xs,(OutV w.heap.size w5 (.slice va n k) (encFm a m rs (wIt C xs))/\Below w.heap.size w w5/\ns.Nodup/\(∀ d,d∈ns↔1<=nth d/\inK c L d)/\Runs ns ns.length rs/\SAll (itOf C) xs/\xs.length=N/\(encFm a m rs (wIt C xs)).length<=600000)->wx.heap=w5.heap->wx.os=w5.os->wx.tape=w5.tape->wx.output=w5.output->Calls Tryz.prog 163 #[.slice va n k] wx fun e w'=>∃ va' n' k' s,e=.returned (.slice va' n' k')/\(convert 93 9 (.slice va' n' k')).run Tryz.prog w'=.ok (.string s) w'/\((∃ ns rs xs,ns.Nodup/\(∀ d,d∈ns↔1<=nth d/\inK c L d)/\Runs ns ns.length rs/\SAll (itOf C) xs/\xs.length=N/\toL s=sealL (encFm a m rs (wIt C xs))/\s.size<=700000)/\Below w.heap.size w w')):=fun wx w5 va n k ns rs xs h5 hx ho ht hp=>by
  have hbx:Below w.heap.size w wx:=⟨ho.trans h5.2.1.os,ht.trans h5.2.1.tape,hp.trans h5.2.1.output,by rw[hx];exact h5.2.1.size,fun k hk=>by rw[hx];exact h5.2.1.block k hk⟩
  refine Calls.mono (Seal_any w.heap.size wx _ _ (h5.1.heap hx) hbx.size (by have:=h5.2.2.2.2.2.2.2;omega)) ?_
  rintro e w' ⟨v',rfl,h1,h2⟩
  obtain ⟨va',n',k',rfl⟩:=h1.shape
  refine ⟨va',n',k',_,rfl,conv_out h1 (sealL_ne _),⟨ns,rs,xs,h5.2.2.1,h5.2.2.2.1,h5.2.2.2.2.1,h5.2.2.2.2.2.1,h5.2.2.2.2.2.2.1,by rw[toL_nums], ?_⟩,hbx.trans (h2.below hbx.size)⟩
  rw[<- toL_length,toL_nums,sealL_len]
  have:=h5.2.2.2.2.2.2.2
  omega
 have Hw0:Hid (w0=w.alloc (.cells #[.int .i64 (a:Int),.int .i64 (m:Int),.bool false,.map io,.map co,.map lo] 104)):=hw0
 clear hG hctx hits hok hns hch hb0 kb hw0 hen hea hem
 go_enter Tryz.func97,Tryz.ntmps97
 go_wp2_with fail
 rw[<- Hw0.out]
 go_region_with (first | (refine Calls.mono (HL.out _ w6 _ _ _ ns6 rs6 xs6 h6 rfl rfl rfl rfl) ?_;rintro e w7 ⟨va7,n7,k7,s7,rfl,hcv,h7⟩) | (refine Calls.mono (HS.out _ w5 _ _ _ h5 rfl rfl rfl rfl) ?_;rintro e w6 ⟨va6,n6,k6,ns6,rs6,xs6,rfl,h6⟩) | (refine Calls.mono (HA.out _ rfl rfl rfl rfl) ?_;rintro e w5 ⟨va5,n5,k5,rfl,h5,f2,f3,f4⟩))
 all_goals
  go_wp2_with fail
  go_ret
  exact ⟨s7,rfl,h7⟩
end Go.Proofs.YtfmmllpjgkgeaaaGreatDoor
namespace Go.Proofs.YtfmmllpjgkgeaaaGreatDoor
open Go.RowKit Go.Maps Go.WideMaps

theorem rb_below {w wx wy:World} {rb:Nat} (hb:Below w.heap.size w wx) (hc:Chg (fun k=>k=rb) wx wy) (hr:w.heap.size<=rb):Below w.heap.size w wy :=
 hb.trans ⟨hc.os,hc.tape,hc.output,hc.size,fun k hk=>hc.block k (Nat.lt_of_lt_of_le hk hb.size) (by omega)⟩
theorem bl_w {w w':World} {i:Nat} {u:Value} (h:Below w.heap.size w w'):Below w.heap.size w (w'.setCell ⟨w.heap.size,i,none⟩ u):=h.setCell (p:=⟨w.heap.size,i,none⟩) (Nat.le_refl _) _
structure FI (w W:World) (R:Nat) (cs:Array Value) (s:ByteArray):Prop where
 blk:Blk W w.heap.size cs 104
 bel:Below w.heap.size w W
 rd:RdP W R s
 lt:w.heap.size<R
theorem FI.num {w W W':World} {R:Nat} {cs:Array Value} {s s':ByteArray} (h:FI w W R cs s) (hc:Chg (fun k=>k=R) W W') (hr:RdP W' R s'):FI w W' R cs s' :=
 ⟨h.blk.chg hc (by have:=h.lt;omega),rb_below h.bel hc (by have:=h.lt;omega),hr,h.lt⟩
theorem FI.set {w W:World} {R:Nat} {cs:Array Value} {s:ByteArray} (h:FI w W R cs s) (i:Nat) (u:Value) (cs':Array Value) (hcs:cs.setIfInBounds i u=cs'):FI w (W.setCell ⟨w.heap.size,i,none⟩ u) R cs' s:=by
 refine ⟨?_,bl_w h.bel,Blk.chg h.rd ((Chg.refl (fun k=>k=w.heap.size) W).setCell (p:=⟨w.heap.size,i,none⟩) rfl _) (by have:=h.lt;omega),h.lt⟩
 have:=h.blk
 unfold Blk at this ⊢
 rw[<- hcs]
 simp[World.setCell,Array.getElem?_modify,this]
theorem unseal_ok (s:ByteArray) (l:Thk.Bs) (hs:toL s=sealL l):unsealL (toL s)=some l:=by rw[hs];exact unseal_seal l

theorem fRead_ack (w:World) (s:ByteArray) (a m:Nat) (ha:a<=5) (hm:m<=505) (hs:toL s=sealL (encAm a m)) :
  Calls Tryz.prog 101 #[.string s] w fun e w'=>e=.returned (.tuple #[.agg #[.int .i64 (a:Int),.int .i64 (m:Int),.bool true,.map none,.map none,.map none],.bool true])/\Below w.heap.size w w':=by
 have h1:=encN_len 1
 have h2:=encN_len a
 have h3:=encN_len m
 have hl:(encAm a m).length<=100:=by unfold encAm;simp only[List.length_append];omega
 have hsz:s.size<=900000:=by rw[<- toL_length,hs,sealL_len];omega
 have hu:=unseal_ok s _ hs
 have hU:∀ wx,Calls Tryz.prog 166 #[.string s] wx fun e w'=>e=.returned (.tuple #[.string ⟨(encAm a m).toArray⟩,.bool true])/\Below wx.heap.size wx w':=fun wx=>by
  refine Calls.mono (Unseal_any s wx hsz) ?_
  rintro e w' ⟨rfl,hb⟩
  rw[hu]
  exact ⟨rfl,hb⟩
 have HU:Hid (∀ wx,Calls Tryz.prog 166 #[.string s] wx fun e w'=>e=.returned (.tuple #[.string ⟨(encAm a m).toArray⟩,.bool true])/\Below wx.heap.size wx w'):=hU
 obtain ⟨u,hu2⟩:∃ u:ByteArray,u=⟨(encAm a m).toArray⟩:=⟨_,rfl⟩
 rw[<- hu2] at HU
 have hul:toL u=encN 1 ++ (encN a ++ encN m):=by rw[hu2];unfold encAm;rw[List.append_assoc];(first | done | rfl)
 have husz:u.size<=1000000000:=by rw[<- toL_length,hul];simp only[List.length_append];omega
 have HN:Hid (∀ W R cs s1 (n:Nat) (hi:Nat) (rest:Thk.Bs),FI w W R cs s1->toL s1=encN n ++ rest->s1.size<=1000000000->n<=hi->hi<=505->Calls Tryz.prog 167 #[.pointer (some ⟨R,0,none⟩),.int .i64 0,.int .i64 (hi:Int)] W fun e w'=>∃ s',e=.returned (.int .i64 (n:Int))/\FI w w' R cs s'/\toL s'=rest/\s'.size<=1000000000):=fun W R cs s1 n hi rest hF h1 h2 h3 h4=>by
  refine Calls.mono (rNumber_any W R s1 n 0 hi rest hF.rd h1 (by omega) (by omega) (by omega) (by omega) h2) ?_
  rintro e w' ⟨s',rfl,h5,h6,h7⟩
  exact ⟨s',rfl,hF.num h7 h5,h6,rd_len (w:=w) (rb:=0) h1 h6 h2⟩
 clear hU hu hs hsz hl h1 h2 h3 hu2
 go_enter Tryz.func101,Tryz.ntmps101
 go_wp2_with fail
 refine Calls.mono (HU.out _) ?_
 rintro e w1 ⟨rfl,hb1⟩
 have kf1:Blk w1 w.heap.size #[.int .i64 0,.int .i64 0,.bool false,.map none,.map none,.map none] 104:=(Blk.new w _ _).below hb1
 have hbw1:Below w.heap.size w w1:=((Below.refl _ w).alloc (Nat.le_refl _) _).trans (hb1.mono (by simp))
 have hlt1:=kf1.lt
 clear hb1 HU
 go_wp2_with fail
 refine Calls.mono (NewReader_any _ u) ?_
 rintro e w2 ⟨rfl,rfl⟩
 have hF2:FI w (w1.alloc (.cells #[.string u,.bool false] 245)) w1.heap.size #[.int .i64 0,.int .i64 0,.bool false,.map none,.map none,.map none] u:=⟨kf1.alloc _,hbw1.alloc hbw1.size _,Blk.new w1 _ _,hlt1⟩
 clear kf1 hbw1
 generalize w1.alloc (.cells #[.string u,.bool false] 245)=w2 at *
 generalize w1.heap.size=R at *
 have H1:Hid (_):=HN.out w2 R _ u 1 1 (encN a ++ encN m) hF2 hul husz (by omega) (by omega)
 clear hF2 hul husz
 go_wp2_with fail
 refine Calls.mono H1.out ?_
 rintro e w3 ⟨s3,rfl,hF3,hs3,hz3⟩
 have c2:=(hF3.blk.cell 2).trans rfl
 have f3:=hF3.blk.frozen
 have hF4:=hF3.set 2 (.bool true) #[.int .i64 0,.int .i64 0,.bool true,.map none,.map none,.map none] rfl
 have H2:Hid (_):=HN.out _ R _ s3 a 5 (encN m) hF4 hs3 hz3 ha (by omega)
 clear H1 hF3 hs3 hz3
 go_wp2_with fail
 generalize w3.setCell ⟨w.heap.size,2,none⟩ (.bool true)=w4 at *
 refine Calls.mono H2.out ?_
 rintro e w5 ⟨s5,rfl,hF5,hs5,hz5⟩
 have c0:=(hF5.blk.cell 0).trans rfl
 have f5:=hF5.blk.frozen
 have hF6:=hF5.set 0 (.int .i64 (a:Int)) #[.int .i64 (a:Int),.int .i64 0,.bool true,.map none,.map none,.map none] rfl
 have H3:Hid (_):=HN.out _ R _ s5 m 505 [] hF6 (by rw[hs5,List.append_nil]) hz5 hm (by omega)
 clear H2 hF5 hs5 hz5 c2 f3 hF4
 go_wp2_with fail
 generalize w5.setCell ⟨w.heap.size,0,none⟩ (.int .i64 (a:Int))=w6 at *
 refine Calls.mono H3.out ?_
 rintro e w7 ⟨s7,rfl,hF7,hs7,hz7⟩
 have c1:=(hF7.blk.cell 1).trans rfl
 have f7:=hF7.blk.frozen
 have hF8:=hF7.set 1 (.int .i64 (m:Int)) #[.int .i64 (a:Int),.int .i64 (m:Int),.bool true,.map none,.map none,.map none] rfl
 have HE:Hid (_):=AtEnd_any _ R s7 hF8.rd hs7
 have d2:=(hF8.blk.cell 2).trans rfl
 clear H3 hF7 hs7 hz7 c0 f5 hF6
 go_wp2_with fail
 have Hw8:Hid (∃ w8,w8=w7.setCell ⟨w.heap.size,1,none⟩ (.int .i64 (m:Int))):=⟨_,rfl⟩
 generalize w7.setCell ⟨w.heap.size,1,none⟩ (.int .i64 (m:Int))=w8 at *
 refine Calls.mono HE.out ?_
 rintro e w9 ⟨rfl,rfl⟩
 have d0:=(hF8.blk.cell 0).trans rfl
 have d1:=(hF8.blk.cell 1).trans rfl
 have d3:=(hF8.blk.cell 3).trans rfl
 have d4:=(hF8.blk.cell 4).trans rfl
 have d5:=(hF8.blk.cell 5).trans rfl
 have g0:=hF8.blk.frozen
 clear HE c1 f7 Hw8
 go_wp2_with fail
 have kz:=(((((hF8.set 0 (.int .i64 (a:Int)) #[.int .i64 (a:Int),.int .i64 (m:Int),.bool true,.map none,.map none,.map none] rfl).set 1 (.int .i64 (m:Int)) #[.int .i64 (a:Int),.int .i64 (m:Int),.bool true,.map none,.map none,.map none] rfl).set 2 (.bool true) #[.int .i64 (a:Int),.int .i64 (m:Int),.bool true,.map none,.map none,.map none] rfl).set 3 (.map none) #[.int .i64 (a:Int),.int .i64 (m:Int),.bool true,.map none,.map none,.map none] rfl).set 4 (.map none) #[.int .i64 (a:Int),.int .i64 (m:Int),.bool true,.map none,.map none,.map none] rfl).set 5 (.map none) #[.int .i64 (a:Int),.int .i64 (m:Int),.bool true,.map none,.map none,.map none] rfl
 clear d0 d1 d2 d3 d4 d5 g0 hF8
 generalize ((((((w9.setCell ⟨w.heap.size,0,none⟩ (.int .i64 (a:Int))).setCell ⟨w.heap.size,1,none⟩ (.int .i64 (m:Int))).setCell ⟨w.heap.size,2,none⟩ (.bool true)).setCell ⟨w.heap.size,3,none⟩ (.map none)).setCell ⟨w.heap.size,4,none⟩ (.map none)).setCell ⟨w.heap.size,5,none⟩ (.map none))=wz at *
 have d0:=(kz.blk.cell 0).trans rfl
 have d1:=(kz.blk.cell 1).trans rfl
 have d2:=(kz.blk.cell 2).trans rfl
 have d3:=(kz.blk.cell 3).trans rfl
 have d4:=(kz.blk.cell 4).trans rfl
 have d5:=(kz.blk.cell 5).trans rfl
 exact bodyPost_ret (v:=.tuple #[.agg #[.int .i64 (a:Int),.int .i64 (m:Int),.bool true,.map none,.map none,.map none],.bool true]) (by simp[results,Tryz.results101,go_sem,d0,d1,d2,d3,d4,d5]) rfl ⟨rfl,kz.bel⟩

end Go.Proofs.YtfmmllpjgkgeaaaGreatDoor
namespace Go.Proofs.YtfmmllpjgkgeaaaGreatDoor
open Go.RowKit Go.Maps Go.WideMaps Go.Shelf

theorem fRead_brings (w:World) (hG:Glob w) (s:ByteArray) (a m:Nat) (ha:a<=5) (hm:m<=505) (rs:List (Nat × Nat)) (its:List (Nat × Thk.Bs)) (hs:toL s=sealL (encFm a m rs its)) (hsz:s.size<=900000)
  (hrs:rs.length<=505) (hro:∀ x∈rs,okR x) (his:its.length<=505) (hio:∀ x∈its,(who x.1<=5/\1<=nth x.1/\nth x.1<=501)/\x.2.length<16384/\∃ c,Thk.read x.2=.inr c/\effB c.act=true) :
  Calls Tryz.prog 101 #[.string s] w fun e w'=>∃ ib cb lb,e=.returned (.tuple #[.agg #[.int .i64 (a:Int),.int .i64 (m:Int),.bool false,.map (some ib),.map (some cb),.map (some lb)],.bool true])/\StoreS w' ib cb lb (fun d=>itsC its its.length d≠none\/d∈flatR rs) (itsC its its.length)/\(w.heap.size<=ib/\w.heap.size<=cb/\w.heap.size<=lb)/\Below w.heap.size w w':=by
 have hg3:3<w.heap.size:=hG.size
 have h1:=encN_len 0
 have h2:=encN_len a
 have h3:=encN_len m
 have hu:=unseal_ok s _ hs
 have hU:∀ wx,Calls Tryz.prog 166 #[.string s] wx fun e w'=>e=.returned (.tuple #[.string ⟨(encFm a m rs its).toArray⟩,.bool true])/\Below wx.heap.size wx w':=fun wx=>by
  refine Calls.mono (Unseal_any s wx hsz) ?_
  rintro e w' ⟨rfl,hb⟩
  rw[hu]
  exact ⟨rfl,hb⟩
 have HU:Hid (∀ wx,Calls Tryz.prog 166 #[.string s] wx fun e w'=>e=.returned (.tuple #[.string ⟨(encFm a m rs its).toArray⟩,.bool true])/\Below wx.heap.size wx w'):=hU
 obtain ⟨u,hu2⟩:∃ u:ByteArray,u=⟨(encFm a m rs its).toArray⟩:=⟨_,rfl⟩
 rw[<- hu2] at HU
 have hul0:toL u=encFm a m rs its:=by rw[hu2];(first | done | rfl)
 have hul:toL u=encN 0 ++ (encN a ++ (encN m ++ (encS rs its ++ []))):=by rw[hul0];unfold encFm;simp
 have husz:u.size<=1000000000:=by
  have e1:=congrArg List.length hs
  rw[sealL_len,toL_length] at e1
  rw[<- toL_length,hul0];omega
 clear hul0
 have HN:Hid (∀ W R cs s1 (n:Nat) (hi:Nat) (rest:Thk.Bs),FI w W R cs s1->toL s1=encN n ++ rest->s1.size<=1000000000->n<=hi->hi<=505->Calls Tryz.prog 167 #[.pointer (some ⟨R,0,none⟩),.int .i64 0,.int .i64 (hi:Int)] W fun e w'=>∃ s',e=.returned (.int .i64 (n:Int))/\FI w w' R cs s'/\toL s'=rest/\s'.size<=1000000000):=fun W R cs s1 n hi rest hF h1 h2 h3 h4=>by
  refine Calls.mono (rNumber_any W R s1 n 0 hi rest hF.rd h1 (by omega) (by omega) (by omega) (by omega) h2) ?_
  rintro e w' ⟨s',rfl,h5,h6,h7⟩
  exact ⟨s',rfl,hF.num h7 h5,h6,rd_len (w:=w) (rb:=0) h1 h6 h2⟩
 have H4:Hid (∀ wx R cs s1,FI w wx R cs s1->toL s1=encS rs its ++ []->s1.size<=1000000000->Calls Tryz.prog 126 #[.pointer (some ⟨R,0,none⟩)] wx fun e w'=>∃ ib cb lb s',e=.returned (.agg #[.map (some ib),.map (some cb),.map (some lb)])/\StoreS w' ib cb lb (fun d=>itsC its its.length d≠none\/d∈flatR rs) (itsC its its.length)/\FI w w' R cs s'/\toL s'=[]/\(w.heap.size<ib/\w.heap.size<cb/\w.heap.size<lb)):=fun wx R cs s1 hF h2 h3=>by
  refine Calls.mono (rStore_any wx (hG.mono hF.bel) R (by have:=hF.lt;omega) s1 rs its [] hF.rd h2 h3 hrs hro his hio) ?_
  rintro e w' ⟨ib,cb,lb,s',rfl,hst,hk,hs',hn,hc⟩
  have:=hF.blk.lt
  exact ⟨ib,cb,lb,s',rfl,hst,hF.num hc hk,hs',by omega⟩
 clear hU hu hs hsz h1 h2 h3 hu2 hG hro hio
 go_enter Tryz.func101,Tryz.ntmps101
 go_wp2_with fail
 refine Calls.mono (HU.out _) ?_
 rintro e w1 ⟨rfl,hb1⟩
 have kf1:Blk w1 w.heap.size #[.int .i64 0,.int .i64 0,.bool false,.map none,.map none,.map none] 104:=(Blk.new w _ _).below hb1
 have hbw1:Below w.heap.size w w1:=((Below.refl _ w).alloc (Nat.le_refl _) _).trans (hb1.mono (by simp))
 have hlt1:=kf1.lt
 clear hb1 HU
 go_wp2_with fail
 refine Calls.mono (NewReader_any _ u) ?_
 rintro e w2 ⟨rfl,rfl⟩
 have hF2:FI w (w1.alloc (.cells #[.string u,.bool false] 245)) w1.heap.size #[.int .i64 0,.int .i64 0,.bool false,.map none,.map none,.map none] u:=⟨kf1.alloc _,hbw1.alloc hbw1.size _,Blk.new w1 _ _,hlt1⟩
 clear kf1 hbw1
 generalize w1.alloc (.cells #[.string u,.bool false] 245)=w2 at *
 generalize w1.heap.size=R at *
 have H1:Hid (_):=HN.out w2 R _ u 0 1 (encN a ++ (encN m ++ (encS rs its ++ []))) hF2 hul husz (by omega) (by omega)
 clear hF2 hul husz
 go_wp2_with fail
 refine Calls.mono H1.out ?_
 rintro e w3 ⟨s3,rfl,hF3,hs3,hz3⟩
 have c2:=(hF3.blk.cell 2).trans rfl
 have f3:=hF3.blk.frozen
 have hF4:=hF3.set 2 (.bool false) #[.int .i64 0,.int .i64 0,.bool false,.map none,.map none,.map none] rfl
 have H2:Hid (_):=HN.out _ R _ s3 a 5 (encN m ++ (encS rs its ++ [])) hF4 hs3 hz3 ha (by omega)
 clear H1 hF3 hs3 hz3
 go_wp2_with fail
 generalize w3.setCell ⟨w.heap.size,2,none⟩ (.bool false)=w4 at *
 refine Calls.mono H2.out ?_
 rintro e w5 ⟨s5,rfl,hF5,hs5,hz5⟩
 have c0:=(hF5.blk.cell 0).trans rfl
 have f5:=hF5.blk.frozen
 have hF6:=hF5.set 0 (.int .i64 (a:Int)) #[.int .i64 (a:Int),.int .i64 0,.bool false,.map none,.map none,.map none] rfl
 have H3:Hid (_):=HN.out _ R _ s5 m 505 (encS rs its ++ []) hF6 hs5 hz5 hm (by omega)
 clear H2 hF5 hs5 hz5 c2 f3 hF4
 go_wp2_with fail
 generalize w5.setCell ⟨w.heap.size,0,none⟩ (.int .i64 (a:Int))=w6 at *
 refine Calls.mono H3.out ?_
 rintro e w7 ⟨s7,rfl,hF7,hs7,hz7⟩
 have c1:=(hF7.blk.cell 1).trans rfl
 have f7:=hF7.blk.frozen
 have hF8:=hF7.set 1 (.int .i64 (m:Int)) #[.int .i64 (a:Int),.int .i64 (m:Int),.bool false,.map none,.map none,.map none] rfl
 have HS:Hid (_):=H4.out _ R _ s7 hF8 hs7 hz7
 have d2:=(hF8.blk.cell 2).trans rfl
 clear H3 H4 hF7 hs7 hz7 c0 f5 hF6
 go_wp2_with fail
 generalize w7.setCell ⟨w.heap.size,1,none⟩ (.int .i64 (m:Int))=w8 at *
 refine Calls.mono HS.out ?_
 rintro e w9 ⟨ib,cb,lb,s9,rfl,hst,hF9,hs9,hnn⟩
 have e3:=(hF9.blk.cell 3).trans rfl
 have e4:=(hF9.blk.cell 4).trans rfl
 have e5:=(hF9.blk.cell 5).trans rfl
 have g9:=hF9.blk.frozen
 have hc6:Chg (fun k=>k=w.heap.size) w9 (((w9.setCell ⟨w.heap.size,3,none⟩ (.map (some ib))).setCell ⟨w.heap.size,4,none⟩ (.map (some cb))).setCell ⟨w.heap.size,5,none⟩ (.map (some lb))):=(((Chg.refl (fun k=>k=w.heap.size) w9).setCell (p:=⟨w.heap.size,3,none⟩) rfl _).setCell (p:=⟨w.heap.size,4,none⟩) rfl _).setCell (p:=⟨w.heap.size,5,none⟩) rfl _
 have hst6:=hst.chg hc6 (by omega) (by omega) (by omega)
 have hFa:=((hF9.set 3 (.map (some ib)) #[.int .i64 (a:Int),.int .i64 (m:Int),.bool false,.map (some ib),.map none,.map none] rfl).set 4 (.map (some cb)) #[.int .i64 (a:Int),.int .i64 (m:Int),.bool false,.map (some ib),.map (some cb),.map none] rfl).set 5 (.map (some lb)) #[.int .i64 (a:Int),.int .i64 (m:Int),.bool false,.map (some ib),.map (some cb),.map (some lb)] rfl
 have HE:Hid (_):=AtEnd_any _ R s9 hFa.rd hs9
 clear HS hst hF9 hs9 hc6 hF8 d2 c1 f7
 go_wp2_with fail
 generalize (((w9.setCell ⟨w.heap.size,3,none⟩ (.map (some ib))).setCell ⟨w.heap.size,4,none⟩ (.map (some cb))).setCell ⟨w.heap.size,5,none⟩ (.map (some lb)))=wa at *
 refine Calls.mono HE.out ?_
 rintro e wb ⟨rfl,rfl⟩
 have d0:=(hFa.blk.cell 0).trans rfl
 have d1:=(hFa.blk.cell 1).trans rfl
 have d2:=(hFa.blk.cell 2).trans rfl
 have d3:=(hFa.blk.cell 3).trans rfl
 have d4:=(hFa.blk.cell 4).trans rfl
 have d5:=(hFa.blk.cell 5).trans rfl
 have g0:=hFa.blk.frozen
 have HX:Hid (FI w wb R #[.int .i64 (a:Int),.int .i64 (m:Int),.bool false,.map (some ib),.map (some cb),.map (some lb)] s9/\StoreS wb ib cb lb (fun d=>itsC its its.length d≠none\/d∈flatR rs) (itsC its its.length)):=⟨hFa,hst6⟩
 clear HE e3 e4 e5 g9 hFa hst6
 go_wp2_with fail
 have hF8:=HX.out.1
 have kz:=(((((hF8.set 0 (.int .i64 (a:Int)) #[.int .i64 (a:Int),.int .i64 (m:Int),.bool false,.map (some ib),.map (some cb),.map (some lb)] rfl).set 1 (.int .i64 (m:Int)) #[.int .i64 (a:Int),.int .i64 (m:Int),.bool false,.map (some ib),.map (some cb),.map (some lb)] rfl).set 2 (.bool false) #[.int .i64 (a:Int),.int .i64 (m:Int),.bool false,.map (some ib),.map (some cb),.map (some lb)] rfl).set 3 (.map (some ib)) #[.int .i64 (a:Int),.int .i64 (m:Int),.bool false,.map (some ib),.map (some cb),.map (some lb)] rfl).set 4 (.map (some cb)) #[.int .i64 (a:Int),.int .i64 (m:Int),.bool false,.map (some ib),.map (some cb),.map (some lb)] rfl).set 5 (.map (some lb)) #[.int .i64 (a:Int),.int .i64 (m:Int),.bool false,.map (some ib),.map (some cb),.map (some lb)] rfl
 have hstz:=HX.out.2.chg (M:=fun k=>k=w.heap.size) ((((((Chg.refl (fun k=>k=w.heap.size) wb).setCell (p:=⟨w.heap.size,0,none⟩) rfl (.int .i64 (a:Int))).setCell (p:=⟨w.heap.size,1,none⟩) rfl (.int .i64 (m:Int))).setCell (p:=⟨w.heap.size,2,none⟩) rfl (.bool false)).setCell (p:=⟨w.heap.size,3,none⟩) rfl (.map (some ib))).setCell (p:=⟨w.heap.size,4,none⟩) rfl (.map (some cb)) |>.setCell (p:=⟨w.heap.size,5,none⟩) rfl (.map (some lb))) (by omega) (by omega) (by omega)
 clear d0 d1 d2 d3 d4 d5 g0 hF8 HX
 generalize ((((((wb.setCell ⟨w.heap.size,0,none⟩ (.int .i64 (a:Int))).setCell ⟨w.heap.size,1,none⟩ (.int .i64 (m:Int))).setCell ⟨w.heap.size,2,none⟩ (.bool false)).setCell ⟨w.heap.size,3,none⟩ (.map (some ib))).setCell ⟨w.heap.size,4,none⟩ (.map (some cb))).setCell ⟨w.heap.size,5,none⟩ (.map (some lb)))=wz at *
 have d0:=(kz.blk.cell 0).trans rfl
 have d1:=(kz.blk.cell 1).trans rfl
 have d2:=(kz.blk.cell 2).trans rfl
 have d3:=(kz.blk.cell 3).trans rfl
 have d4:=(kz.blk.cell 4).trans rfl
 have d5:=(kz.blk.cell 5).trans rfl
 exact bodyPost_ret (v:=.tuple #[.agg #[.int .i64 (a:Int),.int .i64 (m:Int),.bool false,.map (some ib),.map (some cb),.map (some lb)],.bool true]) (by simp[results,Tryz.results101,go_sem,d0,d1,d2,d3,d4,d5]) rfl ⟨ib,cb,lb,rfl,hstz,by omega,kz.bel⟩
end Go.Proofs.YtfmmllpjgkgeaaaGreatDoor

