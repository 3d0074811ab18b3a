import Derived.Test.YtfmmllpjgkgeaaaGreatDoorPart10
set_option linter.unusedVariables false
set_option linter.unusedSimpArgs false
set_option maxHeartbeats 16000000
set_option maxRecDepth 100000
namespace Go.Proofs.YtfmmllpjgkgeaaaGreatDoor
open Go.RowKit Go.Maps Go.WideMaps

theorem Glob.chg {M:Nat->Prop} {w w':World} (h:Glob w) (hc:Chg M w w') (hM:∀ k,M k->3<k):Glob w':=by
 have hb:Below 4 w w':=⟨hc.os,hc.tape,hc.output,hc.size,fun k hk=>hc.block k (by have:=h.size;omega) (fun hm=>by have:=hM k hm;omega)⟩
 obtain ⟨⟨m,h1⟩,⟨e1,h2,h2'⟩,⟨e2,h3,h3'⟩,h4,h5⟩:=h
 refine ⟨⟨m,(hb.cell (p:=⟨0,0,none⟩) (by decide)).trans h1⟩,⟨e1,(hb.cell (p:=⟨1,0,none⟩) (by decide)).trans h2,h2'⟩,⟨e2,(hb.cell (p:=⟨2,0,none⟩) (by decide)).trans h3,h3'⟩, ?_,Nat.lt_of_lt_of_le h5 hb.size⟩
 exact var?_below (g:=3) hb (by kernel_rfl) (by decide) h4

theorem rEffect_any (w:World) (hG:Glob w) (rb:Nat) (hrb:3<rb) (s:ByteArray) (t r:Thk.Bs) (c:Thk.Ch) (h:RdP w rb s) (hs:toL s=encN t.length ++ t ++ r) (ht:t.length<16384) (hsz:s.size<=1000000000) (hc:Thk.read t=.inr c) (he:effB c.act=true) :
  Calls Tryz.prog 185 #[.pointer (some ⟨rb,0,none⟩)] w fun e w'=>∃ s',e=.returned (chV c)/\RdP w' rb s'/\toL s'=r/\Chg (fun k=>k=rb) w w':=by
 have hlt:=h.lt
 have HT:Hid (∀ ob,Calls Tryz.prog 244 #[.pointer (some ⟨rb,0,none⟩)] (w.alloc ob) fun e w'=>∃ u s',e=.returned (.string u)/\(toL u=t/\RdP w' rb s'/\toL s'=r)/\Chg (fun k=>k=rb) (w.alloc ob) w'/\Glob w'):=fun ob=>by
  have hb:Below w.heap.size w (w.alloc ob):=(Below.refl _ w).alloc (Nat.le_refl _) _
  refine Calls.mono (rText_any (w.alloc ob) rb s t r (h.alloc ob) hs ht hsz) ?_
  rintro e w' ⟨u,s',rfl,h1,h2,h3,h4⟩
  exact ⟨u,s',rfl,⟨h1,h2,h3⟩,h4,(hG.mono hb).chg h4 (fun k hk=>by subst hk;exact hrb)⟩
 clear h hs hG
 go_enter Tryz.func185,Tryz.ntmps185
 go_wp2_with fail
 refine Calls.mono (HT.out _) ?_
 rintro e w1 ⟨u,s1,rfl,hR1,hch1,hG1⟩
 have kr1:Blk w1 w.heap.size #[.string ⟨#[]⟩,.int .u8 0,.string ⟨#[]⟩,.int .i64 0] 86:=(Blk.new w _ _).chg hch1 (by omega)
 have hu:u.size<=1048576:=by
  have:u.size=(toL u).length:=by simp[toL]
  rw[this,hR1.1];omega
 have Hrd:Hid (_):=ProgRead_any u w1 hu hG1
 have HR1:Hid (RdP w1 rb s1/\toL s1=r/\Chg (fun k=>k=rb) w w1):=⟨hR1.2.1,hR1.2.2,(Chg.of_below ((Below.refl _ w).alloc (Nat.le_refl _) _):Chg (fun k=>k=rb) w _).trans hch1⟩
 rw[hR1.1,hc] at Hrd
 unfold readV at Hrd
 unfold chV at *
 clear HT hR1 hch1 hG1 hc
 go_wp2_with fail
 refine Calls.mono Hrd.out ?_
 rintro e w2 ⟨rfl,hb2⟩
 have kr2:=kr1.below hb2
 have HR2:Hid (RdP w2 rb s1/\toL s1=r/\Chg (fun k=>k=rb) w w2):=⟨HR1.out.1.below hb2,HR1.out.2.1,HR1.out.2.2.below hb2⟩
 have hl2:w.heap.size<w2.heap.size:=kr2.lt
 have r0:=(kr2.cell 0).trans rfl
 have r1:=(kr2.cell 1).trans rfl
 have r2:=(kr2.cell 2).trans rfl
 have r3:=(kr2.cell 3).trans rfl
 have f0:=kr2.frozen
 have HE:Hid (∀ wx,Calls Tryz.prog 90 #[.agg #[.string ⟨c.path.toArray⟩,.int .u8 (c.act.toNat:Int),.string (keptVal c.act ⟨c.val.toArray⟩),.int .i64 c.n]] wx fun e w'=>e=.returned (.bool true)/\Below wx.heap.size wx w'):=fun wx=>by
  have:=IsEffect_any ⟨c.path.toArray⟩ c.act (keptVal c.act ⟨c.val.toArray⟩) c.n wx
  rw[he] at this
  exact this
 have kc:=Blk.new w2 #[.string ⟨c.path.toArray⟩,.int .u8 (c.act.toNat:Int),.string (keptVal c.act ⟨c.val.toArray⟩),.int .i64 c.n] 86
 have hb3:Below w2.heap.size w2 (w2.alloc (.cells #[.string ⟨c.path.toArray⟩,.int .u8 (c.act.toNat:Int),.string (keptVal c.act ⟨c.val.toArray⟩),.int .i64 c.n] 86)):=(Below.refl _ w2).alloc (Nat.le_refl _) _
 have HR3:Hid (RdP w2 rb s1/\toL s1=r/\Chg (fun k=>k=rb) w w2):=HR2.out
 clear kr1 hb2 Hrd HR1 he
 go_wp2_with fail
 generalize w2.alloc (.cells #[.string ⟨c.path.toArray⟩,.int .u8 (c.act.toNat:Int),.string (keptVal c.act ⟨c.val.toArray⟩),.int .i64 c.n] 86)=w3 at *
 refine Calls.mono (HE.out _) ?_
 rintro e w4 ⟨rfl,hb4⟩
 have kc4:=kc.below hb4
 have g0:=(kc4.cell 0).trans rfl
 have g1:=(kc4.cell 1).trans rfl
 have g2:=(kc4.cell 2).trans rfl
 have g3:=(kc4.cell 3).trans rfl
 have hb24:Below w2.heap.size w2 w4:=hb3.trans (hb4.mono hb3.size)
 have kr4:=kr2.below hb24
 have r0:=(kr4.cell 0).trans rfl
 have r1:=(kr4.cell 1).trans rfl
 have r2:=(kr4.cell 2).trans rfl
 have r3:=(kr4.cell 3).trans rfl
 have f0:=kr4.frozen
 have HR4:Hid (RdP w4 rb s1/\toL s1=r/\Chg (fun k=>k=rb) w w4):=⟨HR3.out.1.below hb24,HR3.out.2.1,HR3.out.2.2.below hb24⟩
 clear kc kc4 hb3 hb4 hb24 kr2 kr4 HE HR2 HR3
 go_wp2_with fail
 have hc:Chg (fun k=>k=w.heap.size) w4 ((((w4.setCell ⟨w.heap.size,0,none⟩ (.string ⟨c.path.toArray⟩)).setCell ⟨w.heap.size,1,none⟩ (.int .u8 (c.act.toNat:Int))).setCell ⟨w.heap.size,2,none⟩ (.string (keptVal c.act ⟨c.val.toArray⟩))).setCell ⟨w.heap.size,3,none⟩ (.int .i64 c.n)):=((((Chg.refl (fun k=>k=w.heap.size) w4).setCell (p:=⟨w.heap.size,0,none⟩) rfl _).setCell (p:=⟨w.heap.size,1,none⟩) rfl _).setCell (p:=⟨w.heap.size,2,none⟩) rfl _).setCell (p:=⟨w.heap.size,3,none⟩) rfl _
 refine bodyPost_ret (v:=.agg #[.string ⟨c.path.toArray⟩,.int .u8 (c.act.toNat:Int),.string (keptVal c.act ⟨c.val.toArray⟩),.int .i64 c.n]) (by simp[results,Tryz.results185,go_sem,r0,r1,r2,r3,cs_same,cs_oth,World.cell?_setCell_other]) rfl ⟨s1,rfl, ?_,HR4.out.2.1, ?_⟩
 ·exact Blk.chg HR4.out.1 hc (by omega)
 ·have h0:=HR4.out.2.2
  exact ⟨hc.os.trans h0.os,hc.tape.trans h0.tape,hc.output.trans h0.output,Nat.le_trans h0.size hc.size,fun k hk hm=>(hc.block k (Nat.lt_of_lt_of_le hk h0.size) (by omega)).trans (h0.block k hk hm)⟩

theorem NewReader_any (w:World) (s:ByteArray):Calls Tryz.prog 124 #[.string s] w fun e w'=>e=.returned (.pointer (some ⟨w.heap.size,0,none⟩))/\w'=w.alloc (.cells #[.string s,.bool false] 245):=by
 go_enter Tryz.func124,Tryz.ntmps124
 go_wp2
 go_ret
 exact ⟨rfl,rfl⟩
theorem AtEnd_any (w:World) (rb:Nat) (s:ByteArray) (h:RdP w rb s) (hs:toL s=[]):Calls Tryz.prog 168 #[.pointer (some ⟨rb,0,none⟩)] w fun e w'=>e=.returned (.bool true)/\w'=w:=by
 have hs':s=⟨#[]⟩:=toL_inj hs
 subst hs'
 have c0:=(h.cell 0).trans rfl
 have c1:=(h.cell 1).trans rfl
 clear h hs
 go_enter Tryz.func168,Tryz.ntmps168
 go_wp2
 go_ret
 exact ⟨rfl,rfl⟩

def okR (r:Nat × Nat):Prop:=(who r.1<=5/\1<=nth r.1/\nth r.1<=501)/\1<=r.2/\r.2<=505/\nth r.1+r.2<=502
structure RS (w:World) (rb:Nat) (rs:List (Nat × Nat)) (rest:Thk.Bs) (i:Nat) (v3:Value) (wx:World):Prop where
 rd:∃ s,RdP wx rb s/\toL s=(rs.drop i).flatMap encR ++ rest/\s.size<=1000000000
 row:wx.ownsRow w.heap.size 134 2 v3 (flatR (rs.take i)).length (dcells (flatR (rs.take i)))
 chg:Chg (fun k=>k=rb) w wx
theorem rd_len {w:World} {rb:Nat} {s s':ByteArray} {a b:Thk.Bs} (h:toL s=a ++ b) (h':toL s'=b) (hs:s.size<=1000000000):s'.size<=1000000000:=by
 have e1:s'.size=(toL s').length:=by simp[toL]
 have e2:s.size=(toL s).length:=by simp[toL]
 rw[h'] at e1
 rw[h,List.length_append] at e2
 omega

theorem drop_enc (rs:List (Nat × Nat)) (rest:Thk.Bs) (i:Nat) (hi:i<rs.length):(rs.drop i).flatMap encR ++ rest=encD rs[i].1 ++ (encN rs[i].2 ++ ((rs.drop (i+1)).flatMap encR ++ rest)):=by
 rw[List.drop_eq_getElem_cons hi,List.flatMap_cons]
 unfold encR
 simp only[List.append_assoc]
theorem flat_take (rs:List (Nat × Nat)) (i:Nat) (hi:i<rs.length):flatR (rs.take (i+1))=flatR (rs.take i) ++ runD rs[i]:=by
 rw[List.take_succ_eq_append_getElem hi,flatR_snoc]

def itsC (its:List (Nat × Thk.Bs)) (j:Nat):Nat->Option Value:=fun d=>((its.take j).reverse.find? (fun x=>x.1 == d)).bind (fun x=>match Thk.read x.2 with | .inr c=>some (chV c) | .inl _=>none)

theorem itsC_succ (its:List (Nat × Thk.Bs)) (j:Nat) (hj:j<its.length) (c:Thk.Ch) (hc:Thk.read its[j].2=.inr c):itsC its (j+1)=fun d=>if d=its[j].1 then some (chV c) else itsC its j d:=by
 funext d
 unfold itsC
 rw[List.take_succ_eq_append_getElem hj,List.reverse_append,List.reverse_singleton,List.singleton_append,List.find?_cons]
 by_cases e:d=its[j].1
 ·subst e
  simp[hc]
 ·have e2:(its[j].1 == d)=false:=by simpa using fun h=>e h.symm
  rw[e2,if_neg e]
theorem itsC_ok {its:List (Nat × Thk.Bs)} {P:Nat->Prop} (h:∀ x∈its,P x.1) (j d:Nat) (hd:itsC its j d≠none):P d:=by
 unfold itsC at hd
 cases hf:(its.take j).reverse.find? (fun x=>x.1 == d) with
 | none=>rw[hf] at hd;exact absurd rfl hd
 | some x =>
  have h1:=List.find?_some hf
  have h2:=List.mem_of_find?_eq_some hf
  have h3:x.1=d:=by simpa using h1
  rw[<- h3]
  exact h x (List.mem_of_mem_take (List.mem_reverse.1 h2))
theorem itsC_item {its:List (Nat × Thk.Bs)} {j d:Nat} {v:Value} (hd:itsC its j d=some v):ItemV v:=by
 unfold itsC at hd
 cases hf:(its.take j).reverse.find? (fun x=>x.1 == d) with
 | none=>rw[hf] at hd;cases hd
 | some x =>
  rw[hf] at hd
  simp only[Option.bind_some] at hd
  split at hd
  ·cases hd;exact ⟨_,_,_,_,rfl⟩
  ·cases hd
theorem drop_encI (its:List (Nat × Thk.Bs)) (r:Thk.Bs) (j:Nat) (hj:j<its.length):(its.drop j).flatMap encI ++ r=encD its[j].1 ++ (encN its[j].2.length ++ its[j].2 ++ ((its.drop (j+1)).flatMap encI ++ r)):=by
 rw[List.drop_eq_getElem_cons hj,List.flatMap_cons]
 unfold encI
 simp only[List.append_assoc]
theorem own_sliceD {w:World} {base:Nat} {v:Value} {ns:List Nat} (h:w.ownsRow base 134 2 v ns.length (dcells ns)):SliceD w v ns:=by
 have hlt:=h.lt
 have hcl:=fun g (hg:v.ownBlock=some g)=>h.cells hg
 rcases h.2 with ⟨h1,h2⟩ | ⟨g,cap,cur,h1,_,_,h4,_⟩
 ·exact Or.inl ⟨h1,List.eq_nil_of_length_eq_zero h2⟩
 ·subst h1
  refine Or.inr ⟨g,0,cap,rfl,h4,(hlt g rfl).2,fun j hj=>?_⟩
  have hg:=dcells_get ns j hj
  have a1:=hcl g rfl _ _ hg.1
  have a2:=hcl g rfl _ _ hg.2
  rw[addr0] at a1 a2
  rw[Nat.zero_add]
  exact ⟨a1,a2⟩
structure RT (w:World) (rb:Nat) (its:List (Nat × Thk.Bs)) (u3:Value) (fl:List Nat) (mb j:Nat) (wx:World):Prop where
 row:wx.ownsRow w.heap.size 134 2 u3 fl.length (dcells fl)
 mp:∃ N,MapV Tryz.prog 134 wx mb N (im (itsC its j))
 kr:Blk wx w.heap.size #[.map none,.map none,.map none] 102
 chg:Chg (fun k=>k=rb) w wx
 new:w.heap.size<mb
 rbw:rb<w.heap.size
theorem RT.to {w:World} {rb:Nat} {its:List (Nat × Thk.Bs)} {u3:Value} {fl:List Nat} {mb j:Nat} {wx wy:World} (h:RT w rb its u3 fl mb j wx) (hc:Chg (fun k=>k=rb) wx wy):RT w rb its u3 fl mb j wy:=by
 have h1:=h.new
 have h2:=h.rbw
 obtain ⟨N,hN⟩:=h.mp
 exact ⟨ownsRow_chg h.row hc (fun g hg e=>by have:=(h.row.lt g hg).1;omega),⟨N,hN.block (hc.block _ hN.lt (by omega))⟩,h.kr.chg hc (by omega),h.chg.trans hc,h1,h2⟩
theorem RT.put {w:World} {rb:Nat} {its:List (Nat × Thk.Bs)} {u3:Value} {fl:List Nat} {mb j N:Nat} {wx wy:World} (h:RT w rb its u3 fl mb j wx) (hj:j<its.length) (c:Thk.Ch) (hc:Thk.read its[j].2=.inr c) (hg:wx.grownBy wy (some mb)) (hm:MapV Tryz.prog 134 wy mb N (upd (im (itsC its j)) (dotE its[j].1) (chV c))):RT w rb its u3 fl mb (j+1) wy:=by
 have h1:=h.new
 have h2:=h.rbw
 obtain ⟨N0,hN0⟩:=h.mp
 have hch:Chg (fun k=>k=mb) wx wy:=(Chg.refl _ wx).grown hg (fun k e=>by cases e;exact Or.inl rfl)
 have hne:∀ g,u3.ownBlock=some g->g≠mb:=fun g hgu e=>by
  rw[e] at hgu
  exact ownsRow_ne h.row (fun cur fz hh=>hN0.noTag hh) hgu
 refine ⟨ownsRow_chg h.row hch hne,⟨N,by rw[itsC_succ its j hj c hc,<- im_upd];exact hm⟩,h.kr.chg hch (by omega), ?_,h1,h2⟩
 have h0:=h.chg
 exact ⟨hch.os.trans h0.os,hch.tape.trans h0.tape,hch.output.trans h0.output,Nat.le_trans h0.size hch.size,fun k hk hm=>(hch.block k (Nat.lt_of_lt_of_le hk h0.size) (by omega)).trans (h0.block k hk hm)⟩

theorem rStore_any (w:World) (hG:Glob w) (rb:Nat) (hrb:3<rb) (s:ByteArray) (rs:List (Nat × Nat)) (its:List (Nat × Thk.Bs)) (r:Thk.Bs) (h:RdP w rb s) (hs:toL s=encS rs its ++ r) (hsz:s.size<=1000000000)
  (hrs:rs.length<=505) (hro:∀ x∈rs,okR x) (his:its.length<=505) (hio:∀ x∈its,(who x.1<=5/\1<=nth x.1/\nth x.1<=501)/\x.2.length<16384/\∃ c,Thk.read x.2=.inr c/\effB c.act=true) :
  Calls Tryz.prog 126 #[.pointer (some ⟨rb,0,none⟩)] w fun e w'=>∃ ib cb lb s',e=.returned (.agg #[.map (some ib),.map (some cb),.map (some lb)])/\StoreS w' ib cb lb (fun d=>itsC its its.length d≠none\/d∈flatR rs) (itsC its its.length)/\RdP w' rb s'/\toL s'=r/\(w.heap.size<=ib/\w.heap.size<=cb/\w.heap.size<=lb)/\Chg (fun k=>k=rb) w w':=by
 have hmm:=@run_makeMap Tryz.prog
 obtain ⟨i0,hi,hz0,hz1,hz2⟩:=info_parts Tryz.infoDot
 have hlt:=h.lt
 have Hro:Hid (∀ x∈rs,okR x):=hro
 have Hio:Hid (∀ x∈its,(who x.1<=5/\1<=nth x.1/\nth x.1<=501)/\x.2.length<16384/\∃ c,Thk.read x.2=.inr c/\effB c.act=true):=hio
 have HGl:Hid (Glob w):=hG
 obtain ⟨rest,hrest⟩:∃ rest,rest=encN its.length ++ (its.flatMap encI ++ r):=⟨_,rfl⟩
 have hs2:toL s=encN rs.length ++ (rs.flatMap encR ++ rest):=by rw[hs,hrest];unfold encS;simp only[List.append_assoc]
 have Hrest:Hid (rest=encN its.length ++ (its.flatMap encI ++ r)):=hrest
 have hflat:∀ i,i<=rs.length->(flatR (rs.take i)).length<=i*505:=by
  intro i
  induction i with
  | zero=>intro _;simp[flatR]
  | succ i ih =>
   intro h
   rw[flat_take rs i (by omega),List.length_append,len_runD]
   have:=ih (by omega)
   have h2:=(hro rs[i] (List.getElem_mem (by omega))).2.2.1
   omega
 have Hflat:Hid (∀ i,i<=rs.length->(flatR (rs.take i)).length<=i*505):=hflat
 have HN:Hid (∀ ob,Calls Tryz.prog 167 #[.pointer (some ⟨rb,0,none⟩),.int .i64 0,.int .i64 505] (w.alloc ob) fun e w'=>e=.returned (.int .i64 (rs.length:Int))/\RS w rb rs rest 0 (.slice none 0 0) w'/\Chg (fun k=>k=rb) (w.alloc ob) w'):=fun ob=>by
  refine Calls.mono (rNumber_any (w.alloc ob) rb s rs.length 0 505 (rs.flatMap encR ++ rest) (h.alloc ob) hs2 (by omega) (by omega) (by omega) (by omega) hsz) ?_
  rintro e w' ⟨s',rfl,h1,h2,h3⟩
  have hc:Chg (fun k=>k=rb) w w':=(Chg.of_below ((Below.refl _ w).alloc (Nat.le_refl _) ob):Chg (fun k=>k=rb) w _).trans h3
  exact ⟨rfl,⟨⟨s',h1,h2,rd_len (w:=w) (rb:=rb) hs2 h2 hsz⟩,World.ownsRow_nil _ _ _ _,hc⟩,h3⟩
 clear h hs hs2 hrest hro hio hG hflat
 go_enter Tryz.func126,Tryz.ntmps126
 go_wp2_with fail
 refine Calls.mono (HN.out _) ?_
 rintro e w1 ⟨rfl,hRS1,hch1⟩
 have kr1:Blk w1 w.heap.size #[.map none,.map none,.map none] 102:=(Blk.new w _ _).chg hch1 (by omega)
 have HR1:Hid (RS w rb rs rest 0 (.slice none 0 0) w1/\Blk w1 w.heap.size #[.map none,.map none,.map none] 102):=⟨hRS1,kr1⟩
 clear HN hRS1 hch1 kr1
 go_wp2_with fail
 go_loopg [3,9] rs.length (fun g v3 v9 wx=>∃ i:Nat,i+g=rs.length/\v9=.int .i64 (i:Int)/\RS w rb rs rest i v3 wx/\Blk wx w.heap.size #[.map none,.map none,.map none] 102)
 case atStart=>exact ⟨0,by omega,rfl,HR1.out.1,HR1.out.2⟩
 case round =>
  obtain ⟨i,hig,rfl,hR,hkr⟩:=hrel
  have HR:Hid (RS w rb rs rest i u3 wr/\Blk wr w.heap.size #[.map none,.map none,.map none] 102):=⟨hR,hkr⟩
  clear HR1 hkr
  by_cases him:i<rs.length
  ·have hok:=Hro.out _ (List.getElem_mem him)
   obtain ⟨sr,hsr,hsl,hss⟩:=hR.rd
   rw[drop_enc rs rest i him] at hsl
   have HE:Hid (flatR (rs.take (i+1))=flatR (rs.take i) ++ runD rs[i]):=flat_take rs i him
   have hfl:=Hflat.out i (by omega)
   obtain ⟨x,hx⟩:∃ x,rs[i]=x:=⟨_,rfl⟩
   rw[hx] at hok hsl HE
   obtain ⟨d,m⟩:=x
   simp only at hsl
   obtain ⟨hd5,hm1,hm5,hm502⟩:=hok
   simp only at hd5 hm1 hm5 hm502
   obtain ⟨tl,htl⟩:∃ tl,tl=(rs.drop (i+1)).flatMap encR ++ rest:=⟨_,rfl⟩
   have Htl:Hid (tl=(rs.drop (i+1)).flatMap encR ++ rest):=htl
   rw[<- htl] at hsl
   have Hdot:Hid (_):=rdot_any wr rb sr d (encN m ++ tl) hsr hsl ⟨hd5.1,hd5.2.1,Nat.le_trans hd5.2.2 (by decide)⟩ hss
   have HN2:Hid (∀ w2 s2 ob,RdP w2 rb s2->toL s2=encN m ++ tl->Calls Tryz.prog 167 #[.pointer (some ⟨rb,0,none⟩),.int .i64 1,.int .i64 505] (w2.alloc ob) fun e w'=>∃ s',e=.returned (.int .i64 (m:Int))/\(RdP w' rb s'/\toL s'=tl/\s'.size<=1000000000)/\Chg (fun k=>k=rb) (w2.alloc ob) w'):=fun w2 s2 ob h2 hs2=>by
    have hz2:=rd_len (w:=w) (rb:=rb) hsl hs2 hss
    refine Calls.mono (rNumber_any (w2.alloc ob) rb s2 m 1 505 tl (h2.alloc ob) hs2 (by omega) (by omega) (by omega) (by omega) hz2) ?_
    rintro e w' ⟨s',rfl,h1,h2,h3⟩
    exact ⟨s',rfl,⟨h1,h2,rd_len (w:=w) (rb:=rb) hs2 h2 hz2⟩,h3⟩
   clear hsr hsl hss hR hx htl
   go_wp2_with fail
   refine Calls.mono Hdot.out ?_
   rintro e w2 ⟨s2,rfl,hk2,hs2,hch2⟩
   have hl2:=hk2.lt
   have HB2:Hid (Chg (fun k=>k=rb) wr w2):=hch2
   have HN3:Hid (_):=fun ob=>HN2.out w2 s2 ob hk2 hs2
   clear Hdot HN2 hk2 hs2 hch2
   go_wp2_with fail
   refine Calls.mono (HN3.out _) ?_
   rintro e w3 ⟨s3,rfl,hR3,hch3⟩
   have kx3:Blk w3 w2.heap.size #[.int .i64 (who d:Int),.int .i64 (nth d:Int),.int .i64 0] 250:=(Blk.new w2 _ _).chg hch3 (by omega)
   have HC3:Hid (Chg (fun k=>k=rb) wr w3):=HB2.out.trans ((Chg.of_below ((Below.refl _ w2).alloc (Nat.le_refl _) _):Chg (fun k=>k=rb) w2 _).trans hch3)
   have hb2:rb<w2.heap.size:=hl2
   have hwr2:wr.heap.size<=w2.heap.size:=HB2.out.size
   have x0:=(kx3.cell 0).trans rfl
   have x1:=(kx3.cell 1).trans rfl
   have x2:=(kx3.cell 2).trans rfl
   have fx:=kx3.frozen
   have HR3:Hid (RdP w3 rb s3/\toL s3=tl/\s3.size<=1000000000):=hR3
   have Hd:Hid (∀ wx,Calls Tryz.prog 184 #[.agg #[.int .i64 (who d:Int),.int .i64 (nth d:Int),.int .i64 (m:Int)]] wx fun e w'=>∃ v,e=.returned v/\w'.ownsRow wx.heap.size 134 2 v m (dcells (runD (d,m)))/\Below wx.heap.size wx w'):=fun wx=>Dots_any wx d m (by omega)
   have hw23:w2.heap.size<w3.heap.size:=kx3.lt
   clear HN3 hR3 hch3 kx3 HB2
   go_wp2_with fail
   refine Calls.mono (Hd.out _) ?_
   rintro e w5 ⟨v5,rfl,ho5,hb5⟩
   have hc34:Chg (fun k=>k=w2.heap.size) w3 (w3.setCell ⟨w2.heap.size,2,none⟩ (.int .i64 (m:Int))):=(Chg.refl (fun k=>k=w2.heap.size) w3).setCell (p:=⟨w2.heap.size,2,none⟩) rfl _
   have hsz4:(w3.setCell ⟨w2.heap.size,2,none⟩ (.int .i64 (m:Int))).heap.size=w3.heap.size:=by simp
   have hc35:Chg (fun k=>k=w2.heap.size) w3 w5:=hc34.trans (Chg.of_below hb5)
   have hc5:Chg (fun k=>k=rb) wr w5:=by
    have h0:=HC3.out
    exact ⟨hc35.os.trans h0.os,hc35.tape.trans h0.tape,hc35.output.trans h0.output,Nat.le_trans h0.size hc35.size,fun k hk hm=>(hc35.block k (Nat.lt_of_lt_of_le hk h0.size) (by omega)).trans (h0.block k hk hm)⟩
   have hg0:∀ g,u3.ownBlock=some g->w.heap.size<=g:=fun g hg=>(HR.out.1.row.lt g hg).1
   have hO5:w5.ownsRow w.heap.size 134 2 u3 (flatR (rs.take i)).length (dcells (flatR (rs.take i))):=ownsRow_chg HR.out.1.row hc5 (fun g hg e=>by have:=hg0 g hg;omega)
   have hk5:RdP w5 rb s3:=Blk.chg HR3.out.1 hc35 (by omega)
   have hkr5:=HR.out.2.chg hc5 (by omega)
   obtain ⟨g5,cap5,hv5⟩:=own_some ho5 (by omega)
   subst hv5
   have Hc5:Hid (∀ j u,(dcells (runD (d,m)))[j]? = some u->w5.cell? ((⟨g5,0,none⟩:Addr).add j)=some u):=ho5.cells (g:=g5) rfl
   have HO5:Hid (w5.ownsRow w.heap.size 134 2 u3 (flatR (rs.take i)).length (dcells (flatR (rs.take i)))):=hO5
   have HX5:Hid (RdP w5 rb s3/\Blk w5 w.heap.size #[.map none,.map none,.map none] 102/\Chg (fun k=>k=rb) w w5):=⟨hk5,hkr5,HR.out.1.chg.trans hc5⟩
   have hbw:w.heap.size<=w5.heap.size:=Nat.le_trans HR.out.1.chg.size hc5.size
   have h63:(flatR (rs.take i)).length+m<=maxLen:=by unfold maxLen;omega
   have h64:((flatR (rs.take i)).length+m)*16<=140737488355328:=by omega
   have hnl:(dcells (runD (d,m))).length=m*2:=by rw[dcells_len,len_runD]
   clear hc34 hsz4 hc35 hc5 hO5 hk5 hkr5 ho5 hb5 Hd HC3 x0 x1 x2 fx hfl
   generalize hfn:(flatR (rs.take i)).length=fn at *
   go_wp2_with (first | (at_builtin;refine wpList_append_own_at _ rfl (.tmp 17) (.tmp 19) 137 rfl w.heap.size 134 i0 (.agg #[.int .i64 0,.int .i64 0]) 2 16 Tryz.underlying137 hi hz0 hz1 hz2 rfl (by decide) _ _ _ rfl HO5.out ⟨g5,0,none⟩ m cap5 (dcells (runD (d,m))) rfl hnl Hc5.out (dcells_one _) h63 h64 hbw ?_;intro v6 w6 ho6 hg6 hn6 hl6))
   have hch6:Chg (fun k=>u3.ownBlock=some k) w5 w6:=(Chg.refl _ w5).grown hg6 (fun k e=>Or.inl e)
   go_roundg (rs.length-(i+1))
   case measure=>omega
   case rel =>
    refine ⟨i+1,by omega,by go_num,⟨⟨s3,Blk.chg HX5.out.1 hch6 (fun e=>by have:=hg0 _ e;omega),by rw[<- Htl.out];exact HR3.out.2.1,HR3.out.2.2⟩, ?_, ?_⟩, ?_⟩
    ·rw[HE.out,dcells_app,List.length_append,len_runD,hfn]
     exact ho6
    ·have h0:=HX5.out.2.2
     exact ⟨hch6.os.trans h0.os,hch6.tape.trans h0.tape,hch6.output.trans h0.output,Nat.le_trans h0.size hch6.size,fun k hk hm=>(hch6.block k (Nat.lt_of_lt_of_le hk h0.size) (fun e=>by have:=hg0 _ e;omega)).trans (h0.block k hk hm)⟩
    ·exact HX5.out.2.1.chg hch6 (fun e=>ownsRow_ne HO5.out (fun cur fz hh=>by rw[show w5.heap[w.heap.size]? = _ from HX5.out.2.1] at hh;cases hh) e)
  ·have e:i=rs.length:=by omega
   subst e
   obtain ⟨sr,hsr,hsl,hss⟩:=hR.rd
   rw[List.drop_length,List.flatMap_nil,List.nil_append,Hrest.out] at hsl
   have hrow:=HR.out.1.row
   rw[List.take_length] at hrow
   have HN:Hid (∀ ob,Calls Tryz.prog 167 #[.pointer (some ⟨rb,0,none⟩),.int .i64 0,.int .i64 505] (wr.alloc ob) fun e w'=>∃ s',e=.returned (.int .i64 (its.length:Int))/\(RdP w' rb s'/\toL s'=(its.drop 0).flatMap encI ++ r/\s'.size<=1000000000)/\Chg (fun k=>k=rb) (wr.alloc ob) w'):=fun ob=>by
    refine Calls.mono (rNumber_any (wr.alloc ob) rb sr its.length 0 505 (its.flatMap encI ++ r) (hsr.alloc ob) hsl (by omega) (by omega) (by omega) (by omega) hss) ?_
    rintro e w' ⟨s',rfl,h1,h2,h3⟩
    exact ⟨s',rfl,⟨h1,h2,rd_len (w:=w) (rb:=rb) hsl h2 hss⟩,h3⟩
   have hwr:w.heap.size<wr.heap.size:=HR.out.2.lt
   have hmade:=MapV.made wr Tryz.prog 134
   have HT0:Hid (RT w rb its u3 (flatR rs) wr.heap.size 0 (wr.alloc (.map #[] 0))):=by
    have hb:Below wr.heap.size wr (wr.alloc (.map #[] 0)):=(Below.refl _ wr).alloc (Nat.le_refl _) _
    refine ⟨own_below hrow hb,⟨0, ?_⟩,HR.out.2.below hb,HR.out.1.chg.below hb,hwr,hlt⟩
    have e0:itsC its 0=fun _=>none:=by funext d;unfold itsC;simp
    rw[e0,im_none]
    exact hmade
   clear hR hsr hsl hss hmade hrow
   go_wp2_with fail
   refine Calls.mono (HN.out _) ?_
   rintro e w2 ⟨s2,rfl,hR2,hch2⟩
   have HT2:Hid (RT w rb its u3 (flatR rs) wr.heap.size 0 w2/\∃ s,RdP w2 rb s/\toL s=(its.drop 0).flatMap encI ++ r/\s.size<=1000000000):=⟨HT0.out.to hch2,s2,hR2⟩
   clear HN hR2 hch2 HT0 HR
   go_wp2_with fail
   generalize wr.heap.size=mb at *
   go_loopg [25] its.length (fun g v25 wx=>∃ j:Nat,j+g=its.length/\v25=.int .i64 (j:Int)/\RT w rb its u3 (flatR rs) mb j wx/\∃ s,RdP wx rb s/\toL s=(its.drop j).flatMap encI ++ r/\s.size<=1000000000)
   case atStart=>exact ⟨0,by omega,rfl,HT2.out.1,HT2.out.2⟩
   case round =>
    obtain ⟨j,hjg,rfl,hT,sr,hsr,hsl,hss⟩:=hrel
    have HT:Hid (RT w rb its u3 (flatR rs) mb j wr):=hT
    clear HT2
    by_cases hj:j<its.length
    ·obtain ⟨hd5,ht,c,hc,he⟩:=Hio.out _ (List.getElem_mem hj)
     rw[drop_encI its r j hj] at hsl
     obtain ⟨N0,hN0⟩:=hT.mp
     have hNb:N0<=3072:=items_bound hN0 (fun d hd=>itsC_ok (P:=okD) (fun x hx=>⟨(Hio.out x hx).1.1,(Hio.out x hx).1.2.1,by have:=(Hio.out x hx).1.2.2;omega⟩) j d hd)
     have HNb:Hid (∀ wx N,MapV Tryz.prog 134 wx mb N (im (itsC its j))->N<maxLen):=fun wx N hN=>by
      have:=items_bound hN (fun d hd=>itsC_ok (P:=okD) (fun x hx=>⟨(Hio.out x hx).1.1,(Hio.out x hx).1.2.1,by have:=(Hio.out x hx).1.2.2;omega⟩) j d hd)
      unfold maxLen;omega
     have HP:Hid (∀ wx wy N,RT w rb its u3 (flatR rs) mb j wx->wx.grownBy wy (some mb)->MapV Tryz.prog 134 wy mb N (upd (im (itsC its j)) (dotE its[j].1) (chV c))->RT w rb its u3 (flatR rs) mb (j+1) wy):=fun wx wy N h1 h2 h3=>h1.put hj c hc h2 h3
     obtain ⟨x,hx⟩:∃ x,its[j]=x:=⟨_,rfl⟩
     rw[hx] at hd5 ht hc hsl HP
     obtain ⟨d,t⟩:=x
     simp only at hd5 ht hc hsl HP
     obtain ⟨kl,hkl⟩:=keyE d (by omega)
     obtain ⟨tl,htl⟩:∃ tl,tl=(its.drop (j+1)).flatMap encI ++ r:=⟨_,rfl⟩
     have Htl:Hid (tl=(its.drop (j+1)).flatMap encI ++ r):=htl
     rw[<- htl] at hsl
     have Hdot:Hid (_):=rdot_any wr rb sr d (encN t.length ++ t ++ tl) hsr hsl ⟨hd5.1,hd5.2.1,Nat.le_trans hd5.2.2 (by decide)⟩ hss
     have hmbw:=hT.new
     have hrbw:=hT.rbw
     have HEf:Hid (∀ w2 s2 wx,RT w rb its u3 (flatR rs) mb j w2->RdP w2 rb s2->toL s2=encN t.length ++ t ++ tl->Blk wx w2.heap.size #[.int .i64 (who d:Int),.int .i64 (nth d:Int)] 134->Below w2.heap.size w2 wx->Calls Tryz.prog 185 #[.pointer (some ⟨rb,0,none⟩)] wx fun e w'=>∃ s',e=.returned (.agg #[.string ⟨c.path.toArray⟩,.int .u8 (c.act.toNat:Int),.string (keptVal c.act ⟨c.val.toArray⟩),.int .i64 c.n])/\(RdP w' rb s'/\toL s'=tl/\s'.size<=1000000000)/\RT w rb its u3 (flatR rs) mb j w'/\Blk w' w2.heap.size #[.int .i64 (who d:Int),.int .i64 (nth d:Int)] 134):=fun w2 s2 wx h2 hk2 hs2 hkd hb=>by
      have hz2:=rd_len (w:=w) (rb:=rb) hsl hs2 hss
      have hGx:Glob wx:=(HGl.out.chg h2.chg (fun k hk=>by subst hk;exact hrb)).mono hb
      refine Calls.mono (rEffect_any wx hGx rb hrb s2 t tl c (hk2.below hb) hs2 ht hz2 hc he) ?_
      rintro e w' ⟨s',rfl,h3,h4,h5⟩
      have hl2:=hk2.lt
      exact ⟨s',rfl,⟨h3,h4,rd_len (w:=w) (rb:=rb) hs2 h4 hz2⟩,(h2.to (Chg.of_below hb)).to h5,hkd.chg h5 (by omega)⟩
     clear hsr hsl hss hT hx htl hN0 hc he ht hNb
     go_wp2_with fail
     refine Calls.mono Hdot.out ?_
     rintro e w2 ⟨s2,rfl,hk2,hs2,hch2⟩
     have hT2:=HT.out.to hch2
     have kd:=Blk.new w2 #[.int .i64 (who d:Int),.int .i64 (nth d:Int)] 134
     have hbd:Below w2.heap.size w2 (w2.alloc (.cells #[.int .i64 (who d:Int),.int .i64 (nth d:Int)] 134)):=(Below.refl _ w2).alloc (Nat.le_refl _) _
     have HE2:Hid (∀ wx,wx.heap=(w2.alloc (.cells #[.int .i64 (who d:Int),.int .i64 (nth d:Int)] 134)).heap->wx.os=w2.os->wx.tape=w2.tape->wx.output=w2.output->Calls Tryz.prog 185 #[.pointer (some ⟨rb,0,none⟩)] wx _):=fun wx h1 h3 h4 h5=>HEf.out w2 s2 wx hT2 hk2 hs2 (by unfold Blk;rw[h1];exact kd) ⟨h3,h4,h5,by rw[h1];simp,fun k hk=>by rw[h1];exact hbd.block k hk⟩
     have z0:=(kd.cell 0).trans rfl
     have z1:=(kd.cell 1).trans rfl
     clear Hdot HEf hk2 hs2 hch2 hT2 hbd
     unfold chV at HP
     go_wp2_with fail
     go_region_with (go_at_call 185;refine Calls.mono (HE2.out _ rfl rfl rfl rfl) ?_;rintro e w4 ⟨s4,rfl,hR4,hT4,hk4⟩;have y0:=(hk4.cell 0).trans rfl;have y1:=(hk4.cell 1).trans rfl;obtain ⟨N4,hN4⟩:=hT4.mp;obtain ⟨w6,hrun,hm6,hg6,hs6⟩:=hN4.store kDot Tryz.underlying96 (HNb.out _ _ hN4) (.agg #[.string ⟨c.path.toArray⟩,.int .u8 (c.act.toNat:Int),.string (keptVal c.act ⟨c.val.toArray⟩),.int .i64 c.n]) hkl)
     all_goals
      have hT6:=HP.out _ _ _ hT4 hg6 hm6
      have hk6:RdP w6 rb s4:=Blk.grown hR4.1 hg6 (by omega)
      go_wp2_with fail
      go_roundg (its.length-(j+1))
      case measure=>omega
      case rel=>exact ⟨j+1,by omega,by go_num,hT6,s4,hk6,by rw[<- Htl.out];exact hR4.2.1,hR4.2.2⟩
    ·have e:j=its.length:=by omega
     subst e
     rw[List.drop_length,List.flatMap_nil,List.nil_append] at hsl
     obtain ⟨N0,hN0⟩:=hT.mp
     have hfo:∀ d∈flatR rs,okD d:=fun d hd=>by
      unfold flatR at hd
      obtain ⟨x,hx,hdx⟩:=List.mem_flatMap.1 hd
      have hx':=Hro.out x hx
      unfold runD at hdx
      obtain ⟨k,hk,rfl⟩:=List.mem_map.1 hdx
      have hk':=List.mem_range.1 hk
      obtain ⟨⟨a1,a2,a3⟩,a4,a5,a6⟩:=hx'
      exact ⟨by rw[who_add (by omega)];exact a1,by rw[nth_add (by omega)];omega,by rw[nth_add (by omega)];omega⟩
     have hfl:(flatR rs).length<=1000000:=by have:=Hflat.out rs.length (Nat.le_refl _);rw[List.take_length] at this;omega
     have HOf:Hid (_):=Of_any wr (some mb) u3 (itsC its its.length) (flatR rs) N0 (Or.inr ⟨mb,rfl,hN0⟩) (fun n v hv=>itsC_item hv) (fun n hn=>itsC_ok (P:=okD) (fun x hx=>⟨(Hio.out x hx).1.1,(Hio.out x hx).1.2.1,by have:=(Hio.out x hx).1.2.2;omega⟩) its.length n hn) (own_sliceD hT.row) hfl hfo
     have hww:=hT.chg.size
     have hrbw:=hT.rbw
     have hkl:=hT.kr.lt
     have HX:Hid (RdP wr rb sr/\toL sr=r):=⟨hsr,hsl⟩
     clear hT hN0 hsr hsl hss hfo
     go_wp2_with fail
     refine Calls.mono HOf.out ?_
     rintro e w5 ⟨ib,cb,lb,rfl,hst,hnew,hb5⟩
     have kr5:=HT.out.kr.below hb5
     have r0:=(kr5.cell 0).trans rfl
     have r1:=(kr5.cell 1).trans rfl
     have r2:=(kr5.cell 2).trans rfl
     have f0:=kr5.frozen
     have HS:Hid (StoreS w5 ib cb lb (fun d=>itsC its its.length d≠none\/d∈flatR rs) (itsC its its.length)/\Chg (fun k=>k=rb) w w5/\RdP w5 rb sr):=⟨hst,HT.out.chg.below hb5,HX.out.1.below hb5⟩
     clear hst hb5 kr5 HOf
     go_wp2_with fail
     have hc:Chg (fun k=>k=w.heap.size) w5 (((w5.setCell ⟨w.heap.size,0,none⟩ (.map (some ib))).setCell ⟨w.heap.size,1,none⟩ (.map (some cb))).setCell ⟨w.heap.size,2,none⟩ (.map (some lb))):=(((Chg.refl (fun k=>k=w.heap.size) w5).setCell (p:=⟨w.heap.size,0,none⟩) rfl _).setCell (p:=⟨w.heap.size,1,none⟩) rfl _).setCell (p:=⟨w.heap.size,2,none⟩) rfl _
     refine bodyPost_ret (v:=.agg #[.map (some ib),.map (some cb),.map (some lb)]) (by simp[results,Tryz.results126,go_sem,r0,r1,r2,cs_same,cs_oth,World.cell?_setCell_other]) rfl ⟨ib,cb,lb,sr,rfl,HS.out.1.chg hc (by omega) (by omega) (by omega),Blk.chg HS.out.2.2 hc (by omega),HX.out.2,by omega, ?_⟩
     have h0:=HS.out.2.1
     exact ⟨hc.os.trans h0.os,hc.tape.trans h0.tape,hc.output.trans h0.output,Nat.le_trans h0.size hc.size,fun k hk hm=>(hc.block k (Nat.lt_of_lt_of_le hk h0.size) (by omega)).trans (h0.block k hk hm)⟩
end Go.Proofs.YtfmmllpjgkgeaaaGreatDoor
namespace Go.Proofs.YtfmmllpjgkgeaaaGreatDoor
open Go.RowKit Go.Maps Go.ChangeMaps Go.MapKept

theorem dotE_list:∀ l:List Value,(∀ v∈l,∃ n,v=dotE n)->∃ ns:List Nat,l=ns.map dotE
 | [],_=>⟨[],rfl⟩
 | v :: l,h=>by
  obtain ⟨n,rfl⟩:=h v (by simp)
  obtain ⟨ns,rfl⟩:=dotE_list l (fun v hv=>h v (by simp[hv]))
  exact ⟨n :: ns,rfl⟩
theorem im_count {w:World} {v:Value} {N:Nat} {It:Nat->Option Value} (h:MapO Tryz.prog 134 w v N (im It)):∃ ns:List Nat,ns.Nodup/\ns.length=N/\∀ n,n∈ns↔It n≠none:=by
 rcases h with ⟨rfl,rfl,h⟩ | ⟨b,rfl,h⟩
 ·exact ⟨[],List.nodup_nil,rfl,fun n=>⟨fun h=>(List.not_mem_nil h).elim,fun hn=>by rw[<- im_dot It n,h] at hn;exact absurd rfl hn⟩⟩
 ·obtain ⟨l,h1,h2,h3⟩:=h.count kDot
  obtain ⟨ns,rfl⟩:=dotE_list l (fun v hv=>by
   have:=(h3 v).1 hv
   cases e:im It v with
   | none=>exact absurd e this
   | some u=>obtain ⟨n,hn,_⟩:=im_shape e;exact ⟨n,hn⟩)
  refine ⟨ns, ?_,by simpa using h2,fun n=>?_⟩
  ·exact (List.nodup_iff_pairwise_ne.1 h1 |> List.pairwise_map.1).imp (fun h e=>h (by rw[e]))
  ·rw[<- im_dot It n,<- h3]
   constructor
   ·intro hn;exact List.mem_map_of_mem hn
   ·intro hn
    obtain ⟨k,hk,e⟩:=List.mem_map.1 hn
    rw[<- dotE_inj e];exact hk
theorem own_base {w:World} {B B':Nat} {e:TypeId} {size:Nat} {v:Value} {n:Nat} {xs:List Value} (h:w.ownsRow B e size v n xs) (hB:B'<=B):w.ownsRow B' e size v n xs:=by
 obtain ⟨hl,h⟩:=h
 refine ⟨hl,h.imp_right ?_⟩
 rintro ⟨g,cap,cur,h1,h2,h3⟩
 exact ⟨g,cap,cur,h1,Nat.le_trans hB h2,h3⟩

theorem sRuns_any (w:World) (io co lo:Option Nat) (c:Nat->Nat) (L:Nat->Bool) (h:CtxV w (.map co) (.map lo) c L) :
  Calls Tryz.prog 221 #[.agg #[.map io,.map co,.map lo]] w fun e w'=>∃ v ns rs,e=.returned v/\ns.Nodup/\(∀ d,d∈ns↔1<=nth d/\inK c L d)/\Runs ns ns.length rs/\w'.ownsRow w.heap.size 250 3 v rs.length (rcells rs)/\Below w.heap.size w w':=by
 have Hc:Hid (∀ ob,Calls Tryz.prog 268 #[.agg #[.map co,.map lo]] (w.alloc ob) fun e w'=>∃ v ns rs,e=.returned v/\ns.Nodup/\(∀ d,d∈ns↔1<=nth d/\inK c L d)/\Runs ns ns.length rs/\w'.ownsRow w.heap.size 250 3 v rs.length (rcells rs)/\Below w.heap.size w w'):=fun ob=>by
  have hb:Below w.heap.size w (w.alloc ob):=(Below.refl _ w).alloc (Nat.le_refl _) _
  refine Calls.mono (runs_any _ co lo c L (h.below hb)) ?_
  rintro e w' ⟨v,ns,rs,rfl,h1,h2,h3,h4,h5⟩
  exact ⟨v,ns,rs,rfl,h1,h2,h3,own_base h4 (by simp),hb.trans (h5.mono hb.size)⟩
 clear h
 go_enter Tryz.func221,Tryz.ntmps221
 go_wp2_with fail
 refine Calls.mono (Hc.out _) ?_
 rintro e w2 ⟨v,ns,rs,rfl,h1,h2,h3,h4,h5⟩
 have HH:Hid (_):=And.intro h1 (And.intro h2 (And.intro h3 (And.intro h4 h5)))
 clear h1 h2 h3 h4 h5
 go_wp2
 go_ret
 exact ⟨v,ns,rs,rfl,HH.out⟩

theorem sItems_any (w:World) (io co lo:Option Nat) (N:Nat) (m:Value->Option Value) (h:MapO Tryz.prog 134 w (.map io) N m) :
  Calls Tryz.prog 223 #[.agg #[.map io,.map co,.map lo]] w fun e w'=>e=.returned (.int .i64 (N:Int))/\Below w.heap.size w w':=by
 have HL:Hid (∀ ob ty,(Builtin.len_ #[96] ty #[.map io]).run Tryz.prog (w.alloc ob)=.ok (.int .i64 (N:Int)) (w.alloc ob)):=fun ob ty=>(h.below ((Below.refl _ w).alloc (Nat.le_refl _) _)).len Tryz.underlying96 ty
 have hb:∀ ob,Below w.heap.size w (w.alloc ob):=fun ob=>(Below.refl _ w).alloc (Nat.le_refl _) _
 clear h
 go_enter Tryz.func223,Tryz.ntmps223
 go_wp2_with fail
 rw[HL.out]
 go_wp2
 go_ret
 exact ⟨rfl,hb _⟩

theorem head_any (w:World) (a m k:Nat) (ac:Bool) (v2 v3 v4:Value) (ha:a<=5) (hm:m<=505) (hk:k<=1) :
  Calls Tryz.prog 164 #[.agg #[.int .i64 (a:Int),.int .i64 (m:Int),.bool ac,v2,v3,v4],.int .i64 (k:Int)] w fun e w'=>∃ v',e=.returned v'/\OutV w.heap.size w' v' (encN k ++ encN a ++ encN m)/\OutF w.heap.size w w':=by
 have hen:=encN_len k
 have hea:=encN_len a
 have hz:Hid (([]:Thk.Bs) ++ encN k ++ encN a ++ encN m=encN k ++ encN a ++ encN m):=by unfold Hid;rw[List.nil_append]
 have kb:=Blk.new w #[.int .i64 (a:Int),.int .i64 (m:Int),.bool ac,v2,v3,v4] 104
 have HF0:Hid (OutF w.heap.size w (w.alloc (.cells #[.int .i64 (a:Int),.int .i64 (m:Int),.bool ac,v2,v3,v4] 104))):=OutF.of_below ((Below.refl _ w).alloc (Nat.le_refl _) _)
 go_enter Tryz.func164,Tryz.ntmps164
 go_wp2_with fail
 generalize w.alloc (.cells #[.int .i64 (a:Int),.int .i64 (m:Int),.bool ac,v2,v3,v4] 104)=w0 at *
 have c0:w0.cell? ⟨w.heap.size,0,none⟩=some (.int .i64 (a:Int)):=(kb.cell 0).trans rfl
 have c1:w0.cell? ⟨w.heap.size,1,none⟩=some (.int .i64 (m:Int)):=(kb.cell 1).trans rfl
 have HN:∀ (q:Nat) (lu:Thk.Bs) wx w3 u,(OutV w.heap.size w3 u lu/\OutF w.heap.size w w3/\Blk w3 w.heap.size #[.int .i64 (a:Int),.int .i64 (m:Int),.bool ac,v2,v3,v4] 104)->lu.length<=1000000->q<16384->wx.heap=w3.heap->wx.os=w3.os->wx.tape=w3.tape->wx.output=w3.output->Calls Tryz.prog 220 #[u,.int .i64 (q:Int)] wx fun e w'=>∃ v',e=.returned v'/\(OutV w.heap.size w' v' (lu ++ encN q)/\OutF w.heap.size w w'/\Blk w' w.heap.size #[.int .i64 (a:Int),.int .i64 (m:Int),.bool ac,v2,v3,v4] 104)/\w'.cell? ⟨w.heap.size,0,none⟩=some (.int .i64 (a:Int))/\w'.cell? ⟨w.heap.size,1,none⟩=some (.int .i64 (m:Int)):=fun q lu wx w3 u hall hlu hq hx ho ht hp=>by
  obtain ⟨hu,hF,hk⟩:=hall
  have hF':OutF w.heap.size w wx:=hF.trans (OutF.heap hx ho ht hp)
  have kx:Blk wx w.heap.size #[.int .i64 (a:Int),.int .i64 (m:Int),.bool ac,v2,v3,v4] 104:=by unfold Blk;rw[hx];exact hk
  refine Calls.mono (Number_any w.heap.size wx u _ q (hu.heap hx) hF'.size hlu hq) ?_
  rintro e w' ⟨v',rfl,h1,h2⟩
  have kx':=h2.blk kx (by decide)
  exact ⟨v',rfl,⟨h1,hF'.trans h2,kx'⟩,(kx'.cell 0).trans rfl,(kx'.cell 1).trans rfl⟩
 have HN1:Hid (∀ wx,wx.heap=w0.heap->wx.os=w0.os->wx.tape=w0.tape->wx.output=w0.output->Calls Tryz.prog 220 #[.slice none 0 0,.int .i64 (k:Int)] wx _):=fun wx=>HN k [] wx w0 (.slice none 0 0) ⟨OutV.nil _ _,HF0.out,kb⟩ (by simp) (by omega)
 have HN2:Hid (∀ wx w3 u,(OutV w.heap.size w3 u ([] ++ encN k)/\OutF w.heap.size w w3/\Blk w3 w.heap.size #[.int .i64 (a:Int),.int .i64 (m:Int),.bool ac,v2,v3,v4] 104)->wx.heap=w3.heap->wx.os=w3.os->wx.tape=w3.tape->wx.output=w3.output->Calls Tryz.prog 220 #[u,.int .i64 (a:Int)] wx _):=fun wx w3 u hall=>HN a _ wx w3 u hall (by simp;omega) (by omega)
 have HN3:Hid (∀ wx w3 u,(OutV w.heap.size w3 u ([] ++ encN k ++ encN a)/\OutF w.heap.size w w3/\Blk w3 w.heap.size #[.int .i64 (a:Int),.int .i64 (m:Int),.bool ac,v2,v3,v4] 104)->wx.heap=w3.heap->wx.os=w3.os->wx.tape=w3.tape->wx.output=w3.output->Calls Tryz.prog 220 #[u,.int .i64 (m:Int)] wx _):=fun wx w3 u hall=>HN m _ wx w3 u hall (by simp;omega) (by omega)
 clear kb hen hea HF0 HN
 go_region_held3 (fun w'=>w'.cell? ⟨w.heap.size,0,none⟩=some (.int .i64 (a:Int))/\w'.cell? ⟨w.heap.size,1,none⟩=some (.int .i64 (m:Int))) (first | assumption | exact ⟨c0,c1⟩ | exact g0 | exact f0 | exact e0) (first | (go_at_call 220;refine Calls.mono (HN3.out _ w4 _ h4 rfl rfl rfl rfl) ?_;rintro e w5 ⟨v5,rfl,h5,g0⟩) | (go_at_call 220;refine Calls.mono (HN2.out _ w3 _ h3 rfl rfl rfl rfl) ?_;rintro e w4 ⟨v4,rfl,h4,f0⟩) | (go_at_call 220;refine Calls.mono (HN1.out _ rfl rfl rfl rfl) ?_;rintro e w3 ⟨v3,rfl,h3,e0⟩))
 go_wp2_with fail
 go_ret
 rw[hz.out] at h5
 exact ⟨_,rfl,h5.1,h5.2.1⟩
end Go.Proofs.YtfmmllpjgkgeaaaGreatDoor
namespace Go.Proofs.YtfmmllpjgkgeaaaGreatDoor
open Go.RowKit Go.Maps

structure OutG (v:Value) (w:World) (v':Value) (w':World):Prop where
 chg:Chg (fun k=>v.ownBlock=some k) w w'
 loc:∀ g,v'.ownBlock=some g->v.ownBlock=some g\/w.heap.size<=g
theorem OutG.trans {v v1 v2:Value} {w w1 w2:World} (h:OutG v w v1 w1) (k:OutG v1 w1 v2 w2):OutG v w v2 w2:=by
 have hs:=h.chg.size
 refine ⟨⟨k.chg.os.trans h.chg.os,k.chg.tape.trans h.chg.tape,k.chg.output.trans h.chg.output,Nat.le_trans hs k.chg.size,fun j hj hn=>?_⟩,fun g hg=>?_⟩
 ·refine (k.chg.block j (by omega) (fun e=>?_)).trans (h.chg.block j hj hn)
  rcases h.loc j e with h1 | h1
  ·exact hn h1
  ·omega
 ·rcases k.loc g hg with h1 | h1
  ·exact h.loc g h1
  ·right;omega
theorem OutG.of_below {v:Value} {w w':World} (hb:Below w.heap.size w w'):OutG v w v w':=⟨Chg.of_below hb,fun _ h=>Or.inl h⟩
theorem OutG.heap {v:Value} {w w':World} (hx:w'.heap=w.heap) (ho:w'.os=w.os) (ht:w'.tape=w.tape) (hp:w'.output=w.output):OutG v w v w' :=
 ⟨⟨ho,ht,hp,by rw[hx];exact Nat.le_refl _,fun k _ _=>by rw[hx]⟩,fun _ h=>Or.inl h⟩
theorem OutG.app0 {v v':Value} {w w':World} (hg:w.grownBy w' v.ownBlock) (hl:v'.ownBlock=v.ownBlock\/v'.ownBlock=some w.heap.size):OutG v w v' w':=by
 refine ⟨(Chg.refl _ w).grown hg (fun k e=>Or.inl e),fun g h=>?_⟩
 rcases hl with e | e
 ·exact Or.inl (e ▸ h)
 ·rw[e] at h;cases h;exact Or.inr (Nat.le_refl _)
theorem OutG.app {v v':Value} {w w':World} {o:Obj} (hg:(w.alloc o).grownBy w' v.ownBlock) (hl:v'.ownBlock=v.ownBlock\/v'.ownBlock=some (w.alloc o).heap.size):OutG v w v' w' :=
 (OutG.of_below ((Below.refl _ w).alloc (Nat.le_refl _) o)).trans (OutG.app0 hg hl)
theorem OutG.blk {B:Nat} {v v':Value} {l:Thk.Bs} {w w':World} {b:Nat} {cs:Array Value} {t:TypeId} (h:OutG v w v' w') (ho:OutV B w v l) (k:Blk w b cs t) (ht:t≠5):Blk w' b cs t:=by
 refine k.chg h.chg (fun hm=>ownsRow_ne ho (fun cur fz e=>?_) hm)
 rw[show w.heap[b]? = _ from k] at e
 cases e
 exact ht rfl
theorem OutG.outF {B:Nat} {v v':Value} {l:Thk.Bs} {w w':World} (h:OutG v w v' w') (ho:OutV B w v l):OutF B w w':=by
 refine h.chg.mono (fun k hk e=>?_)
 rcases ho.2 with ⟨rfl,_⟩ | ⟨g,cap,cur,rfl,hB,hg,_⟩
 ·cases e
 ·cases e;exact ⟨hB,_,_,hg⟩

section
variable {P:Program} {w:World}
open Go.Lib in
theorem run_str_at (base:Nat) (t u ty e:TypeId) (i:TypeInfo) (ht:P.underlying t=some (.slice e)) (hu:P.underlying u=some .string) (hi:P.info? e=some i) (hz:i.zero=some (.int .u8 0))
  (hsize:i.size=1) (hby:i.bytes=1) (v:Value) (n:Nat) (xs:List Value) (hown:w.ownsRow base e 1 v n xs) (s:ByteArray) (h63:n+s.size<=maxLen) (hbytes:n+s.size<=140737488355328) (hbase:base<=w.heap.size) :
  ∃ v' w',(Builtin.append_ #[t,u] ty #[v,.string s]).run P w=.ok v' w'/\w'.ownsRow base e 1 v' (n+s.size) (xs ++ strCells s)/\w.grownBy w' v.ownBlock/\(v'.ownBlock=v.ownBlock\/v'.ownBlock=some w.heap.size):=by
 obtain ⟨v',w',hr,h2,h3,h4⟩:=run_append_own_string (P:=P) w base t u ty e i ht hu hi hz hsize hby v n xs hown s h63 hbytes hbase
 refine ⟨v',w',hr,h2,h3, ?_⟩
 have hsmall:n+s.size<=9223372036854775807:=by simp only[maxLen] at h63;omega
 have hxl:xs.length=n:=by simpa using hown.1
 rcases hown.2 with ⟨rfl,rfl⟩ | ⟨g,cap,cur,rfl,hbg,hg,hnc,hcm,hcs,htake⟩
 ·by_cases hm:s.size=0
  ·left;rw[h4.2 ⟨rfl,hm⟩]
  ·right
   have hr2:=run_append_nil_string (P:=P) w t u ty e i (.int .u8 0) ht hu hi hz s (by omega) (by omega) (by rw[hby];omega)
   rw[hr] at hr2
   injection hr2 with h5 h6
   rw[h5];(first | done | rfl)
 ·by_cases hroom:n+s.size<=cap
  ·left
   have hcs':cur.size=cap:=by simpa using hcs
   have hr2:=run_append_room_string (P:=P) w t u ty e i ht hu hi hsize g n cap cur hg s hroom (by omega)
   rw[hr] at hr2
   injection hr2 with h5 h6
   rw[h5];(first | done | rfl)
  ·right
   have holds:∀ j u,xs[j]? = some u->w.cell? ((⟨g,0,none⟩:Addr).add j)=some u:=hown.cells (g:=g) rfl
   have hr2:=run_append_grow_string (P:=P) w t u ty e i (.int .u8 0) ht hu hi hz ⟨g,0,none⟩ n cap xs (by rw[hsize];simpa using hxl) holds s (by omega) (by omega) (by rw[hby];exact growslice_fits (by omega) (by omega))
   rw[hr] at hr2
   injection hr2 with h5 h6
   rw[h5];(first | done | rfl)
theorem wpList_str_at {ops:Array Oper} {rest:List Oper} {o:Oper} {a:Act} {Q:Exit->Act->World->Prop} (hgd:o.guard=none) (sl x:Operand) (t u:TypeId)
  (ho:o.op=.call { callee:=.builtin .append,args:=#[sl,x],argTypes:=#[t,u] })
  (base:Nat) (e:TypeId) (i:TypeInfo) (ht:P.underlying t=some (.slice e)) (hu:P.underlying u=some .string) (hi:P.info? e=some i) (hz:i.zero=some (.int .u8 0)) (hsize:i.size=1) (hby:i.bytes=1)
  (v:Value) (n:Nat) (xs:List Value) (hs:a.eval sl=v) (hown:w.ownsRow base e 1 v n xs) (s:ByteArray) (hx:a.eval x=.string s) (h63:n+s.size<=maxLen) (hbytes:n+s.size<=140737488355328) (hbase:base<=w.heap.size)
  (h:∀ v' w',w'.ownsRow base e 1 v' (n+s.size) (xs ++ Lib.strCells s)->w.grownBy w' v.ownBlock->(v'.ownBlock=v.ownBlock\/v'.ownBlock=some w.heap.size)->wpList P ops Q rest (a.put o.dst v') w'):wpList P ops Q (o :: rest) a w:=by
 refine wpList_plain hgd fun K hK=>?_
 obtain ⟨v',w',hr,h2,h3,h4⟩:=run_str_at (P:=P) base t u o.type e i ht hu hi hz hsize hby v n xs hown s h63 hbytes hbase
 unfold Oper.wp execOp
 simp only[ho,resolve,invoke,builtin,Sem.run_bind,Sem.run_pure,Result.andThen_ok,List.map_toArray,List.map_cons,List.map_nil,hs,hx,hr]
 exact hK _ _ (h v' w' h2 h3 h4)
end

theorem Number_loc (B:Nat) (w:World) (v:Value) (l:Thk.Bs) (n:Nat) (h:OutV B w v l) (hB:B<=w.heap.size) (hl:l.length<=1000000) (hn:n<16384) :
  Calls Tryz.prog 220 #[v,.int .i64 (n:Int)] w fun e w'=>∃ v',e=.returned v'/\OutV B w' v' (l ++ encN n)/\OutG v w v' w':=by
 obtain ⟨i0,hi,hz0,hz1,hz2⟩:=info_parts Tryz.infoU8
 have H:Hid (OutV B w v l):=h
 have h63:l.length+1<=maxLen:=by unfold maxLen;omega
 have h64:(l.length+1)*1<=140737488355328:=by omega
 by_cases hs:n<128
 ·have hconv:IntKind.u8.wrap (n:Int)=n:=wrap_u8 n (by omega)
  have hgt:((n:Int) > 127)=False:=by simp;omega
  have He:Hid (bsV (l ++ encN n)=bsV l ++ [.int .u8 (n:Int)]):=by
   unfold Hid
   rw[encN_one hs,bsV_app]
   simp[bsV,UInt8.toNat_ofNat']
   omega
  clear h
  go_enter Tryz.func220,Tryz.ntmps220
  go_wp2_with fail
  go_loopg [0,1] 0 (fun g v0 v1 wx=>v0=v/\v1=.int .i64 (n:Int)/\wx=w)
  case atStart=>exact ⟨rfl,rfl,rfl⟩
  case round =>
   obtain ⟨rfl,rfl,rfl⟩:=hrel
   go_wp2_with (first | (at_builtin;refine wpList_append_own_at _ rfl (.tmp 16) (.tmp 19) 93 rfl B 5 i0 (.int .u8 0) 1 1 Tryz.underlying93 hi hz0 hz1 hz2 rfl (by decide) _ _ _ rfl (H.out.alloc _) ⟨wr.heap.size,0,none⟩ 1 1 [.int .u8 (n:Int)] rfl rfl (cell_one_new _ _ _) (by intro u hu;simp at hu;subst hu;rfl) h63 h64 (by simp;omega) ?_;intro v6 w6 ho6 hg6 hn6 hl6))
   go_ret
   refine ⟨_,rfl, ?_,OutG.app hg6 hl6⟩
   unfold OutV
   rw[He.out,List.length_append,encN_one hs]
   exact ho6
 ·have hb0:n % 128+128<256:=by omega
  obtain ⟨q,hq⟩:∃ q,n / 128=q:=⟨_,rfl⟩
  obtain ⟨r,hr⟩:∃ r,n % 128+128=r:=⟨_,rfl⟩
  have hlow:bits .and .i64 (n:Int) 127=(n:Int) % 128:=by rw[low_i64 n (by omega)];omega
  have hmore:bits .or .i64 ((n:Int) % 128) 128=(r:Int):=by
   have:=more_i64 (n % 128) (by omega)
   rw[<- hr,<- this]
   congr 1
  have hcv0:(r:Int) % 256=r:=by omega
  have hcv1:(q:Int) % 256=q:=by omega
  have hdiv:(n:Int) / 128=(q:Int):=by omega
  have hgt:(n:Int) > 127:=by omega
  have hd128:q<128:=by omega
  have He1:Hid (bsV (l ++ [UInt8.ofNat r])=bsV l ++ [.int .u8 (r:Int)]):=by
   unfold Hid
   rw[bsV_app]
   simp[bsV,UInt8.toNat_ofNat']
   omega
  have He2:Hid (bsV (l ++ encN n)=bsV (l ++ [UInt8.ofNat r]) ++ [.int .u8 (q:Int)]):=by
   unfold Hid
   rw[encN_two hs,hr,hq,bsV_app,bsV_app,List.append_assoc]
   simp[bsV,UInt8.toNat_ofNat']
   omega
  have h65:l.length+1+1<=maxLen:=by unfold maxLen;omega
  have h66:(l.length+1+1)*1<=140737488355328:=by omega
  clear hq hr hb0
  clear h
  go_enter Tryz.func220,Tryz.ntmps220
  go_wp2_with fail
  go_loopg [0,1] 1 (fun g v0 v1 wx=>(g=1/\v0=v/\v1=.int .i64 (n:Int)/\wx=w)\/(g=0/\v1=.int .i64 (q:Int)/\wx.ownsRow B 5 1 v0 (l.length+1) (bsV (l ++ [UInt8.ofNat r]))/\OutG v w v0 wx))
  case atStart=>exact Or.inl ⟨rfl,rfl,rfl,rfl⟩
  case round =>
   rcases hrel with ⟨hg,rfl,rfl,rfl⟩ | ⟨hg,rfl,hown,hF⟩
   ·go_wp2_with (first | (at_builtin;refine wpList_append_own_at _ rfl (.tmp 7) (.tmp 12) 93 rfl B 5 i0 (.int .u8 0) 1 1 Tryz.underlying93 hi hz0 hz1 hz2 rfl (by decide) _ _ _ rfl (H.out.alloc _) ⟨wr.heap.size,0,none⟩ 1 1 [.int .u8 (r:Int)] rfl rfl (cell_one_new _ _ _) (by intro u hu;simp at hu;subst hu;rfl) h63 h64 (by simp;omega) ?_;intro v6 w6 ho6 hg6 hn6 hl6;have HF6:=OutG.app hg6 hl6;clear hg6 hl6))
    go_roundg 0
    case measure=>omega
    case rel=>exact Or.inr ⟨rfl,rfl,by rw[He1.out];exact ho6,HF6⟩
   ·have HF:Hid (OutG v w u0 wr):=hF
    have HV:Hid (OutV B wr u0 (l ++ [UInt8.ofNat r])):=by unfold Hid OutV;rw[List.length_append];exact hown
    have hBr:B<=wr.heap.size:=Nat.le_trans hB hF.chg.size
    have hgt2:¬((q:Int) > 127):=by omega
    have HO:Hid (∀ o,(wr.alloc o).ownsRow B 5 1 u0 (l.length+1) (bsV (l ++ [UInt8.ofNat r]))):=fun o=>hown.alloc o
    clear hF hown
    go_wp2_with (first | (at_builtin;refine wpList_append_own_at _ rfl (.tmp 16) (.tmp 19) 93 rfl B 5 i0 (.int .u8 0) 1 1 Tryz.underlying93 hi hz0 hz1 hz2 rfl (by decide) _ _ _ rfl (HO.out _) ⟨wr.heap.size,0,none⟩ 1 1 [.int .u8 (q:Int)] rfl rfl (cell_one_new _ _ _) (by intro u hu;simp at hu;subst hu;rfl) h65 h66 (by simp;omega) ?_;intro v6 w6 ho6 hg6 hn6 hl6;have HF6:=OutG.app hg6 hl6;clear hg6 hl6))
    go_ret
    refine ⟨_,rfl, ?_,HF.out.trans HF6⟩
    unfold OutV
    rw[He2.out,List.length_append,encN_two hs]
    exact ho6
theorem wdot_loc (B:Nat) (w:World) (v:Value) (l:Thk.Bs) (d:Nat) (h:OutV B w v l) (hB:B<=w.heap.size) (hl:l.length<=900000) (hd:who d<=5) :
  Calls Tryz.prog 222 #[v,dotE d] w fun e w'=>∃ v',e=.returned v'/\OutV B w' v' (l ++ encD d)/\OutG v w v' w':=by
 have hn:=nth_lt d
 have He:Hid (l ++ encD d=l ++ encN (who d) ++ encN (nth d)):=by unfold Hid encD;rw[List.append_assoc]
 rw[He.out]
 unfold dotE
 generalize who d=a at *
 generalize nth d=n at *
 have hen:=encN_len a
 have H0:Hid (OutV B (w.alloc (.cells #[.int .i64 (a:Int),.int .i64 (n:Int)] 134)) v l):=World.ownsRow.alloc h _
 have kb:=Blk.new w #[.int .i64 (a:Int),.int .i64 (n:Int)] 134
 have HF0:Hid (OutG v w v (w.alloc (.cells #[.int .i64 (a:Int),.int .i64 (n:Int)] 134))):=OutG.of_below ((Below.refl _ w).alloc (Nat.le_refl _) _)
 clear h
 go_enter Tryz.func222,Tryz.ntmps222
 go_wp2_with fail
 generalize w.alloc (.cells #[.int .i64 (a:Int),.int .i64 (n:Int)] 134)=w0 at *
 have c0:w0.cell? ⟨w.heap.size,0,none⟩=some (.int .i64 (a:Int)):=(kb.cell 0).trans rfl
 have c1:w0.cell? ⟨w.heap.size,1,none⟩=some (.int .i64 (n:Int)):=(kb.cell 1).trans rfl
 have HN:∀ (m:Nat) (lu:Thk.Bs) wx w3 u,(OutV B w3 u lu/\OutG v w u w3/\Blk w3 w.heap.size #[.int .i64 (a:Int),.int .i64 (n:Int)] 134)->lu.length<=1000000->m<16384->wx.heap=w3.heap->wx.os=w3.os->wx.tape=w3.tape->wx.output=w3.output->Calls Tryz.prog 220 #[u,.int .i64 (m:Int)] wx fun e w'=>∃ v',e=.returned v'/\(OutV B w' v' (lu ++ encN m)/\OutG v w v' w'/\Blk w' w.heap.size #[.int .i64 (a:Int),.int .i64 (n:Int)] 134)/\w'.cell? ⟨w.heap.size,0,none⟩=some (.int .i64 (a:Int))/\w'.cell? ⟨w.heap.size,1,none⟩=some (.int .i64 (n:Int)):=fun m lu wx w3 u hall hlu hm hx ho ht hp=>by
  obtain ⟨hu,hF,hk⟩:=hall
  have hF':OutG v w u wx:=hF.trans (OutG.heap hx ho ht hp)
  have kx:Blk wx w.heap.size #[.int .i64 (a:Int),.int .i64 (n:Int)] 134:=by unfold Blk;rw[hx];exact hk
  refine Calls.mono (Number_loc B wx u _ m (hu.heap hx) (Nat.le_trans hB hF'.chg.size) hlu hm) ?_
  rintro e w' ⟨v',rfl,h1,h2⟩
  have kx':=h2.blk (hu.heap hx) kx (by decide)
  exact ⟨v',rfl,⟨h1,hF'.trans h2,kx'⟩,(kx'.cell 0).trans rfl,(kx'.cell 1).trans rfl⟩
 have HN1:Hid (∀ wx,wx.heap=w0.heap->wx.os=w0.os->wx.tape=w0.tape->wx.output=w0.output->Calls Tryz.prog 220 #[v,.int .i64 (a:Int)] wx _):=fun wx=>HN a l wx w0 v ⟨H0.out,HF0.out,kb⟩ (by omega) (by omega)
 have HN2:Hid (∀ wx w3 u,(OutV B w3 u (l ++ encN a)/\OutG v w u w3/\Blk w3 w.heap.size #[.int .i64 (a:Int),.int .i64 (n:Int)] 134)->wx.heap=w3.heap->wx.os=w3.os->wx.tape=w3.tape->wx.output=w3.output->Calls Tryz.prog 220 #[u,.int .i64 (n:Int)] wx _):=fun wx w3 u hall=>HN n _ wx w3 u hall (by simp;omega) (by omega)
 clear kb hen H0 HF0 HN
 go_region_held3 (fun w'=>w'.cell? ⟨w.heap.size,0,none⟩=some (.int .i64 (a:Int))/\w'.cell? ⟨w.heap.size,1,none⟩=some (.int .i64 (n:Int))) (refine ⟨?_, ?_⟩ <;> (first | assumption | exact c0 | exact c1)) (first | (go_at_call 220;refine Calls.mono (HN2.out _ w3 _ h3 rfl rfl rfl rfl) ?_;rintro e w4 ⟨v4,rfl,h4,f0,f1⟩) | (go_at_call 220;refine Calls.mono (HN1.out _ rfl rfl rfl rfl) ?_;rintro e w3 ⟨v3,rfl,h3,e0,e1⟩))
 go_wp2_with fail
 go_ret
 exact ⟨_,rfl,h4.1,h4.2.1⟩

theorem wText_loc (B:Nat) (w:World) (v:Value) (l:Thk.Bs) (s:ByteArray) (h:OutV B w v l) (hB:B<=w.heap.size) (hl:l.length<=900000) (hs:s.size<16384) :
  Calls Tryz.prog 224 #[v,.string s] w fun e w'=>∃ v',e=.returned v'/\OutV B w' v' (l ++ encN s.size ++ toL s)/\OutG v w v' w':=by
 obtain ⟨i0,hi,hz0,hz1,hz2⟩:=info_parts Tryz.infoU8
 have hen:=encN_len s.size
 have HN:Hid (_):=Number_loc B w v l s.size h hB (by omega) hs
 clear h
 go_enter Tryz.func224,Tryz.ntmps224
 go_wp2_with fail
 refine Calls.mono HN.out ?_
 rintro e w1 ⟨v1,rfl,h1,hF1⟩
 have hB1:B<=w1.heap.size:=Nat.le_trans hB hF1.chg.size
 have HV1:Hid (OutV B w1 v1 (l ++ encN s.size)):=h1
 have HF1:Hid (OutG v w v1 w1):=hF1
 have h63:(l ++ encN s.size).length+s.size<=maxLen:=by unfold maxLen;simp;omega
 have h64:(l ++ encN s.size).length+s.size<=140737488355328:=by simp;omega
 clear h1 hF1 HN
 go_wp2_with (first | (at_builtin;refine wpList_str_at rfl (.tmp 8) (.tmp 9) 93 9 rfl B 5 i0 Tryz.underlying93 Tryz.underlying9 hi hz0 hz1 hz2 _ _ _ rfl HV1.out s rfl h63 h64 hB1 ?_;intro v6 w6 ho6 hg6 hl6))
 go_ret
 refine ⟨_,rfl, ?_,HF1.out.trans (OutG.app0 hg6 hl6)⟩
 unfold OutV
 rw[bsV_app,<- strCells_bsV,List.length_append]
 exact ho6
end Go.Proofs.YtfmmllpjgkgeaaaGreatDoor

