import Derived.Test.YtfmmllpjgkgeaaaGreatDoorPartV34
import Derived.Test.YtfmmllpjgkgeaaaGreatDoorPartV36
set_option linter.unusedVariables false
set_option linter.unusedSimpArgs false
set_option maxHeartbeats 16000000
set_option maxRecDepth 100000
namespace Go.Proofs.YtfmmllpjgkgeaaaGreatDoor
open Go.RowKit
variable {F G:Stt}

theorem LawI.more (hP:ProgFrame F) (hQ:RefFrame G) {B N:Nat} {w w6:World} {b:Nat} {rv:Value} {l:List PairD} (h:LawI F G B w b rv l) (hN:∀ j (hj:j<l.length) k,l[j].foot k->k<N) (hBN:B<=N) {x:Nat} {S:Nat->Prop} {c:Nat} {R:Nat->Prop} {s:St}
  (hf:F w x S s) (hr:G w c R s) (hS:∀ k,S k->N<=k) (hRk:∀ k,R k->N<=k) {g cap:Nat}
  (ho:w6.ownsRow B 116 1 (.slice (some ⟨g,0,none⟩) (l.length+1) cap) (l.length+1) (pbs l ++ [.pointer (some ⟨w.heap.size,0,none⟩)]))
  (hg:((w.alloc (.cells #[.pointer (some ⟨x,0,none⟩),.pointer (some ⟨c,0,none⟩)] 159)).alloc (.cells #[.pointer (some ⟨w.heap.size,0,none⟩)] 116)).grownBy w6 rv.ownBlock) :
  LawI F G B (w6.setCell ⟨b,0,none⟩ (.slice (some ⟨g,0,none⟩) (l.length+1) cap)) b (.slice (some ⟨g,0,none⟩) (l.length+1) cap) (l ++ [⟨w.heap.size,x,S,c,R,s⟩])/\Below B w (w6.setCell ⟨b,0,none⟩ (.slice (some ⟨g,0,none⟩) (l.length+1) cap)):=by
 obtain ⟨wa,hwa⟩:∃ wa,wa=(w.alloc (.cells #[.pointer (some ⟨x,0,none⟩),.pointer (some ⟨c,0,none⟩)] 159)).alloc (.cells #[.pointer (some ⟨w.heap.size,0,none⟩)] 116):=⟨_,rfl⟩
 have hba:Below w.heap.size w wa:=by rw[hwa];exact ((Below.refl _ w).alloc (Nat.le_refl _) _).alloc (by simp) _
 have hpa:Blk wa w.heap.size #[.pointer (some ⟨x,0,none⟩),.pointer (some ⟨c,0,none⟩)] 159:=by rw[hwa];exact (Blk.new w _ _).alloc _
 rw[<- hwa] at hg
 clear hwa
 have ha:=h.below hP hQ hba
 have hda:PairD.At F G wa ⟨w.heap.size,x,S,c,R,s⟩ :=
  ⟨⟨_,hpa⟩,(hpa.cell 0).trans rfl,(hpa.cell 1).trans rfl,hP.below hf hba,hQ.below hr hba⟩
 have hcM:Chg (fun k=>rv.ownBlock=some k\/k=b) wa (w6.setCell ⟨b,0,none⟩ (.slice (some ⟨g,0,none⟩) (l.length+1) cap)) :=
  Chg.setCell (p:=⟨b,0,none⟩) ((Chg.refl (fun k=>rv.ownBlock=some k\/k=b) wa).grown hg (fun k hk=>Or.inl (Or.inl hk))) (Or.inr rfl) _
 have hM:∀ k,(rv.ownBlock=some k\/k=b)->k<wa.heap.size->Tagged wa k 63\/Tagged wa k 116:=by
  rintro k (hk | rfl) _
  ·exact Or.inr (ha.rowTag k hk)
  ·exact Or.inl ⟨_,ha.blk⟩
 have hMB:∀ k,(rv.ownBlock=some k\/k=b)->B<=k:=by
  rintro k (hk | rfl)
  ·exact (ha.row.lt k hk).1
  ·exact h.bB
 have hbr:rv.ownBlock≠some b:=fun e=>Tagged.ne (ha.rowTag b e) ⟨_,ha.blk⟩ (by decide) rfl
 have hb6:Blk w6 b #[rv,.bool false] 63:=(hg.block b ha.blk.lt (Ne.symm hbr)).trans ha.blk
 have hgb:g≠b:=fun e=>by
  subst e
  obtain ⟨_,⟨h1,_⟩ | ⟨g',cp,cur,hv,_,hh,_⟩⟩:=ho
  ·cases h1
  ·simp only[Value.slice.injEq,Option.some.injEq,Addr.mk.injEq,true_and,and_true] at hv
   obtain ⟨rfl,rfl⟩:=hv
   exact absurd (blk_types hb6 hh).2 (by decide)
 have hlen:(l ++ [(⟨w.heap.size,x,S,c,R,s⟩:PairD)]).length=l.length+1:=by simp
 have hget:∀ j (hj:j<l.length),(l ++ [(⟨w.heap.size,x,S,c,R,s⟩:PairD)])[j]'(by rw[hlen];omega)=l[j]:=fun j hj=>List.getElem_append_left hj
 have hlast:∀ j (hj:j<(l ++ [(⟨w.heap.size,x,S,c,R,s⟩:PairD)]).length),¬j<l.length->(l ++ [(⟨w.heap.size,x,S,c,R,s⟩:PairD)])[j]=⟨w.heap.size,x,S,c,R,s⟩:=fun j hj hn=>by
  rw[List.getElem_append_right (by omega)]
  have:j-l.length=0:=by rw[hlen] at hj;omega
  simp[this]
 have hfoot:∀ k,PairD.foot ⟨w.heap.size,x,S,c,R,s⟩ k->N<=k:=by
  rintro k (hk | hk)
  ·exact hS k hk
  ·exact hRk k hk
 refine ⟨⟨(h.glob.mono hba).chg4 hcM (fun k hk=>Nat.le_trans h.b4 (hMB k hk)),h.b4,h.bB, ?_, ?_,fun j hj=>?_,fun j hj k hk=>?_,fun i j hi hj hij k hk=>?_⟩, ?_⟩
 ·unfold Blk at hb6 ⊢
  simp[World.setCell,Array.getElem?_modify,hb6]
 ·rw[hlen]
  have e:pbs (l ++ [(⟨w.heap.size,x,S,c,R,s⟩:PairD)])=pbs l ++ [.pointer (some ⟨w.heap.size,0,none⟩)]:=by simp[pbs]
  rw[e]
  exact ownsRow_setCell_other ho (a:=⟨b,0,none⟩) (fun e=>hgb (by simpa[Value.ownBlock] using e)) _
 ·by_cases hlt:j<l.length
  ·rw[hget j hlt];exact (ha.pair j hlt).law hP hQ hcM hM
  ·rw[hlast j hj hlt];exact hda.law hP hQ hcM hM
 ·by_cases hlt:j<l.length
  ·rw[hget j hlt] at hk;exact h.foot j hlt k hk
  ·rw[hlast j hj hlt] at hk;exact Nat.le_trans hBN (hfoot k hk)
 ·by_cases hli:i<l.length
  ·rw[hget i hli] at hk
   by_cases hlj:j<l.length
   ·rw[hget j hlj];exact h.apart i j hli hlj hij k hk
   ·rw[hlast j hj hlj];intro hm;have:=hfoot k hm;have:=hN i hli k hk;omega
  ·rw[hlast i hi hli] at hk
   by_cases hlj:j<l.length
   ·rw[hget j hlj];intro hm;have:=hfoot k hk;have:=hN j hlj k hm;omega
   ·rw[hlen] at hi hj;omega
 ·have hBw:B<=w.heap.size:=Nat.le_trans h.bB (Nat.le_of_lt h.blk.lt)
  exact (hba.mono hBw).trans ⟨hcM.os,hcM.tape,hcM.output,hcM.size,fun k hk=>hcM.block k (by have:=hba.size;omega) (fun hm=>by have:=hMB k hm;omega)⟩
end Go.Proofs.YtfmmllpjgkgeaaaGreatDoor
namespace Go.Proofs.YtfmmllpjgkgeaaaGreatDoor
open Go.RowKit
variable {F G:Stt}
structure RefNew (G:Stt):Prop where
 good:∀ (r room:Nat) (w:World),1<=r->r<=6->room<=50->Calls Tryz.prog 107 #[.int .i64 (r:Int),.int .i64 (room:Int)] w fun e w'=>∃ c R,e=.returned (.pointer (some ⟨c,0,none⟩))/\G w' c R ⟨[],List.replicate r [],[]⟩/\(∀ k,R k->w.heap.size<=k)/\Below w.heap.size w w'

theorem Tryz.infoPP:(Tryz.prog.info? 116).map (fun i=>(i.zero,i.size,i.bytes))=some (some (.pointer none),1,8):=by kernel_rfl

theorem made_any (hF:Prog4 F) (hV:RefNew G) (hP:ProgFrame F) (hQ:RefFrame G) (c B:Nat) (w:World) (b:Nat) (o:StepD) (ho:o.ok) (hcc:c<1099511627776) (hJ:LawJ F G c B w b) :
  Calls Tryz.prog 67 #[.pointer (some ⟨b,0,none⟩),o.val] w fun e w'=>e=.returned (.bool true)/\LawJ F G (c+1) B w' b/\Below B w w':=by
 obtain ⟨rv,l,hl,hI⟩:=hJ
 have HP:Hid (ProgFrame F):=hP
 have HQ:Hid (RefFrame G):=hQ
 have HVG:Hid (∀ (r room:Nat) (w:World),1<=r->r<=6->room<=50->_):=hV.good
 obtain ⟨iR,hiR,hzR0,hzR1,hzR2⟩:=info_parts Tryz.infoPP
 obtain ⟨k,a,n,m,s⟩:=o
 unfold StepD.val
 simp only at *
 have hb1:Below w.heap.size w (w.alloc (.cells #[.int .i64 k,.int .i64 a,.int .i64 n,.int .i64 m,.string s] 65)):=(Below.refl _ w).alloc (Nat.le_refl _) _
 have hblk1:Blk (w.alloc (.cells #[.int .i64 k,.int .i64 a,.int .i64 n,.int .i64 m,.string s] 65)) w.heap.size #[.int .i64 k,.int .i64 a,.int .i64 n,.int .i64 m,.string s] 65:=Blk.new w _ _
 have HN:Hid (∀ j (hj:j<l.length) i,l[j].foot i->i<w.heap.size):=fun j hj i hi=>foot_lt hP hQ (hI.pair j hj) hi
 have hBw:B<=w.heap.size:=Nat.le_trans hI.bB (Nat.le_of_lt hI.blk.lt)
 by_cases hbad:n<1\/6<n\/m<0\/50<m
 ·have Hc:Hid (_):=hF.bad _ n m (hI.glob.mono hb1) hbad
  have HJ:Hid (∀ w',Below w.heap.size w w'->LawJ F G (c+1) B w' b/\Below B w w'):=fun w' hb=>⟨⟨rv,l,by omega,hI.below hP hQ hb⟩,hb.mono hBw⟩
  have Hb1:Hid (_):=hb1
  have Hk1:Hid (Blk (w.alloc (.cells #[.int .i64 k,.int .i64 a,.int .i64 n,.int .i64 m,.string s] 65)) w.heap.size #[.int .i64 k,.int .i64 a,.int .i64 n,.int .i64 m,.string s] 65):=hblk1
  clear hI ho hb1 hblk1 HN hF hV hP hQ HVG
  go_enter Tryz.func67,Tryz.ntmps67
  go_wp2_with fail
  refine Calls.mono Hc.out ?_
  rintro e w2 ⟨rfl,hb2⟩
  have q2:w2.cell? ⟨w.heap.size,2,none⟩=some (.int .i64 n):=((Hk1.out.below hb2).cell 2).trans rfl
  have q3:w2.cell? ⟨w.heap.size,3,none⟩=some (.int .i64 m):=((Hk1.out.below hb2).cell 3).trans rfl
  have HB2:Hid (Below w.heap.size w w2):=Hb1.out.trans (hb2.mono Hb1.out.size)
  clear hb2 Hc Hb1 Hk1
  go_wp2_with fail
  refine Calls.mono (Fresh_bad n m w2 hbad) ?_
  rintro e w3 ⟨rfl,rfl⟩
  go_wp2_with (first | (go_at_call 108;refine (num_any _ _).mono ?_;rintro e w5 ⟨rfl,rfl⟩))
  go_ret
  exact ⟨rfl,HJ.out _ HB2.out⟩
 ·obtain ⟨r,rfl⟩:=Int.eq_ofNat_of_zero_le (show 0<=n by omega)
  obtain ⟨room,rfl⟩:=Int.eq_ofNat_of_zero_le (show 0<=m by omega)
  have h1:1<=r:=by omega
  have h6:r<=6:=by omega
  have h50:room<=50:=by omega
  have Hc:Hid (_):=hF.good _ r room (hI.glob.mono hb1) h1 h6 h50
  have Hb1:Hid (_):=hb1
  have Hk1:Hid (Blk (w.alloc (.cells #[.int .i64 k,.int .i64 a,.int .i64 (r:Int),.int .i64 (room:Int),.string s] 65)) w.heap.size #[.int .i64 k,.int .i64 a,.int .i64 (r:Int),.int .i64 (room:Int),.string s] 65):=hblk1
  have HI:Hid (LawI F G B w b rv l):=hI
  have m1:Hid (l.length+1<=maxLen):=by unfold Hid maxLen;omega
  have m2:Hid ((l.length+1)*8<=140737488355328):=by unfold Hid;omega
  clear hI ho hb1 hblk1 hbad hF hV hP hQ
  go_enter Tryz.func67,Tryz.ntmps67
  go_wp2_with fail
  refine Calls.mono Hc.out ?_
  rintro e w2 ⟨x,S,rfl,hf,hS,hb2⟩
  have q2:w2.cell? ⟨w.heap.size,2,none⟩=some (.int .i64 (r:Int)):=((Hk1.out.below hb2).cell 2).trans rfl
  have q3:w2.cell? ⟨w.heap.size,3,none⟩=some (.int .i64 (room:Int)):=((Hk1.out.below hb2).cell 3).trans rfl
  have HB2:Hid (Below w.heap.size w w2):=Hb1.out.trans (hb2.mono Hb1.out.size)
  have HF2:Hid (F w2 x S ⟨[],List.replicate r [],[]⟩):=hf
  have HS2:Hid (∀ k,S k->w.heap.size<=k):=fun k hk=>Nat.le_trans Hb1.out.size (hS k hk)
  clear hb2 Hc Hb1 Hk1 hf hS
  go_wp2_with fail
  refine Calls.mono (HVG.out r room w2 h1 h6 h50) ?_
  rintro e w3 ⟨cb,R,rfl,hr,hRb,hb3⟩
  have HB3:Hid (Below w.heap.size w w3):=HB2.out.trans (hb3.mono HB2.out.size)
  have HF3:Hid (F w3 x S ⟨[],List.replicate r [],[]⟩):=HP.out.below HF2.out hb3
  have HR3:Hid (_):=hr
  have Hrb:Hid (∀ k,R k->w.heap.size<=k):=fun k hk=>Nat.le_trans HB2.out.size (hRb k hk)
  have HI3:Hid (LawI F G B w3 b rv l):=HI.out.below HP.out HQ.out HB3.out
  have hbl:b<w3.heap.size:=HI3.out.blk.lt
  have p0:w3.cell? ⟨b,0,none⟩=some rv:=(HI3.out.blk.cell 0).trans rfl
  have hB3:B<=w3.heap.size:=Nat.le_trans hBw HB3.out.size
  have HE:Hid (∀ o o',Blk ((w3.alloc o).alloc o') b #[rv,.bool false] 63):=fun o o'=>(HI3.out.blk.alloc o).alloc o'
  have hne:Hid (rv.ownBlock≠some b):=fun e=>Tagged.ne (HI3.out.rowTag b e) ⟨_,HI3.out.blk⟩ (by decide) rfl
  clear HB2 HF2 hr hb3 hRb q2 q3 HI
  go_wp2_with (first | (go_at_call 108;refine (num_any _ _).mono ?_;rintro e w5 ⟨rfl,rfl⟩) | (at_builtin;refine wpList_append_own _ rfl (.tmp 41) (.tmp 46) 61 rfl B 116 iR (.pointer none) 1 8 Tryz.underlying61 hiR hzR0 hzR1 hzR2 rfl (by decide) rv l.length (pbs l) rfl ((HI3.out.row.alloc _).alloc _) ⟨w5.heap.size+1,0,none⟩ 1 1 [.pointer (some ⟨w5.heap.size,0,none⟩)] rfl rfl ?_ ?_ m1.out m2.out ?_ ?_;(intro j u hj;match j,hj with | 0,hj=>(cases hj;simp[Addr.add]));(intro u hu;simp at hu;subst hu;rfl);(simp;omega);intro v6 w6 ho6 hg6 _;obtain ⟨g6,c6,rfl⟩:=own_some ho6 (Nat.succ_pos _);have k1:w6.cell? ⟨b,0,none⟩=some rv:=hg6.cell (((HE.out _ _).cell 0).trans rfl) (Ne.symm hne.out);have kf:w6.frozen? ⟨b,0,none⟩=false:=Blk.frozen (cs:=#[rv,.bool false]) (t:=63) ((hg6.block _ (HE.out _ _).lt (Ne.symm hne.out)).trans (HE.out _ _)) 0))
  go_ret
  obtain ⟨hL,hBe⟩:=HI3.out.more HP.out HQ.out HN.out hBw HF3.out HR3.out HS2.out Hrb.out ho6 hg6
  exact ⟨rfl,⟨_,_,by simp;omega,hL⟩,(HB3.out.mono hBw).trans hBe⟩
end Go.Proofs.YtfmmllpjgkgeaaaGreatDoor
namespace Go.Proofs.YtfmmllpjgkgeaaaGreatDoor
open Go.RowKit
variable {F G:Stt}

theorem pick_det (c:Int) (n:Nat) (h0:-9223372036854775808<=c) (h1:c<=9223372036854775807) (hn:1<=n) (hn2:n<=9223372036854775807) :
  ∃ j:Nat,j<n/\∀ w:World,Calls Tryz.prog 68 #[.int .i64 c,.int .i64 (n:Int)] w fun r w'=>r=.returned (.int .i64 (j:Int))/\w'=w:=by
 by_cases hc:c<0
 ·have e1:IntKind.i64.wrap (c+1)=c+1:=wrap_in _ (by omega) (by omega)
  have e2:IntKind.i64.wrap (-(c+1)) = -(c+1):=wrap_in _ (by omega) (by omega)
  obtain ⟨d,hd⟩:∃ d:Nat,-(c+1)=(d:Int):=⟨(-(c+1)).toNat,by omega⟩
  have hnz:((n:Int) == 0)=false:=beq_eq_false_iff_ne.2 (by omega)
  have hnz':¬n=0:=by omega
  have e3:(d:Int).tmod (n:Int)=((d % n:Nat):Int):=rfl
  have e4:IntKind.i64.wrap ((d % n:Nat):Int)=((d % n:Nat):Int):=wrap_in _ (by omega) (by have:=Nat.mod_lt d (show n > 0 by omega);omega)
  refine ⟨d % n,Nat.mod_lt _ (by omega),fun w=>?_⟩
  go_enter Tryz.func68,Tryz.ntmps68
  go_wp2
  go_ret
  exact ⟨by first | rfl | (rw[Int.natCast_emod];rfl),rfl⟩
 ·obtain ⟨d,rfl⟩:∃ d:Nat,c=(d:Int):=⟨c.toNat,by omega⟩
  have hnz:((n:Int) == 0)=false:=beq_eq_false_iff_ne.2 (by omega)
  have hnz':¬n=0:=by omega
  have e3:(d:Int).tmod (n:Int)=((d % n:Nat):Int):=rfl
  have e4:IntKind.i64.wrap ((d % n:Nat):Int)=((d % n:Nat):Int):=wrap_in _ (by omega) (by have:=Nat.mod_lt d (show n > 0 by omega);omega)
  refine ⟨d % n,Nat.mod_lt _ (by omega),fun w=>?_⟩
  go_enter Tryz.func68,Tryz.ntmps68
  go_wp2
  go_ret
  exact ⟨by first | rfl | (rw[Int.natCast_emod];rfl),rfl⟩

theorem step_any (hF:Prog4 F) (hR:RefOK G) (hV:RefNew G) (hP:ProgFrame F) (hQ:RefFrame G) (c B:Nat) (w:World) (b:Nat) (o:StepD) (ho:o.ok) (hk4:o.kind<=4) (hcc:c<1099511627776) (hJ:LawJ F G c B w b) :
  Calls Tryz.prog 39 #[.pointer (some ⟨b,0,none⟩),o.val] w fun e w'=>e=.returned (.bool true)/\LawJ F G (c+1) B w' b/\Below B w w':=by
 have hBw:B<=w.heap.size:=by obtain ⟨rv,l,_,hI⟩:=hJ;exact Nat.le_trans hI.bB (Nat.le_of_lt hI.blk.lt)
 have hJb:∀ wx,Below w.heap.size w wx->LawJ F G c B wx b:=fun wx hb=>by obtain ⟨rv,l,hl,hI⟩:=hJ;exact ⟨rv,l,hl,hI.below hP hQ hb⟩
 by_cases hk1:o.kind=1
 ·have HM:Hid (∀ wx,Below w.heap.size w wx->Calls Tryz.prog 67 #[.pointer (some ⟨b,0,none⟩),.agg #[.int .i64 o.kind,.int .i64 o.a,.int .i64 o.n,.int .i64 o.m,.string o.s]] wx fun e w'=>e=.returned (.bool true)/\LawJ F G (c+1) B w' b/\Below B w w'):=fun wx hb=>by
   refine Calls.mono (made_any hF hV hP hQ c B wx b o ho hcc (hJb wx hb)) ?_
   rintro e w' ⟨rfl,h1,h2⟩
   exact ⟨rfl,h1,(hb.mono hBw).trans h2⟩
  unfold StepD.val
  obtain ⟨k,a,n,m,s⟩:=o
  simp only at *
  subst hk1
  clear ho hJ hJb hk4 hF hR hV hP hQ
  go_enter Tryz.func39,Tryz.ntmps39
  go_wp2_with fail
  refine Calls.mono (HM.out _ ((Below.refl _ w).alloc (Nat.le_refl _) _)) ?_
  rintro e w2 ⟨rfl,h1,h2⟩
  have H:Hid (LawJ F G (c+1) B w2 b/\Below B w w2):=⟨h1,h2⟩
  clear HM h1 h2
  go_wp2
  go_ret
  exact ⟨rfl,H.out⟩
 ·obtain ⟨rv,l,hl,hI⟩:=hJ
  by_cases hl0:l.length=0
  ·have hrv:rv=.slice none 0 0\/∃ g cap,rv=.slice (some ⟨g,0,none⟩) 0 cap:=by
    obtain ⟨_,⟨h1,_⟩ | ⟨g,cap,cur,h1,_⟩⟩:=hI.row
    ·exact Or.inl h1
    ·rw[hl0] at h1;exact Or.inr ⟨g,cap,h1⟩
   have HJ:Hid (∀ wx,Below w.heap.size w wx->LawJ F G (c+1) B wx b/\Below B w wx):=fun wx hb=>⟨⟨rv,l,by omega,hI.below hP hQ hb⟩,hb.mono hBw⟩
   have hbl:=hI.blk.lt
   have p0:∀ ob,(w.alloc ob).cell? ⟨b,0,none⟩=some rv:=fun ob=>((hI.blk.alloc ob).cell 0).trans rfl
   unfold StepD.val
   obtain ⟨k,a,n,m,s⟩:=o
   simp only at *
   have kk:(k == 1)=false:=beq_eq_false_iff_ne.2 hk1
   have hb1:Hid (∀ ob,Below w.heap.size w (w.alloc ob)):=fun ob=>(Below.refl _ w).alloc (Nat.le_refl _) ob
   clear ho hJb hk4 hI hF hR hV hP hQ
   rcases hrv with rfl | ⟨g,cap,rfl⟩
   ·go_enter Tryz.func39,Tryz.ntmps39
    go_wp2
    go_ret
    exact ⟨rfl,HJ.out _ (hb1.out _)⟩
   ·go_enter Tryz.func39,Tryz.ntmps39
    go_wp2
    go_ret
    exact ⟨rfl,HJ.out _ (hb1.out _)⟩
  ·obtain ⟨g,cap,rfl⟩:=own_some hI.row (by omega)
   obtain ⟨j,hj,hpick⟩:=pick_det o.a l.length ho.2.1.1 ho.2.1.2 (by omega) (by omega)
   have HPk:Hid (_):=hpick
   have hS4:(∀ i,l[j].S i->4<=i)/\(∀ i,l[j].R i->4<=i):=⟨fun i hi=>Nat.le_trans hI.b4 (hI.foot j hj i (Or.inl hi)),fun i hi=>Nat.le_trans hI.b4 (hI.foot j hj i (Or.inr hi))⟩
   have HT:Hid (∀ wx,Below w.heap.size w wx->(o.kind=3\/o.kind=4)->Calls Tryz.prog 69 #[.pointer (some ⟨l[j].pb,0,none⟩),.agg #[.int .i64 o.kind,.int .i64 o.a,.int .i64 o.n,.int .i64 o.m,.string o.s]] wx fun e w'=>e=.returned (.bool true)/\LawJ F G (c+1) B w' b/\Below B w w'):=fun wx hb hk=>by
    have hIx:=hI.below hP hQ hb
    rcases hk with hk | hk
    ·refine Calls.mono (tells_ask hF hR hP hQ wx hIx.glob _ _ _ _ _ _ (hIx.pair j hj) hS4 o ho hk) ?_
     rintro e w' ⟨rfl,h2⟩
     obtain ⟨h3,h4⟩:=hIx.told hP hQ (show l.length<=c+1 by omega) j hj h2
     exact ⟨rfl,h3,(hb.mono hBw).trans h4⟩
    ·refine Calls.mono (tells_knows hF hR hP hQ wx hIx.glob _ _ _ _ _ _ (hIx.pair j hj) hS4 o ho hk) ?_
     rintro e w' ⟨rfl,h2⟩
     obtain ⟨h3,h4⟩:=hIx.told hP hQ (show l.length<=c+1 by omega) j hj h2
     exact ⟨rfl,h3,(hb.mono hBw).trans h4⟩
   have HU:Hid (∀ wx,Below w.heap.size w wx->(o.kind=2\/o.kind<=0)->Calls Tryz.prog 73 #[.pointer (some ⟨l[j].pb,0,none⟩),.agg #[.int .i64 o.kind,.int .i64 o.a,.int .i64 o.n,.int .i64 o.m,.string o.s]] wx fun e w'=>e=.returned (.bool true)/\LawJ F G (c+1) B w' b/\Below B w w'):=fun wx hb hk=>by
    have hIx:=hI.below hP hQ hb
    rcases hk with hk | hk
    ·refine Calls.mono (turns_do hF hR hP hQ wx hIx.glob _ _ _ _ _ _ (hIx.pair j hj) hS4 o ho hk) ?_
     rintro e w' ⟨rfl,s',h2⟩
     obtain ⟨h3,h4⟩:=hIx.told hP hQ (show l.length<=c+1 by omega) j hj h2
     exact ⟨rfl,h3,(hb.mono hBw).trans h4⟩
    ·refine Calls.mono (turns_idle wx _ o hk) ?_
     rintro e w' ⟨rfl,h2⟩
     have hb2:=hb.trans (h2.mono hb.size)
     exact ⟨rfl,⟨_,_,by omega,hI.below hP hQ hb2⟩,hb2.mono hBw⟩
   have Hp0:Hid (∀ ob,(w.alloc ob).cell? ⟨b,0,none⟩=some (.slice (some ⟨g,0,none⟩) l.length cap)):=fun ob=>((hI.blk.alloc ob).cell 0).trans rfl
   have Hg:Hid (∀ ob,(w.alloc ob).cell? ⟨g,j,none⟩=some (.pointer (some ⟨l[j].pb,0,none⟩))):=fun ob=>by
    have h2:=(hI.row.alloc ob).cellAt j (by omega)
    rw[h2];simp[pbs,hj]
   have hbl:=hI.blk.lt
   have hlm:l.length<=1099511627776:=by omega
   have hb1:Hid (∀ ob,Below w.heap.size w (w.alloc ob).drew):=fun ob=>((Below.refl _ w).alloc (Nat.le_refl _) ob).drew
   unfold StepD.val
   obtain ⟨k,a,n,m,s⟩:=o
   simp only at *
   clear ho hJb hI hS4 hpick hF hR hV hP hQ
   have kk:(k == 1)=false:=beq_eq_false_iff_ne.2 hk1
   have p0:=Hp0.out (.cells #[.int .i64 k,.int .i64 a,.int .i64 n,.int .i64 m,.string s] 65)
   have pg:=Hg.out (.cells #[.int .i64 k,.int .i64 a,.int .i64 n,.int .i64 m,.string s] 65)
   have hbz:=hb1.out (.cells #[.int .i64 k,.int .i64 a,.int .i64 n,.int .i64 m,.string s] 65)
   have kb:Blk (w.alloc (.cells #[.int .i64 k,.int .i64 a,.int .i64 n,.int .i64 m,.string s] 65)) w.heap.size #[.int .i64 k,.int .i64 a,.int .i64 n,.int .i64 m,.string s] 65:=Blk.new w _ _
   have s0:=(kb.cell 0).trans rfl
   have s1:=(kb.cell 1).trans rfl
   have s2:=(kb.cell 2).trans rfl
   have s3:=(kb.cell 3).trans rfl
   have s4:=(kb.cell 4).trans rfl
   clear kb Hp0 Hg hb1
   generalize l[j].pb=pb at *
   go_enter Tryz.func39,Tryz.ntmps39
   go_wp2_with fail
   generalize w.alloc (.cells #[.int .i64 k,.int .i64 a,.int .i64 n,.int .i64 m,.string s] 65)=w2 at *
   have hsm:Hid (∀ e:Nat,e<l.length->(e:Int)<(l.length:Int)):=fun e he=>by omega
   go_region_held3 (fun w'=>w'=w2.drew/\w'.cell? ⟨b,0,none⟩=some (.slice (some ⟨g,0,none⟩) l.length cap)/\w'.cell? ⟨g,j,none⟩=some (.pointer (some ⟨pb,0,none⟩))/\w'.cell? ⟨w.heap.size,1,none⟩=some (.int .i64 a)) ((refine ⟨?_, ?_, ?_, ?_⟩ <;> (first | rfl | assumption))) (first | (go_at_call 68;refine Calls.mono (HPk.out _) ?_;rintro e w3 ⟨rfl,rfl⟩))
   clear HPk
   have hcs:k=3\/k=4\/k=2\/k<=0:=by omega
   rcases hcs with rfl | rfl | rfl | hk0
   ·go_wp2_with fail
    refine Calls.mono (HT.out _ hbz (by simp)) ?_
    rintro e w3 ⟨rfl,h1,h2⟩
    have H:Hid (LawJ F G (c+1) B w3 b/\Below B w w3):=⟨h1,h2⟩
    clear HT HU h1 h2
    go_wp2_with fail
    go_ret
    exact ⟨rfl,H.out⟩
   ·go_wp2_with fail
    refine Calls.mono (HT.out _ hbz (by simp)) ?_
    rintro e w3 ⟨rfl,h1,h2⟩
    have H:Hid (LawJ F G (c+1) B w3 b/\Below B w w3):=⟨h1,h2⟩
    clear HT HU h1 h2
    go_wp2_with fail
    go_ret
    exact ⟨rfl,H.out⟩
   ·go_wp2_with fail
    refine Calls.mono (HU.out _ hbz (by simp)) ?_
    rintro e w3 ⟨rfl,h1,h2⟩
    have H:Hid (LawJ F G (c+1) B w3 b/\Below B w w3):=⟨h1,h2⟩
    clear HT HU h1 h2
    go_wp2_with fail
    go_ret
    exact ⟨rfl,H.out⟩
   ·have k3:(k == 3)=false:=beq_eq_false_iff_ne.2 (by omega)
    have k4:(k == 4)=false:=beq_eq_false_iff_ne.2 (by omega)
    have k9:(k == 9)=false:=beq_eq_false_iff_ne.2 (by omega)
    have k6:(k == 6)=false:=beq_eq_false_iff_ne.2 (by omega)
    have k5:(k == 5)=false:=beq_eq_false_iff_ne.2 (by omega)
    have k7:(k == 7)=false:=beq_eq_false_iff_ne.2 (by omega)
    have k8:(k == 8)=false:=beq_eq_false_iff_ne.2 (by omega)
    have n3:¬k=3:=by omega
    have n4:¬k=4:=by omega
    have n9:¬k=9:=by omega
    have n6:¬k=6:=by omega
    have n5:¬k=5:=by omega
    have n7:¬k=7:=by omega
    have n8:¬k=8:=by omega
    go_wp2_with fail
    refine Calls.mono (HU.out _ hbz (Or.inr hk0)) ?_
    rintro e w3 ⟨rfl,h1,h2⟩
    have H:Hid (LawJ F G (c+1) B w3 b/\Below B w w3):=⟨h1,h2⟩
    clear HT HU h1 h2
    go_wp2_with fail
    go_ret
    exact ⟨rfl,H.out⟩

theorem law_ok (hF:Prog4 F) (hR:RefOK G) (hV:RefNew G) (hP:ProgFrame F) (hQ:RefFrame G):LawOK 4 (LawJ F G):={
 heads:=fun w hG=>heads0_any hF w hG
 start:=fun w hG=>⟨.slice none 0 0,[],Nat.le_refl _,hG.mono ((Below.refl _ w).alloc (Nat.le_refl _) _),hG.size,Nat.le_refl _,Blk.new w _ _,World.ownsRow_nil _ _ _ _,fun j h=>absurd h (by simp),fun j h=>absurd h (by simp),fun i j h=>absurd h (by simp)⟩
 step:=fun c B w b o ho hk hc hJ=>step_any hF hR hV hP hQ c B w b o ho hk hc hJ }
end Go.Proofs.YtfmmllpjgkgeaaaGreatDoor

