import Derived.WalkSmall
import Derived.Lib.LaidTab
import Derived.Lib.ItoaNum
import Derived.Lib.ItoaLen
import Derived.Test.YtfmmllpjgkgeaaaGreatDoorPartV01
set_option linter.unusedVariables false
set_option linter.unusedSimpArgs false
set_option maxHeartbeats 16000000
set_option maxRecDepth 100000
namespace Go.Proofs.YtfmmllpjgkgeaaaGreatDoor
open Go.RowKit

theorem SliceIn.form {B:Nat} {w:World} {v:Value} {xs:List Value} (h:SliceIn B w v xs):∃ ao cap,v=.slice ao xs.length cap/\xs.length<=cap/\(0<xs.length->∃ b off,ao=some ⟨b,off,none⟩/\b<B/\∀ j (h:j<xs.length),w.cell? ⟨b,off+j,none⟩=some xs[j]):=by
 rcases h with ⟨rfl,rfl⟩ | ⟨b,off,cap,h1,h2,h3,h4⟩
 ·exact ⟨none,0,rfl,Nat.le_refl _,fun h=>by simp at h⟩
 ·exact ⟨some ⟨b,off,none⟩,cap,h1,h2,fun _=>⟨b,off,rfl,h3,h4⟩⟩

structure TSt where
 l:List Thk.Bs
 sum:Int
 some:Bool
def tstep (k:UInt8) (path:Thk.Bs) (st:TSt) (e:Ev):TSt :=
 if ((k.toNat:Int) == 109) && Thk.begins (toL e.p) path && !(toL e.p == path) then ⟨withL st.l ((Thk.split 47 ((toL e.p).drop (path.length+1))).headD []),st.sum,st.some⟩
 else if toL e.p == path then ⟨withL st.l (toL e.v),st.sum+e.n,true⟩ else st
def tellB (k:UInt8) (st:TSt):Thk.Bs :=
 if (k.toNat:Int)=102 then (if st.some then [49] else [48]) else if (k.toNat:Int)=99 then Thk.digits st.sum else Thk.joinTo st.l st.l.length
def tellR (es:List Ev) (al:List Nat) (path:Thk.Bs):Thk.Bs :=
 tellB (Thk.kindOf path) (al.foldl (fun st j=>match es[j]? with | some e=>tstep (Thk.kindOf path) path st e | none=>st) ⟨[],0,false⟩)

def tfold (es:List Ev) (k:UInt8) (path:Thk.Bs) (al:List Nat):TSt:=al.foldl (fun st j=>match es[j]? with | some e=>tstep k path st e | none=>st) ⟨[],0,false⟩
theorem tfold_succ (es:List Ev) (k:UInt8) (path:Thk.Bs) (al:List Nat) (i:Nat) (h:i<al.length) (e:Ev) (he:es[al[i]]? = some e) :
  tfold es k path (al.take (i+1))=tstep k path (tfold es k path (al.take i)) e:=by
 unfold tfold;rw[fold_take _ _ _ i h,he]

structure EvOk (e:Ev):Prop where
 p:e.p.size<=20
 v:e.v.size<=20
 n1:e.n<=1000000000
 n2:-1000000000<=e.n
 s:e.saw.length<=1000

structure TInv (B:Nat) (w:World) (es:List Ev) (k:UInt8) (path:Thk.Bs) (al:List Nat) (i:Nat) (lv:Value) (sum:Int) (sm:Bool) (wr:World):Prop where
 below:Below B w wr
 own:∃ ss:List ByteArray,SliceIn wr.heap.size wr lv (strs ss)/\ss.map toL=(tfold es k path (al.take i)).l/\ss.length<=i/\∀ s∈ss,s.size<=1000
 hsum:sum=(tfold es k path (al.take i)).sum
 b1:sum<=1000000000*i
 b2:-(1000000000*i)<=sum
 hsome:sm=(tfold es k path (al.take i)).some

theorem TInv.next {w wr w':World} {es:List Ev} {k:UInt8} {path:Thk.Bs} {al:List Nat} {i:Nat} {lv:Value} {sum:Int} {sm:Bool} (h:TInv w.heap.size w es k path al i lv sum sm wr)
  (hf:tfold es k path (al.take (i+1))=tfold es k path (al.take i)) (hb:Below w.heap.size w w') (hb2:Below wr.heap.size wr w'):TInv w.heap.size w es k path al (i+1) lv sum sm w':=by
 obtain ⟨ss,h1,h2,h3,h4⟩:=h.own
 have a:=h.b1
 have b:=h.b2
 exact ⟨hb,⟨ss,(h1.below hb2).mono hb2.size,by rw[hf];exact h2,by omega,h4⟩,by rw[hf];exact h.hsum,by omega,by omega,by rw[hf];exact h.hsome⟩

theorem Tell_any (B:Nat) (evv:Value) (es:List Ev) (av:Value) (al:List Nat) (path:ByteArray) (w:World) (hB:B<=w.heap.size) (hn:es.length<=1000)
  (hev:EvsIn B w evv es) (hav:SliceIn w.heap.size w av (nats al)) (hal:∀ j∈al,j<es.length) (hall:al.length<=1000) (hz:∀ e∈es,EvOk e) (hps:path.size<=1048576) (hp:Thk.path (toL path)=true) :
  Calls Tryz.prog 174 #[evv,av,.string path] w fun e w'=>∃ t,e=.returned (.string t)/\toL t=tellR es al (toL path)/\Below w.heap.size w w':=by
 have Hev:Hid (0<es.length->∃ b off cap,evv=.slice (some ⟨b,off,none⟩) es.length cap/\es.length<=cap/\∀ wr,Below w.heap.size w wr->∀ j (h:j<es.length),∃ so sn sc,
   wr.cell? ⟨b,off+j*5,none⟩=some (.string es[j].p)/\wr.cell? ⟨b,off+j*5+1,none⟩=some (.int .u8 (es[j].a.toNat:Int))/\wr.cell? ⟨b,off+j*5+2,none⟩=some (.string es[j].v) /\
   wr.cell? ⟨b,off+j*5+3,none⟩=some (.int .i64 es[j].n)/\wr.cell? ⟨b,off+j*5+4,none⟩=some (.slice so sn sc)):=by
  intro hpos
  rcases hev with ⟨_,h2⟩ | ⟨b,off,cap,h1,h2,h3,h4⟩
  ·rw[h2] at hpos;simp at hpos
  ·refine ⟨b,off,cap,h1,h2,fun wr hbw j h=>?_⟩
   obtain ⟨sv,c0,c1,c2,c3,c4,c5⟩:=h4 j h
   have hb':=hbw.mono hB
   obtain ⟨so,sc,rfl,_,_⟩:=c5.form
   exact ⟨so,_,sc,(hb'.cell (p:=⟨b,_,none⟩) h3).trans c0,(hb'.cell (p:=⟨b,_,none⟩) h3).trans c1,(hb'.cell (p:=⟨b,_,none⟩) h3).trans c2,(hb'.cell (p:=⟨b,_,none⟩) h3).trans c3,(hb'.cell (p:=⟨b,_,none⟩) h3).trans c4⟩
 have Hz:Hid (_):=hz
 have Hp:Hid (_):=hp
 have Hal:Hid (_):=hal
 obtain ⟨ao,ac,rfl,hac,hcells⟩:=hav.form
 have hlen:(nats al).length=al.length:=by simp[nats]
 rw[hlen] at hac ⊢
 have Hc:Hid (0<al.length->∃ b off,ao=some ⟨b,off,none⟩/\∀ (wr:World),Below w.heap.size w wr->∀ j (h:j<al.length),wr.cell? ⟨b,off+j,none⟩=some (.int .i64 (al[j]:Int))):=by
  intro hpos
  obtain ⟨b,off,h1,h2,h3⟩:=hcells (by omega)
  refine ⟨b,off,h1,fun wr hbw j h=>?_⟩
  rw[hbw.cell (p:=⟨b,off+j,none⟩) h2,h3 j (by omega)];simp[nats]
 clear hev hz hp hal hav hcells hlen
 go_enter Tryz.func174,Tryz.ntmps174
 go_wp2_with fail
 refine (kind_any path _ hps Hp.out).mono ?_
 rintro e w1 ⟨rfl,hb1⟩
 have hTell:Hid (tellR es al (toL path)=tellB (Thk.kindOf (toL path)) (tfold es (Thk.kindOf (toL path)) (toL path) al)):=rfl
 generalize Thk.kindOf (toL path)=kd at *
 go_wp2
 go_loopw [7,8,9,11] (fun l s m i wr=>∃ (k:Nat) (sm:Int) (x:Bool),k<=al.length/\i=.int .i64 k/\s=.int .i64 sm/\m=.bool x/\TInv w.heap.size w es kd (toL path) al k l sm x wr) (fun _ _ _ i _=>al.length-(intOf i).toNat)
 case atStart=>exact ⟨0,0,false,by omega,rfl,rfl,rfl,hb1,⟨[],Or.inl ⟨rfl,rfl⟩,rfl,by simp,by simp⟩,rfl,by simp,by simp,rfl⟩
 case round =>
  obtain ⟨k,sm,x,hk,rfl,rfl,rfl,hI⟩:=hrel
  have HI:Hid (_):=hI
  clear hI
  by_cases hlt:k<al.length
  ·obtain ⟨ab,aoff,rfl,Hca⟩:=Hc.out (by omega)
   have hca:=Hca _ HI.out.below k hlt
   have hj:al[k]<es.length:=Hal.out _ (List.getElem_mem hlt)
   obtain ⟨b,off,cap,rfl,hcap,Hcc⟩:=Hev.out (by omega)
   obtain ⟨so,sn,sc,c0,c1,c2,c3,c4⟩:=Hcc _ HI.out.below al[k] hj
   have hok:=Hz.out _ (List.getElem_mem hj)
   have hstep:Hid (_):=tfold_succ es kd (toL path) al k hlt _ (List.getElem?_eq_getElem hj)
   clear Hca Hcc
   generalize al[k]=j at *
   generalize es[j]=ej at *
   go_wp2_with fail
   refine (begins_any _ _ _ (by have:=hok.p;omega) hps).mono ?_
   rintro e w2 ⟨rfl,rfl⟩
   have hbw:=HI.out.below.alloc HI.out.below.size (.cells #[.string ej.p,.int .u8 (ej.a.toNat:Int),.string ej.v,.int .i64 ej.n,.slice so sn sc] 239)
   have HbL:Hid (Below w.heap.size w (wr.alloc (.cells #[.string ej.p,.int .u8 (ej.a.toNat:Int),.string ej.v,.int .i64 ej.n,.slice so sn sc] 239))):=hbw
   clear hbw c0 c1 c2 c3 c4 hca
   have hpsz:=hok.p
   have hvsz:=hok.v
   have hn1:=hok.n1
   have hn2:=hok.n2
   have hb1':=HI.out.b1
   have hb2':=HI.out.b2
   cases q3:(ej.p.toList == path.toList)
   ·cases q1:((kd.toNat:Int) == 109)
    ·have Hst:Hid (tfold es kd (toL path) (al.take (k+1))=tfold es kd (toL path) (al.take k)):=by
      unfold Hid;rw[hstep.out];unfold tstep;rw[q1,if_neg (by simp),if_neg (by rw[toList_eq,toList_eq] at q3;rw[show (toL ej.p == toL path)=false from q3];simp)]
     generalize Thk.begins ej.p.data.toList path.data.toList=bg
     go_wp2
     go_roundw
     case rel=>exact ⟨k+1,sm,x,by omega,by go_num,rfl,rfl,HI.out.next Hst.out HbL.out (Below.refl _ _ |>.alloc (Nat.le_refl _) _)⟩
     case measure=>simp[intOf];omega
    ·cases q2:Thk.begins ej.p.data.toList path.data.toList
     ·have Hst:Hid (tfold es kd (toL path) (al.take (k+1))=tfold es kd (toL path) (al.take k)):=by
       unfold Hid;rw[hstep.out];unfold tstep;rw[q1,show Thk.begins (toL ej.p) (toL path)=false from q2,if_neg (by simp),if_neg (by rw[toList_eq,toList_eq] at q3;rw[show (toL ej.p == toL path)=false from q3];simp)]
      go_wp2
      go_roundw
      case rel=>exact ⟨k+1,sm,x,by omega,by go_num,rfl,rfl,HI.out.next Hst.out HbL.out (Below.refl _ _ |>.alloc (Nat.le_refl _) _)⟩
      case measure=>simp[intOf];omega
     ·have hlt2:path.size<ej.p.size:=by
       rw[toList_eq,toList_eq] at q3
       unfold Thk.begins at q2;rw[q3] at q2
       simp only[Bool.false_or,Bool.and_eq_true,decide_eq_true_eq] at q2
       have:=q2.1.1;simpa using this
      have Hst:Hid (tfold es kd (toL path) (al.take (k+1))=⟨withL (tfold es kd (toL path) (al.take k)).l ((Thk.split 47 ((toL ej.p).drop (path.size+1))).headD []),(tfold es kd (toL path) (al.take k)).sum,(tfold es kd (toL path) (al.take k)).some⟩):=by
       unfold Hid;rw[hstep.out];unfold tstep;rw[q1,show Thk.begins (toL ej.p) (toL path)=true from q2,if_pos (by rw[toList_eq,toList_eq] at q3;rw[show (toL ej.p == toL path)=false from q3];rfl),toL_length]
      obtain ⟨ss,hs1,hs2,hs3,hs4⟩:=HI.out.own
      have Hs1:Hid (SliceIn wr.heap.size wr u7 (strs ss)):=hs1
      have Hs2:Hid (_):=hs2
      have Hs4:Hid (_):=hs4
      clear hs1 hs2 hs4 hstep hok
      have Hwr:Hid (Below wr.heap.size wr (wr.alloc (.cells #[.string ej.p,.int .u8 (ej.a.toNat:Int),.string ej.v,.int .i64 ej.n,.slice so sn sc] 239))):=(Below.refl _ _).alloc (Nat.le_refl _) _
      go_wp2_with fail
      refine (split_any _ 47 _ (by simp[ByteArray.size_extract];omega)).mono ?_
      rintro e w3 ⟨v3,ps,rfl,hown3,hps3,hpl3,hpz3,hb3⟩
      have Hb4:Hid (Below wr.heap.size wr w3):=Hwr.out.trans (hb3.mono (by simp))
      have Hps3:Hid (_):=hps3
      have hne:ps≠[]:=by
       intro h;rw[h] at hps3;exact Thk.split_ne_nil _ _ hps3.symm
      have hpos:0<ps.length:=List.length_pos_iff.2 hne
      have hzz:Hid (∀ p∈ps,p.size<=1000):=fun p hp=>by have:=hpz3 p hp;simp[ByteArray.size_extract] at this;omega
      rcases own_cells hown3 with ⟨rfl,h2,h3⟩ | ⟨g,cp,rfl,hcp,hcm,hg,hgs,hxl,hcells⟩
      ·omega
      ·have hc0:=hcells 0 (by simpa[strs] using hpos)
       have he0:(strs ps)[0]'(by simpa[strs] using hpos)=.string (ps[0]'hpos):=by simp[strs]
       rw[he0] at hc0
       have hq0:=hzz.out _ (List.getElem_mem hpos)
       have Hh:Hid ((Thk.split 47 ((toL ej.p).drop (path.size+1))).headD []=toL (ps[0]'hpos)):=by
        have e1:toL (ej.p.extract (path.size+1) ej.p.size)=(toL ej.p).drop (path.size+1):=by rw[toL_extract,<- toL_length ej.p,List.take_length]
        unfold Hid;rw[<- e1,<- Hps3.out]
        cases ps with
        | nil=>exact absurd rfl hne
        | cons a r=>rfl
       generalize ps[0]'hpos=q0 at *
       clear hcells he0 hown3 hps3 hpz3 hne hxl hb3
       go_wp2_with fail
       refine (with_any wr.heap.size _ ss q0 _ (by omega) (Hs1.out.below Hb4.out) Hb4.out.size).mono ?_
       rintro e w5 ⟨v5,ss5,rfl,hown5,hm5,hmem5,hl5,hb5⟩
       have hB5:Below w.heap.size w w5:=(HI.out.below.trans (Hb4.out.mono HI.out.below.size)).trans (hb5.mono (Nat.le_trans HI.out.below.size Hb4.out.size))
       go_wp2
       go_roundw
       case rel =>
        refine ⟨k+1,sm,x,by omega,by go_num,rfl,rfl,hB5,⟨ss5,own_slice hown5, ?_,by omega, ?_⟩, ?_,by omega,by omega, ?_⟩
        ·rw[Hst.out,hm5,Hs2.out,Hh.out]
        ·intro s hs
         rcases hmem5 s hs with h | h
         ·exact Hs4.out s h
         ·rw[h];exact hq0
        ·rw[Hst.out];exact HI.out.hsum
        ·rw[Hst.out];exact HI.out.hsome
       case measure=>simp[intOf];omega
   ·have hne3:((kd.toNat:Int) == 109 && Thk.begins ej.p.data.toList path.data.toList && !(ej.p.toList == path.toList))=false:=by rw[q3];simp
    have Hst:Hid (tfold es kd (toL path) (al.take (k+1))=⟨withL (tfold es kd (toL path) (al.take k)).l (toL ej.v),(tfold es kd (toL path) (al.take k)).sum+ej.n,true⟩):=by
     rw[toList_eq,toList_eq] at q3
     unfold Hid;rw[hstep.out];unfold tstep;rw[show (toL ej.p == toL path)=true from q3,if_neg (by simp),if_pos rfl]
    obtain ⟨ss,hs1,hs2,hs3,hs4⟩:=HI.out.own
    have Hs1:Hid (SliceIn wr.heap.size wr u7 (strs ss)):=hs1
    have Hs2:Hid (_):=hs2
    have Hs4:Hid (_):=hs4
    clear hs1 hs2 hs4 hstep hok hne3
    have Hwr:Hid (Below wr.heap.size wr (wr.alloc (.cells #[.string ej.p,.int .u8 (ej.a.toNat:Int),.string ej.v,.int .i64 ej.n,.slice so sn sc] 239))):=(Below.refl _ _).alloc (Nat.le_refl _) _
    generalize Thk.begins ej.p.data.toList path.data.toList=bg
    cases bg <;> cases q1:((kd.toNat:Int) == 109)
    all_goals
     go_wp2_with fail
     refine (with_any wr.heap.size _ ss ej.v _ (by omega) (Hs1.out.below Hwr.out) Hwr.out.size).mono ?_
     rintro e w5 ⟨v5,ss5,rfl,hown5,hm5,hmem5,hl5,hb5⟩
     have hB5:Below w.heap.size w w5:=HbL.out.trans (hb5.mono (Nat.le_trans HI.out.below.size Hwr.out.size))
     have hI5:TInv w.heap.size w es kd (toL path) al (k+1) v5 (sm+ej.n) true w5:=by
      refine ⟨hB5,⟨ss5,own_slice hown5, ?_,by omega, ?_⟩, ?_,by omega,by omega, ?_⟩
      ·rw[Hst.out,hm5,Hs2.out]
      ·intro s hs
       rcases hmem5 s hs with h | h
       ·exact Hs4.out s h
       ·rw[h];omega
      ·rw[Hst.out,HI.out.hsum]
      ·rw[Hst.out]
     have HI5:Hid (_):=hI5
     clear hown5 hm5 hmem5 hb5 hI5 hB5
     go_wp2
     go_roundw
     case rel=>first | exact ⟨k+1,sm+ej.n,true,by omega,by go_num,rfl,rfl,HI5.out⟩ | ((repeat apply Exists.intro);exact ⟨⟨k+1,sm+ej.n,true,by omega,by go_num,rfl,rfl,HI5.out⟩,rfl⟩)
     case measure=>simp[intOf];omega
  ·have hke:k=al.length:=by omega
   subst hke
   have Hst:Hid ((tfold es kd (toL path) (al.take al.length))=tfold es kd (toL path) al):=by unfold Hid;rw[List.take_length]
   by_cases h102:(kd.toNat:Int)=102
   ·have hd:((kd.toNat:Int) == 102)=true:=by rw[h102];(first | done | rfl)
    cases x
    all_goals
     go_wp2
     go_ret
     refine ⟨_,rfl, ?_,HI.out.below⟩
     rw[hTell.out];unfold tellB;rw[if_pos h102,<- Hst.out,<- HI.out.hsome];(first | done | rfl)
   ·have hd:((kd.toNat:Int) == 102)=false:=by simpa using h102
    by_cases h99:(kd.toNat:Int)=99
    ·have hd2:((kd.toNat:Int) == 99)=true:=by rw[h99];(first | done | rfl)
     go_wp2_with fail
     refine (digits_any sm _ (by have:=HI.out.b1;have:=HI.out.b2;omega)).mono ?_
     rintro e w3 ⟨t,rfl,ht,hts,hb3⟩
     go_wp2
     go_ret
     refine ⟨t,rfl, ?_,HI.out.below.trans (hb3.mono HI.out.below.size)⟩
     rw[hTell.out,ht];unfold tellB;rw[if_neg h102,if_pos h99,<- Hst.out,<- HI.out.hsum]
    ·have hd2:((kd.toNat:Int) == 99)=false:=by simpa using h99
     obtain ⟨ss,hs1,hs2,hs3,hs4⟩:=HI.out.own
     have Hs1:Hid (SliceIn wr.heap.size wr u7 (strs ss)):=hs1
     have Hs2:Hid (_):=hs2
     have Hs4:Hid (_):=hs4
     clear hs1 hs2 hs4
     go_wp2_with fail
     refine (joined_any _ _ ss _ (by omega) Hs4.out Hs1.out).mono ?_
     rintro e w3 ⟨t,rfl,ht,hts,rfl⟩
     go_wp2
     go_ret
     refine ⟨t,rfl, ?_,HI.out.below⟩
     rw[hTell.out,ht];unfold tellB;rw[if_neg h102,if_neg h99,<- Hst.out,<- Hs2.out];simp


structure Chg (M:Nat->Prop) (w w':World):Prop where
 os:w'.os=w.os
 tape:w'.tape=w.tape
 output:w'.output=w.output
 size:w.heap.size<=w'.heap.size
 block:∀ k,k<w.heap.size->¬M k->w'.heap[k]? = w.heap[k]?

theorem Chg.refl (M:Nat->Prop) (w:World):Chg M w w:=⟨rfl,rfl,rfl,Nat.le_refl _,fun _ _ _=>rfl⟩
theorem Chg.trans {M:Nat->Prop} {a b c:World} (h:Chg M a b) (k:Chg M b c):Chg M a c :=
 ⟨k.os.trans h.os,k.tape.trans h.tape,k.output.trans h.output,Nat.le_trans h.size k.size,fun i hi hm=>(k.block i (Nat.lt_of_lt_of_le hi h.size) hm).trans (h.block i hi hm)⟩
theorem Chg.mono {M N:Nat->Prop} {a b:World} (h:Chg M a b) (hN:∀ k,k<a.heap.size->M k->N k):Chg N a b:=⟨h.os,h.tape,h.output,h.size,fun k hk hn=>h.block k hk fun hm=>hn (hN k hk hm)⟩
theorem Chg.of_below {M:Nat->Prop} {a b:World} (h:Below a.heap.size a b):Chg M a b:=⟨h.os,h.tape,h.output,h.size,fun k hk _=>h.block k hk⟩
theorem Chg.setCell {M:Nat->Prop} {a w:World} (h:Chg M a w) {p:Addr} (hp:M p.block) (u:Value):Chg M a (w.setCell p u) :=
 ⟨h.os,h.tape,h.output,by simpa[World.setCell] using h.size,fun k hk hm=>(Below.heap_setCell w p u k (fun e=>hm (by rw[e];exact hp))).trans (h.block k hk hm)⟩
theorem Chg.below {M:Nat->Prop} {a b c:World} (h:Chg M a b) (hb:Below b.heap.size b c):Chg M a c:=h.trans (Chg.of_below hb)
theorem Chg.grown {M:Nat->Prop} {a b c:World} {row:Option Nat} (h:Chg M a b) (hg:b.grownBy c row) (hr:∀ k,row=some k->M k\/a.heap.size<=k):Chg M a c :=
 ⟨hg.os.trans h.os,hg.tape.trans h.tape,hg.output.trans h.output,Nat.le_trans h.size hg.size,fun k hk hm=>(hg.block k (Nat.lt_of_lt_of_le hk h.size) (fun e=>by rcases hr k e.symm with h1 | h1;exact hm h1;omega)).trans (h.block k hk hm)⟩

def Tagged (w:World) (b:Nat) (t:TypeId):Prop:=∃ cur,w.heap[b]? = some (.cells cur t (0,0))
theorem Tagged.lt {w:World} {b:Nat} {t:TypeId} (h:Tagged w b t):b<w.heap.size:=by
 obtain ⟨cur,h⟩:=h
 rcases Nat.lt_or_ge b w.heap.size with h1 | h1
 ·exact h1
 ·rw[Array.getElem?_eq_none h1] at h;cases h
theorem Tagged.ne {w:World} {b c:Nat} {s t:TypeId} (h:Tagged w b s) (k:Tagged w c t) (hst:s≠t):b≠c:=by
 rintro rfl
 obtain ⟨x,h⟩:=h;obtain ⟨y,k⟩:=k
 rw[h] at k;cases k;exact hst rfl
theorem Tagged.chg {M:Nat->Prop} {w w':World} {b:Nat} {t:TypeId} (h:Tagged w b t) (hc:Chg M w w') (hm:¬M b):Tagged w' b t:=by
 obtain ⟨x,hx⟩:=h;exact ⟨x,(hc.block b (Tagged.lt ⟨x,hx⟩) hm).trans hx⟩
theorem Tagged.frozen {w:World} {b:Nat} {t:TypeId} (h:Tagged w b t) (j:Nat):w.frozen? ⟨b,j,none⟩=false:=by
 obtain ⟨x,hx⟩:=h;simp[World.frozen?,hx]
theorem Tagged.setCell {w:World} {b:Nat} {t:TypeId} (h:Tagged w b t) (p:Addr) (u:Value):Tagged (w.setCell p u) b t:=by
 obtain ⟨x,hx⟩:=h
 by_cases e:b=p.block
 ·subst e;simp only[Tagged,World.setCell,Array.getElem?_modify,hx];simp
 ·exact ⟨x,by rw[Below.heap_setCell _ _ _ _ e];exact hx⟩
theorem Tagged.below {w w':World} {b:Nat} {t:TypeId} (h:Tagged w b t) (hb:Below w.heap.size w w'):Tagged w' b t:=by
 obtain ⟨x,hx⟩:=h;exact ⟨x,(hb.block b (Tagged.lt ⟨x,hx⟩)).trans hx⟩

def SliceT (t:TypeId) (w:World) (v:Value) (xs:List Value):Prop :=
 (v=.slice none 0 0/\xs=[]) \/
  ∃ b off cap,v=.slice (some ⟨b,off,none⟩) xs.length cap/\xs.length<=cap/\Tagged w b t/\∀ j (h:j<xs.length),w.cell? ⟨b,off+j,none⟩=some xs[j]
theorem SliceT.toIn {t:TypeId} {w:World} {v:Value} {xs:List Value} (h:SliceT t w v xs):SliceIn w.heap.size w v xs:=by
 rcases h with h | ⟨b,off,cap,h1,h2,h3,h4⟩
 ·exact Or.inl h
 ·exact Or.inr ⟨b,off,cap,h1,h2,h3.lt,h4⟩
theorem SliceT.chg {M:Nat->Prop} {t:TypeId} {w w':World} {v:Value} {xs:List Value} (h:SliceT t w v xs) (hc:Chg M w w') (hm:∀ b,Tagged w b t->¬M b):SliceT t w' v xs:=by
 rcases h with h | ⟨b,off,cap,h1,h2,h3,h4⟩
 ·exact Or.inl h
 ·exact Or.inr ⟨b,off,cap,h1,h2,h3.chg hc (hm b h3),fun j hj=>(World.cell?_of_block (w:=w) (hc.block b h3.lt (hm b h3))).trans (h4 j hj)⟩
theorem SliceT.shape {t:TypeId} {w:World} {v:Value} {xs:List Value} (h:SliceT t w v xs):∃ ao cap,v=.slice ao xs.length cap/\xs.length<=cap:=by
 rcases h with ⟨rfl,rfl⟩ | ⟨b,off,cap,h1,h2,h3,h4⟩
 ·exact ⟨none,0,rfl,Nat.le_refl _⟩
 ·exact ⟨_,cap,h1,h2⟩
theorem own_sliceT {w:World} {B:Nat} {e:TypeId} {v:Value} {n:Nat} {xs:List Value} (h:w.ownsRow B e 1 v n xs):SliceT e w v xs:=by
 have h0:=h
 obtain ⟨hl,h | ⟨g,cap,cur,rfl,hg,hh,hc,hm,hs,hx⟩⟩:=h
 ·exact Or.inl ⟨h.1,List.eq_nil_of_length_eq_zero (by rw[hl,h.2])⟩
 ·refine Or.inr ⟨g,0,cap,by rw[hl,Nat.mul_one],by omega,⟨cur,hh⟩,fun j hj=>?_⟩
  rw[Nat.zero_add,h0.cellAt j (by omega),List.getElem?_eq_getElem hj]

theorem cs_same {w:World} {b o:Nat} {v u:Value} (h:w.cell? ⟨b,o,none⟩=some u):(w.setCell ⟨b,o,none⟩ v).cell? ⟨b,o,none⟩=some v:=by
 apply World.cell?_setCell_same';rw[h];(first | done | rfl)
theorem cs_oth {w:World} {b o b' o':Nat} {v:Value} (h:b≠b'\/o≠o'):(w.setCell ⟨b,o,none⟩ v).cell? ⟨b',o',none⟩=w.cell? ⟨b',o',none⟩:=by
 apply World.cell?_setCell_other;intro e;cases e;rcases h with h | h <;> exact h rfl
theorem ownsRow_chg {M:Nat->Prop} {w w':World} {B:Nat} {e:TypeId} {v:Value} {n size:Nat} {xs:List Value} (h:w.ownsRow B e size v n xs) (hc:Chg M w w') (hm:∀ g,v.ownBlock=some g->¬M g):w'.ownsRow B e size v n xs:=by
 have h0:=h
 obtain ⟨hx,h1 | ⟨g,cap,cur,rfl,hg,hh,r⟩⟩:=h
 ·exact ⟨hx,Or.inl h1⟩
 ·exact ⟨hx,Or.inr ⟨g,cap,cur,rfl,hg,(hc.block g (h0.lt g rfl).2 (hm g rfl)).trans hh,r⟩⟩

def evCells (es:List Ev) (svs:List Value):List Value:=(es.zip svs).flatMap fun (e,sv)=>[.string e.p,.int .u8 (e.a.toNat:Int),.string e.v,.int .i64 e.n,sv]
def ints (l:List Int):List Value:=l.map (Value.int .i64)

structure RepZ (w:World) (rb off:Nat):Prop where
 c2:w.cell? ⟨rb,off+2,none⟩=some (.slice none 0 0)
 c3:w.cell? ⟨rb,off+3,none⟩=some (.slice none 0 0)
 c4:w.cell? ⟨rb,off+4,none⟩=some (.bool false)
 c5:w.cell? ⟨rb,off+5,none⟩=some (.int .i64 0)
 c6:w.cell? ⟨rb,off+6,none⟩=some (.int .i64 0)
 c8:w.cell? ⟨rb,off+8,none⟩=some (.int .i64 0)
theorem RepZ.of {w w':World} {rb off:Nat} (h:RepZ w rb off) (hc:∀ i,i=2\/i=3\/i=4\/i=5\/i=6\/i=8->w'.cell? ⟨rb,off+i,none⟩=w.cell? ⟨rb,off+i,none⟩):RepZ w' rb off :=
 ⟨(hc 2 (by simp)).trans h.c2,(hc 3 (by simp)).trans h.c3,(hc 4 (by simp)).trans h.c4,(hc 5 (by simp)).trans h.c5,(hc 6 (by simp)).trans h.c6,(hc 8 (by simp)).trans h.c8⟩
structure RepAt (w:World) (rb off:Nat) (known:List Bool) (most:Nat):Prop where
 c0:∃ kv,w.cell? ⟨rb,off,none⟩=some kv/\SliceT 4 w kv (bools known)
 c1:w.cell? ⟨rb,off+1,none⟩=some (.bool false)
 c7:w.cell? ⟨rb,off+7,none⟩=some (.bool false)
 c9:∃ m:Nat,w.cell? ⟨rb,off+9,none⟩=some (.int .i64 (m:Int))/\m<=most
 c10:∃ kp kl,w.cell? ⟨rb,off+10,none⟩=some kp/\SliceT 3 w kp (ints kl)/\kl.length<=50
 c12:∃ m:Nat,w.cell? ⟨rb,off+12,none⟩=some (.int .i64 (m:Int))/\m<=most
 z:RepZ w rb off

structure RefAt (w:World) (c rb:Nat) (evv fv:Value) (av:Nat->Value) (room:Nat) (es:List Ev) (acc most:Nat) (knowns:List (List Bool)):Prop where
 tc:Tagged w c 170
 trb:Tagged w rb 165
 room50:room<=50
 n6:knowns.length<=6
 n500:es.length<=500
 f0:w.cell? ⟨c,0,none⟩=some (.int .i64 (room:Int))
 f1:∃ cap,w.cell? ⟨c,1,none⟩=some (.slice (some ⟨rb,0,none⟩) knowns.length cap)/\knowns.length<=cap
 f2:w.cell? ⟨c,2,none⟩=some evv
 f3:w.cell? ⟨c,3,none⟩=some (.int .i64 (acc:Int))
 a500:acc<=500
 m500:most<=1000
 evs:∃ svs:List Value,svs.length=es.length/\w.ownsRow 0 239 5 evv es.length (evCells es svs)/\∀ j (h:j<svs.length) (h':j<es.length),SliceT 4 w svs[j] (bools es[j].saw)
 ok:∀ e∈es,EvOk e
 reps:∀ i (h:i<knowns.length),RepAt w rb (i*13) knowns[i] most
 kn:∀ k∈knowns,k.length<=es.length
 f4:w.cell? ⟨c,4,none⟩=some fv
 a11:∀ i,i<knowns.length->w.cell? ⟨rb,i*13+11,none⟩=some (av i)

def IntsKept (w w':World):Prop:=∀ (b:Nat) (cur:Array Value),w.heap[b]? = some (.cells cur 3 (0,0))->∃ cur':Array Value,w'.heap[b]? = some (.cells cur' 3 (0,0))/\∀ (j:Nat) (m:Int),cur[j]? = some (.int .i64 m)->∃ m':Int,cur'[j]? = some (.int .i64 m')
theorem IntsKept.of_chg {M:Nat->Prop} {w w':World} (hc:Chg M w w') (h:∀ b,Tagged w b 3->¬M b):IntsKept w w':=fun b cur hb=>⟨cur,(hc.block b (Tagged.lt ⟨cur,hb⟩) (h b ⟨cur,hb⟩)).trans hb,fun j m hm=>⟨m,hm⟩⟩
theorem IntsKept.of_below {w w':World} (hb:Below w.heap.size w w'):IntsKept w w':=IntsKept.of_chg (M:=fun _=>False) (Chg.of_below hb) (fun _ _ h=>h)
theorem IntsKept.trans {a b c:World} (h:IntsKept a b) (k:IntsKept b c):IntsKept a c:=fun x cur hx=>by
 obtain ⟨cur',h1,h2⟩:=h x cur hx
 obtain ⟨cur'',h3,h4⟩:=k x cur' h1
 exact ⟨cur'',h3,fun j m hm=>by obtain ⟨m',hm'⟩:=h2 j m hm;exact h4 j m' hm'⟩
theorem SliceT.numbers {w w':World} {v:Value} {kl:List Int} (h:SliceT 3 w v (ints kl)) (hk:IntsKept w w'):∃ kl':List Int,kl'.length=kl.length/\SliceT 3 w' v (ints kl'):=by
 rcases h with ⟨h1,h2⟩ | ⟨b,off,cap,h1,h2,⟨cur,h3⟩,h4⟩
 ·exact ⟨kl,rfl,Or.inl ⟨h1,h2⟩⟩
 ·obtain ⟨cur',h5,h6⟩:=hk b cur h3
  have hl:(ints kl).length=kl.length:=by simp[ints]
  have hc:∀ j,j<kl.length->∃ m,w'.cell? ⟨b,off+j,none⟩=some (.int .i64 m):=fun j hj=>by
   have:=h4 j (by omega)
   simp only[World.cell?,h3] at this
   have e:(ints kl)[j]'(by omega)=.int .i64 kl[j]:=by simp[ints]
   rw[e] at this
   obtain ⟨m,hm⟩:=h6 _ _ this
   exact ⟨m,by simp only[World.cell?,h5];exact hm⟩
  refine ⟨(List.range kl.length).map (fun j=>if h:j<kl.length then (hc j h).choose else 0),by simp,Or.inr ⟨b,off,cap, ?_, ?_,⟨cur',h5⟩,fun j hj=>?_⟩⟩
  ·rw[h1,hl];simp[ints]
  ·rw[hl] at h2;simpa[ints] using h2
  ·have hj':j<kl.length:=by simpa[ints] using hj
   rw[(hc j hj').choose_spec]
   simp[ints,hj']
theorem SliceT.below {t:TypeId} {w w':World} {v:Value} {xs:List Value} (h:SliceT t w v xs) (hb:Below w.heap.size w w'):SliceT t w' v xs:=h.chg (M:=fun _=>False) (Chg.of_below hb) (fun _ _ h=>h)
theorem RepAt.below {w w':World} {rb off:Nat} {known:List Bool} {most:Nat} (h:RepAt w rb off known most) (hb:Below w.heap.size w w') (hr:rb<w.heap.size):RepAt w' rb off known most:=by
 obtain ⟨⟨kv,a0,b0⟩,a1,a7,⟨m9,a9,b9⟩,⟨kp,kl,a10,b10,d10⟩,⟨m12,a12,b12⟩,hz⟩:=h
 have hc:∀ o,w'.cell? ⟨rb,o,none⟩=w.cell? ⟨rb,o,none⟩:=fun o=>hb.cell (p:=⟨rb,o,none⟩) hr
 exact ⟨⟨kv,(hc _).trans a0,b0.below hb⟩,(hc _).trans a1,(hc _).trans a7,⟨m9,(hc _).trans a9,b9⟩,⟨kp,kl,(hc _).trans a10,b10.below hb,d10⟩,⟨m12,(hc _).trans a12,b12⟩,hz.of (fun i _=>hc _)⟩
theorem RefAt.below {w w':World} {c rb:Nat} {evv fv:Value} {av:Nat->Value} {room:Nat} {es:List Ev} {acc most:Nat} {knowns:List (List Bool)} (h:RefAt w c rb evv fv av room es acc most knowns) (hb:Below w.heap.size w w'):RefAt w' c rb evv fv av room es acc most knowns:=by
 have hc:∀ o,w'.cell? ⟨c,o,none⟩=w.cell? ⟨c,o,none⟩:=fun o=>hb.cell (p:=⟨c,o,none⟩) h.tc.lt
 obtain ⟨cap,f1,hcap⟩:=h.f1
 obtain ⟨svs,e1,e2,e3⟩:=h.evs
 exact ⟨h.tc.below hb,h.trb.below hb,h.room50,h.n6,h.n500,(hc 0).trans h.f0,⟨cap,(hc 1).trans f1,hcap⟩,(hc 2).trans h.f2,(hc 3).trans h.f3,h.a500,h.m500,⟨svs,e1,own_below e2 hb,fun j h1 h2=>(e3 j h1 h2).below hb⟩,h.ok,fun i hi=>(h.reps i hi).below hb h.trb.lt,h.kn,(hc 4).trans h.f4,fun i hi=>(hb.cell (p:=⟨rb,i*13+11,none⟩) h.trb.lt).trans (h.a11 i hi)⟩

theorem Up_any (w:World) (c rb:Nat) (evv fv:Value) (av:Nat->Value) (room:Nat) (es:List Ev) (acc most:Nat) (knowns:List (List Bool)) (h:RefAt w c rb evv fv av room es acc most knowns) (i:Int) :
  Calls Tryz.prog 109 #[.pointer (some ⟨c,0,none⟩),.int .i64 i] w fun e w'=>e=.returned (.int .i64 (if 0<=i/\i<knowns.length then 0 else 2))/\w'=w:=by
 obtain ⟨cap,f1,hcap⟩:=h.f1
 have h6:=h.n6
 by_cases h0:i<0
 ·rw[if_neg (by omega)]
  go_enter Tryz.func109,Tryz.ntmps109
  go_wp2
  go_ret
  exact ⟨rfl,rfl⟩
 ·obtain ⟨k,rfl⟩:=Int.eq_ofNat_of_zero_le (show 0<=i by omega)
  by_cases h1:k<knowns.length
  ·have hd:=(h.reps k h1).c1
   rw[if_pos (by omega)]
   go_enter Tryz.func109,Tryz.ntmps109
   go_wp2
   go_ret
   exact ⟨rfl,rfl⟩
  ·rw[if_neg (by omega)]
   go_enter Tryz.func109,Tryz.ntmps109
   go_wp2
   go_ret
   exact ⟨rfl,rfl⟩

end Go.Proofs.YtfmmllpjgkgeaaaGreatDoor
namespace Go.Proofs.YtfmmllpjgkgeaaaGreatDoor

structure FrD where
 src:Nat
 dst:Nat
 ack:Nat
 known:List Bool
 bytes:ByteArray
theorem getD_len {known:List Bool} {j:Nat} (hj:known.length<=j):known.getD j false=false:=by rw[List.getD_eq_getElem?_getD,List.getElem?_eq_none hj];(first | done | rfl)
end Go.Proofs.YtfmmllpjgkgeaaaGreatDoor

namespace Go.Proofs.YtfmmllpjgkgeaaaGreatDoor.Thk

def fits (k a:UInt8):Bool :=
 if k.toNat=115 then a.toNat == 43 || a.toNat == 45 || a.toNat == 33
 else if k.toNat=102 then a.toNat == 94 || a.toNat == 95 || a.toNat == 33
 else if k.toNat=114 then a.toNat == 61 || a.toNat == 33
 else if k.toNat=99 then a.toNat == 62 || a.toNat == 33
 else a.toNat == 33

structure Ch where
 path:Bs
 act:UInt8
 val:Bs
 n:Int

def operand (p:Bs) (a:UInt8) (v:Bs):Nat ⊕ Ch :=
 if a.toNat=43\/a.toNat=45\/a.toNat=61 then (if val v then .inr ⟨p,a,v,0⟩ else .inl 5)
 else if a.toNat=62 then (match num v with | some n=>.inr ⟨p,a,v,n⟩ | none=>.inl 5)
 else if v=[] then .inr ⟨p,a,v,0⟩ else .inl 5
def readAt (l:Bs) (k:Nat):Nat ⊕ Ch :=
 if path (l.take k)=false then .inl 4
 else if fits (kindOf (l.take k)) (l.getD k 0)=false then .inl 6
 else operand (l.take k) (l.getD k 0) (l.drop (k+1))
def read (l:Bs):Nat ⊕ Ch:=if l.findIdx isAct=l.length then .inl 4 else readAt l (l.findIdx isAct)

theorem read_none (l:Bs) (h:∀ j (hj:j<l.length),isAct l[j]=false):read l=.inl 4:=by
 have:l.findIdx isAct=l.length:=List.findIdx_eq_length.2 (fun x hx=>by obtain ⟨i,hi,rfl⟩:=List.getElem_of_mem hx;exact h i hi)
 unfold read;rw[if_pos this]
theorem read_some (l:Bs) (k:Nat) (hk:k<l.length) (h:∀ j (hj:j<l.length),j<k->isAct l[j]=false) (ha:isAct l[k]=true):read l=readAt l k:=by
 have:l.findIdx isAct=k:=by
  rw[List.findIdx_eq hk];exact ⟨ha,fun j hj=>h j (by omega) hj⟩
 unfold read;rw[this,if_neg (by omega)]

end Go.Proofs.YtfmmllpjgkgeaaaGreatDoor.Thk

namespace Go.Proofs.YtfmmllpjgkgeaaaGreatDoor.Thk

theorem splitAcc_len (c:UInt8):∀ (l cur:Bs),((splitAcc c cur l).map List.length).sum+(splitAcc c cur l).length=cur.length+l.length+1:=by
 intro l
 induction l with
 | nil=>intro cur;simp[splitAcc]
 | cons x r ih =>
  intro cur
  unfold splitAcc
  split
  ·have:=ih []
   simp at this ⊢;omega
  ·have:=ih (cur ++ [x])
   simp at this ⊢;omega
theorem sum_le (l:List Nat) (b:Nat) (h:∀ x∈l,x<=b):l.sum<=b*l.length:=by
 induction l with
 | nil=>simp
 | cons a r ih =>
  have h1:=h a (by simp)
  have h2:=ih (fun x hx=>h x (by simp[hx]))
  simp only[List.sum_cons,List.length_cons,Nat.mul_succ];omega
theorem path_len (l:Bs) (h:path l=true):l.length<=17:=by
 unfold path pathL at h
 simp only[Bool.and_eq_true,decide_eq_true_eq] at h
 have h3:=h.1.1
 have h5:∀ x∈(split 47 l).map List.length,x<=5:=by
  intro x hx
  obtain ⟨y,hy,rfl⟩:=List.mem_map.1 hx
  have:=List.all_eq_true.1 h.1.2 y hy
  unfold seg at this;simp at this;omega
 have hs:=sum_le _ 5 h5
 have hl:=splitAcc_len 47 l []
 rw[List.length_map] at hs
 unfold split at *
 simp at hl;omega
theorem numAbs_ok (neg:Bool) (l:Bs) (n:Int) (h:numAbs neg l=some n):l.length<=10/\n<=1000000000/\-1000000000<=n:=by
 unfold numAbs at h
 by_cases hb:numBad neg l
 ·rw[if_pos hb] at h;cases h
 ·rw[if_neg hb] at h
  unfold numBad at hb
  simp only[Bool.or_eq_true,not_or,decide_eq_true_eq] at hb
  by_cases hc:(l.all isDig && decide (numv l<=1000000000))=true
  ·rw[if_pos hc] at h
   simp only[Bool.and_eq_true,decide_eq_true_eq] at hc
   cases h
   refine ⟨by omega, ?_, ?_⟩ <;> (cases neg <;> simp <;> omega)
  ·rw[if_neg hc] at h;cases h
theorem num_ok (l:Bs) (n:Int) (h:num l=some n):l.length<=11/\n<=1000000000/\-1000000000<=n:=by
 unfold num at h
 by_cases hc:l.head? = some 45
 ·rw[if_pos hc] at h
  have:=numAbs_ok _ _ _ h
  simp at this;omega
 ·rw[if_neg hc] at h
  have:=numAbs_ok _ _ _ h
  omega
theorem read_ok (l:Bs) (c:Ch) (h:read l=.inr c):c.path.length<=17/\c.val.length<=11/\c.n<=1000000000/\-1000000000<=c.n/\path c.path=true:=by
 unfold read at h
 by_cases h1:l.findIdx isAct=l.length
 ·rw[if_pos h1] at h;cases h
 ·rw[if_neg h1] at h
  unfold readAt at h
  by_cases h2:path (l.take (l.findIdx isAct))=false
  ·rw[if_pos h2] at h;cases h
  ·rw[if_neg h2] at h
   have h2':path (l.take (l.findIdx isAct))=true:=by simpa using h2
   by_cases h3:fits (kindOf (l.take (l.findIdx isAct))) (l.getD (l.findIdx isAct) 0)=false
   ·rw[if_pos h3] at h;cases h
   ·rw[if_neg h3] at h
    have hp:=path_len _ h2'
    generalize l.take (l.findIdx isAct)=p at *
    generalize l.drop (l.findIdx isAct+1)=v at *
    generalize l.getD (l.findIdx isAct) 0=a at *
    unfold operand at h
    split at h
    ·split at h
     ·rename_i hv
      cases h
      unfold val at hv;simp at hv
      exact ⟨hp,by simp;omega,by simp,by simp,h2'⟩
     ·cases h
    ·split at h
     ·split at h
      ·rename_i n hn
       cases h
       have:=num_ok _ _ hn
       exact ⟨hp,by simp;omega,by simp;omega,by simp;omega,h2'⟩
      ·cases h
     ·split at h
      ·rename_i hv
       cases h
       exact ⟨hp,by simp[hv],by simp,by simp,h2'⟩
      ·cases h

theorem read_err (l:Bs) (m:Nat) (h:read l=.inl m):0<m/\m<=6:=by
 unfold read readAt operand at h
 repeat' split at h
 all_goals first | (cases h;omega) | (cases h;done)

end Go.Proofs.YtfmmllpjgkgeaaaGreatDoor.Thk

namespace Go.Proofs.YtfmmllpjgkgeaaaGreatDoor
open Go.RowKit
theorem wrap_in (n:Int) (h0:-9223372036854775808<=n) (h1:n<=9223372036854775807):IntKind.i64.wrap n=n:=by
 unfold IntKind.wrap
 simp[IntKind.bits,IntKind.signed]
 omega

def Blk (w:World) (b:Nat) (cs:Array Value) (t:TypeId):Prop:=w.heap[b]? = some (.cells cs t (0,0))
theorem Blk.cell {w:World} {b:Nat} {cs:Array Value} {t:TypeId} (h:Blk w b cs t) (j:Nat):w.cell? ⟨b,j,none⟩=cs[j]?:=by simp[World.cell?,show w.heap[b]? = _ from h]
theorem Blk.frozen {w:World} {b:Nat} {cs:Array Value} {t:TypeId} (h:Blk w b cs t) (j:Nat):w.frozen? ⟨b,j,none⟩=false:=by simp[World.frozen?,show w.heap[b]? = _ from h]
theorem Blk.lt {w:World} {b:Nat} {cs:Array Value} {t:TypeId} (h:Blk w b cs t):b<w.heap.size:=(Array.getElem?_eq_some_iff.1 h).1
theorem Blk.chg {M:Nat->Prop} {w w':World} {b:Nat} {cs:Array Value} {t:TypeId} (h:Blk w b cs t) (hc:Chg M w w') (hm:¬M b):Blk w' b cs t:=(hc.block b h.lt hm).trans h
theorem Blk.below {w w':World} {b:Nat} {cs:Array Value} {t:TypeId} (h:Blk w b cs t) (hb:Below w.heap.size w w'):Blk w' b cs t:=(hb.block b h.lt).trans h
theorem Blk.alloc {w:World} {b:Nat} {cs:Array Value} {t:TypeId} (h:Blk w b cs t) (o:Obj):Blk (w.alloc o) b cs t:=h.below ((Below.refl _ w).alloc (Nat.le_refl _) o)
theorem Blk.grown {w w':World} {k b:Nat} {cs:Array Value} {t:TypeId} (h:Blk w b cs t) (hg:w.grownBy w' (some k)) (hm:b≠k):Blk w' b cs t:=(hg.block b h.lt (fun e=>hm (by cases e;rfl))).trans h
theorem Blk.new (w:World) (cs:Array Value) (t:TypeId):Blk (w.alloc (.cells cs t)) w.heap.size cs t:=heap_alloc_new w _

structure Glob (w:World):Prop where
 len:∃ m,w.cell? ⟨0,0,none⟩=some (.int .i64 m)
 syn:∃ ev,w.cell? ⟨1,0,none⟩=some ev/\(ev=.nilIface\/∃ te pe,ev=.iface te pe)
 rng:∃ ev,w.cell? ⟨2,0,none⟩=some ev/\(ev=.nilIface\/∃ te pe,ev=.iface te pe)
 tab:Lib.TabIs Tryz.prog w "internal/strconv.uint64pow10" .u64 Lib.pow10Tab
 size:3<w.heap.size

theorem Glob.mono {w w':World} (h:Glob w) (hb:Below w.heap.size w w'):Glob w':=by
 obtain ⟨⟨m,h1⟩,⟨e1,h2,h2'⟩,⟨e2,h3,h3'⟩,h4,h5⟩:=h
 refine ⟨⟨m,(hb.cell (p:=⟨0,0,none⟩) (block_lt_of_cell h1)).trans h1⟩,⟨e1,(hb.cell (p:=⟨1,0,none⟩) (block_lt_of_cell h2)).trans h2,h2'⟩,⟨e2,(hb.cell (p:=⟨2,0,none⟩) (block_lt_of_cell h3)).trans h3,h3'⟩, ?_,Nat.lt_of_lt_of_le h5 hb.size⟩
 exact var?_below (g:=3) hb (by kernel_rfl) h5 h4

def askR (es:List Ev) (knowns:List (List Bool)) (i:Int) (path:Thk.Bs):Thk.Bs × Int :=
 if 0<=i/\i<knowns.length then (if Thk.path path then (tellR es (aliveTo es (knowns.getD i.toNat []) es.length) path,0) else ([],4)) else ([],2)

def moreOf (known:List Bool) (n:Nat):List Bool:=known ++ List.replicate (n-known.length) false ++ [true]
theorem moreOf_length (known:List Bool) (n:Nat) (h:known.length<=n):(moreOf known n).length=n+1:=by unfold moreOf;simp;omega

def DoOut (es:List Ev) (knowns:List (List Bool)) (i:Int) (s:Thk.Bs) (r:Int) (es':List Ev) (kn':List (List Bool)):Prop :=
 (¬(0<=i/\i<knowns.length)/\r=2/\es'=es/\kn'=knowns) \/
 (∃ k:Nat,(0<=i/\i<knowns.length)/\Thk.read s=.inl k/\r=(k:Int)/\es'=es/\kn'=knowns) \/
 (∃ c:Thk.Ch,(0<=i/\i<knowns.length)/\Thk.read s=.inr c/\500<=es.length/\r=7/\es'=es/\kn'=knowns) \/
 ∃ (c:Thk.Ch) (e:Ev),(0<=i/\i<knowns.length)/\Thk.read s=.inr c/\es.length<500/\toL e.p=c.path/\e.a=c.act/\toL e.v=c.val/\e.n=c.n/\e.saw=knowns.getD i.toNat [] /\
  r=0/\es'=es ++ [e]/\kn'=knowns.set i.toNat (moreOf (knowns.getD i.toNat []) es.length)
section
variable {es:List Ev} {knowns:List (List Bool)} {i:Int} {s:Thk.Bs}
theorem DoOut.rep (h:¬(0<=i/\i<knowns.length)):DoOut es knowns i s 2 es knowns:=Or.inl ⟨h,rfl,rfl,rfl⟩
theorem DoOut.bad (k:Nat) (h:0<=i/\i<knowns.length) (hr:Thk.read s=.inl k):DoOut es knowns i s k es knowns:=Or.inr (Or.inl ⟨k,h,hr,rfl,rfl,rfl⟩)
theorem DoOut.full (c:Thk.Ch) (h:0<=i/\i<knowns.length) (hr:Thk.read s=.inr c) (hl:500<=es.length):DoOut es knowns i s 7 es knowns:=Or.inr (Or.inr (Or.inl ⟨c,h,hr,hl,rfl,rfl,rfl⟩))
theorem DoOut.done (c:Thk.Ch) (e:Ev) (h:0<=i/\i<knowns.length) (hr:Thk.read s=.inr c) (hl:es.length<500) (h1:toL e.p=c.path) (h2:e.a=c.act) (h3:toL e.v=c.val) (h4:e.n=c.n) (h5:e.saw=knowns.getD i.toNat []) :
  DoOut es knowns i s 0 (es ++ [e]) (knowns.set i.toNat (moreOf (knowns.getD i.toNat []) es.length)):=Or.inr (Or.inr (Or.inr ⟨c,e,h,hr,hl,h1,h2,h3,h4,h5,rfl,rfl,rfl⟩))
end
theorem getD_app {l:List Bool} {r:List Bool} (i:Nat) (h:i<l.length):(l ++ r).getD i false=l.getD i false:=by
 rw[List.getD_eq_getElem?_getD,List.getD_eq_getElem?_getD,List.getElem?_append_left h]
theorem moreOf_getD (known:List Bool) (n:Nat) (h:known.length<=n) (i:Nat):(moreOf known n).getD i false=(known.getD i false || decide (i=n)):=by
 unfold moreOf
 have hz:∀ j,known.length<=j->known.getD j false=false:=fun j hj=>by rw[List.getD_eq_getElem?_getD,List.getElem?_eq_none hj];(first | done | rfl)
 by_cases h1:i<known.length
 ·rw[List.append_assoc,getD_app i h1]
  have:¬i=n:=by omega
  simp[this]
 ·rw[hz i (by omega)]
  by_cases h2:i<n
  ·rw[getD_app i (by simp;omega),List.getD_eq_getElem?_getD,List.getElem?_append_right (by omega),List.getElem?_replicate,if_pos (by omega)]
   have:¬i=n:=by omega
   simp[this]
  ·by_cases h3:i=n
   ·subst h3
    rw[List.getD_eq_getElem?_getD,List.getElem?_append_right (by simp;omega)]
    have:i-(known ++ List.replicate (i-known.length) false).length=0:=by simp;omega
    rw[this];simp
   ·rw[List.getD_eq_getElem?_getD,List.getElem?_eq_none (by simp;omega)]
    simp[h3]
theorem cnt_range:∀ (l:List Bool) (N:Nat),l.length<=N->((List.range N).filter (fun k=>l.getD k false)).length=cnt l
 | [],N,_=>by simp[cnt]
 | b :: l,0,h=>by simp at h
 | b :: l,N+1,h=>by
  have ih:=cnt_range l N (by simpa using h)
  rw[List.range_succ_eq_map,List.filter_cons,List.filter_map]
  have e:((fun k=>(b :: l).getD k false) ∘ Nat.succ)=fun k=>l.getD k false:=by funext k;simp
  rw[e]
  unfold cnt at ih ⊢
  cases b <;> simpa using ih

def knowsR (kn:List (List Bool)) (i:Int):Int × Int:=if 0<=i/\i<kn.length then ((cnt (kn.getD i.toNat []):Int),0) else (0,2)

structure St where
 es:List Ev
 kn:List (List Bool)
 fs:List FrD
abbrev Stt:Type:=World->Nat->(Nat->Prop)->St->Prop

theorem chgS_below {B:Nat} {S:Nat->Prop} {a c:World} (h:Chg S a c) (hS:∀ k,S k->B<=k) (hs:B<=a.heap.size):Below B a c :=
 ⟨h.os,h.tape,h.output,h.size,fun k hk=>h.block k (by omega) (fun hk2=>by have:=hS k hk2;omega)⟩

def isRef (t:TypeId):Prop:=t=170\/t=165\/t=239\/t=233\/t=3
structure ProgFrame (F:Stt):Prop where
 stable:∀ {M:Nat->Prop} {w w':World} {x:Nat} {S:Nat->Prop} {s:St},F w x S s->Chg M w w'->(∀ k,S k->¬M k)->F w' x S s
 tags:∀ {w:World} {x:Nat} {S:Nat->Prop} {s:St} {k:Nat} {t:TypeId},F w x S s->S k->Tagged w k t->¬isRef t/\t≠4/\t≠159/\t≠63/\t≠116
 lt:∀ {w:World} {x:Nat} {S:Nat->Prop} {s:St} {k:Nat},F w x S s->S k->k<w.heap.size
theorem ProgFrame.below {F:Stt} (hP:ProgFrame F) {w w':World} {x:Nat} {S:Nat->Prop} {s:St} (hf:F w x S s) (hb:Below w.heap.size w w'):F w' x S s:=hP.stable hf (Chg.of_below (M:=fun _=>False) hb) (fun _ _ h=>h)
theorem digs_dec:∀ n,Thk.digs n=Lib.decDigits n:=by
 intro n
 induction n using Nat.strongRecOn with
 | _ n ih =>
  rw[Thk.digs,Lib.decDigits]
  split
  ·rfl
  ·rw[ih (n / 10) (by omega)]
theorem digits_itoa (n:Int):Thk.digits n=Lib.itoa n:=by
 unfold Thk.digits Lib.itoa
 rw[digs_dec]
 split
 ·rfl
 ·rw[show n.natAbs=n.toNat by omega]
theorem tag_same {w:World} {k:Nat} {t t':TypeId} (h:Tagged w k t) (h':Tagged w k t'):t=t':=Classical.byContradiction fun e=>h.ne h' e rfl

theorem toL_get (t:ByteArray) (k:Nat) (h:k<t.size):(toL t)[k]'(by rw[toL_length];exact h)=t[k]:=byte_at t k h

def NumEnd (neg:Bool) (t:ByteArray) (e:Ending):Prop:=∃ m:Int,e=.returned (.tuple #[.int .i64 m,.bool (Thk.numAbs neg (toL t)).isSome])/\∀ x,Thk.numAbs neg (toL t)=some x->m=x

theorem numBad_iff (neg:Bool) (t:ByteArray):Thk.numBad neg (toL t)=true↔(t.size<1\/10<t.size\/(∃ h:0<t.size,(t[0].toNat:Int)=48/\(1<t.size\/neg=true))):=by
 unfold Thk.numBad
 by_cases h:0<t.size
 ·rw[head_toL t h,toL_length]
  simp only[Bool.or_eq_true,Bool.and_eq_true,decide_eq_true_eq,beq_iff_eq,Option.some.injEq]
  have e:t[0]=48↔(t[0].toNat:Int)=48:=by
   constructor
   ·intro h;rw[h];(first | done | rfl)
   ·intro h;apply UInt8.toNat_inj.1;have:(48:UInt8).toNat=48:=rfl;omega
  rw[e]
  constructor
  ·rintro ((a | b) | c)
   ·exact Or.inl a
   ·exact Or.inr (Or.inl b)
   ·exact Or.inr (Or.inr ⟨h,c⟩)
  ·rintro (a | b | ⟨_,c⟩)
   ·exact Or.inl (Or.inl a)
   ·exact Or.inl (Or.inr b)
   ·exact Or.inr c
 ·rw[toL_length]
  constructor
  ·intro _;left;omega
  ·intro _;have:decide (t.size<1)=true:=by rw[decide_eq_true_iff];omega
   rw[this];(first | done | rfl)

theorem num_bad {neg:Bool} {t:ByteArray} (h:Thk.numBad neg (toL t)=true):Thk.numAbs neg (toL t)=none:=by unfold Thk.numAbs;rw[h];(first | done | rfl)
theorem num_not_dig {neg:Bool} {t:ByteArray} {k:Nat} (hk:k<t.size) (h:¬(48<=(t[k].toNat:Int)/\(t[k].toNat:Int)<=57)):Thk.numAbs neg (toL t)=none:=by
 have:(toL t).all Thk.isDig=false:=by
  rw[List.all_eq_false]
  refine ⟨(toL t)[k]'(by rw[toL_length];exact hk),List.getElem_mem _, ?_⟩
  rw[toL_get t k hk]
  unfold Thk.isDig;simp;omega
 unfold Thk.numAbs;rw[this];simp
theorem num_end {neg:Bool} {t:ByteArray} (hb:Thk.numBad neg (toL t)=false) (hall:((toL t).take t.size).all Thk.isDig=true) :
  Thk.numAbs neg (toL t)=if Thk.numv ((toL t).take t.size)<=1000000000 then some (if neg then -(Thk.numv ((toL t).take t.size):Int) else (Thk.numv ((toL t).take t.size):Int)) else none:=by
 have e:(toL t).take t.size=toL t:=by rw[<- toL_length t,List.take_length]
 rw[e] at hall ⊢
 unfold Thk.numAbs;rw[hb,hall];simp

theorem number_pos (s:ByteArray) (w:World) (hs:s.size<=1048576) (hne:Hid ((toL s).head?≠some 45)) :
  Calls Tryz.prog 241 #[.string s] w fun e w'=>NumEnd false s e/\w'=w:=by
 have h0:∀ h:0<s.size,((s[0].toNat:Int) == 45)=false:=by
  intro h;rw[beq_eq_false_iff_ne];intro h2;apply hne.out;rw[head_toL s h];congr 1;apply UInt8.toNat_inj.1;have:(45:UInt8).toNat=45:=rfl;omega
 cases hbad:Thk.numBad false (toL s)
 ·have hnb:=(not_congr (numBad_iff false s)).1 (by rw[hbad];simp)
  have Hbad:Hid (Thk.numBad false (toL s)=false):=hbad
  clear hbad
  have h1:0<s.size:=by omega
  have h2:s.size<=10:=by omega
  have h3:((s[0].toNat:Int) == 45)=false:=h0 h1
  have h4:¬((s[0].toNat:Int)=48/\1<s.size):=fun h=>hnb (Or.inr (Or.inr ⟨h1,h.1,Or.inl h.2⟩))
  clear h0 hnb
  by_cases h5:(s[0].toNat:Int)=48
  ·have h6:¬1<s.size:=fun h=>h4 ⟨h5,h⟩
   have h5':((s[0].toNat:Int) == 48)=true:=by rw[h5];(first | done | rfl)
   clear h4 h5
   go_enter Tryz.func241,Tryz.ntmps241
   go_wp2
   go_loop [5,6] (fun n i=>∃ k:Nat,k<=s.size/\i=.int .i64 k/\n=.int .i64 (Thk.numv ((toL s).take k):Int)/\Hid (((toL s).take k).all Thk.isDig=true)) (fun _ i=>s.size-(intOf i).toNat)
   case atStart=>exact ⟨0,by omega,rfl,by simp[Thk.numv],by simp[Hid]⟩
   case round =>
    obtain ⟨k,hk,rfl,rfl,Hall⟩:=hrel
    have hlt10:Thk.numv ((toL s).take k)<10000000000:=by
     have h:=Thk.numv_lt _ Hall.out
     have:((toL s).take k).length<=10:=by simp[toL_length];omega
     exact Nat.lt_of_lt_of_le h (Nat.le_trans (Nat.pow_le_pow_right (by omega) this) (by decide))
    by_cases hlt:k<s.size
    ·by_cases hdig:48<=(s[k].toNat:Int)/\(s[k].toNat:Int)<=57
     ·obtain ⟨ha,hb⟩:=hdig
      have hts:(toL s).take (k+1)=(toL s).take k ++ [s[k]]:=by
       rw[List.take_succ_eq_append_getElem (by rw[toL_length];exact hlt),toL_get s k hlt]
      have Hn:Hid ((Thk.numv ((toL s).take (k+1)):Int)=10*(Thk.numv ((toL s).take k):Int)+((s[k].toNat:Int)-48)):=by
       unfold Hid;rw[hts,Thk.numv_snoc];unfold Thk.dgt;omega
      have Hall2:Hid (((toL s).take (k+1)).all Thk.isDig=true):=by
       unfold Hid;rw[hts,List.all_append,Hall.out];unfold Thk.isDig;simp;omega
      clear hts Hall
      generalize Thk.numv ((toL s).take k)=m at *
      go_wp2
      all_goals
       go_round
       case rel=>exact ⟨k+1,by omega,by go_num,by rw[Hn.out],Hall2⟩
       case measure=>simp[intOf];omega
     ·have hfin:Hid (Thk.numAbs false (toL s)=none):=num_not_dig hlt hdig
      rcases (show (s[k].toNat:Int)<48\/57<(s[k].toNat:Int) from by omega) with h | h
      all_goals clear hdig Hall
      all_goals
       go_wp2
       all_goals
        go_ret2
        exact ⟨⟨0,by rw[hfin.out];rfl,by rw[hfin.out];intro x h;cases h⟩,rfl⟩
    ·have hkt:k=s.size:=by omega
     subst hkt
     have hfin:Hid (_):=num_end (neg:=false) Hbad.out Hall.out
     clear Hall
     generalize Thk.numv ((toL s).take s.size)=m at *
     go_wp2
     all_goals
      go_ret2
      refine ⟨⟨(m:Int), ?_, ?_⟩,rfl⟩
      ·rw[hfin.out]
       by_cases hm:m<=1000000000
       ·simp[hm] <;> omega
       ·simp[hm] <;> omega
      ·rw[hfin.out]
       intro x h
       by_cases hm:m<=1000000000
       ·simp[hm] at h;omega
       ·simp[hm] at h
  ·have h5':((s[0].toNat:Int) == 48)=false:=by simpa using h5
   clear h4 h5
   go_enter Tryz.func241,Tryz.ntmps241
   go_wp2
   go_loop [5,6] (fun n i=>∃ k:Nat,k<=s.size/\i=.int .i64 k/\n=.int .i64 (Thk.numv ((toL s).take k):Int)/\Hid (((toL s).take k).all Thk.isDig=true)) (fun _ i=>s.size-(intOf i).toNat)
   case atStart=>exact ⟨0,by omega,rfl,by simp[Thk.numv],by simp[Hid]⟩
   case round =>
    obtain ⟨k,hk,rfl,rfl,Hall⟩:=hrel
    have hlt10:Thk.numv ((toL s).take k)<10000000000:=by
     have h:=Thk.numv_lt _ Hall.out
     have:((toL s).take k).length<=10:=by simp[toL_length];omega
     exact Nat.lt_of_lt_of_le h (Nat.le_trans (Nat.pow_le_pow_right (by omega) this) (by decide))
    by_cases hlt:k<s.size
    ·by_cases hdig:48<=(s[k].toNat:Int)/\(s[k].toNat:Int)<=57
     ·obtain ⟨ha,hb⟩:=hdig
      have hts:(toL s).take (k+1)=(toL s).take k ++ [s[k]]:=by
       rw[List.take_succ_eq_append_getElem (by rw[toL_length];exact hlt),toL_get s k hlt]
      have Hn:Hid ((Thk.numv ((toL s).take (k+1)):Int)=10*(Thk.numv ((toL s).take k):Int)+((s[k].toNat:Int)-48)):=by
       unfold Hid;rw[hts,Thk.numv_snoc];unfold Thk.dgt;omega
      have Hall2:Hid (((toL s).take (k+1)).all Thk.isDig=true):=by
       unfold Hid;rw[hts,List.all_append,Hall.out];unfold Thk.isDig;simp;omega
      clear hts Hall
      generalize Thk.numv ((toL s).take k)=m at *
      go_wp2
      all_goals
       go_round
       case rel=>exact ⟨k+1,by omega,by go_num,by rw[Hn.out],Hall2⟩
       case measure=>simp[intOf];omega
     ·have hfin:Hid (Thk.numAbs false (toL s)=none):=num_not_dig hlt hdig
      rcases (show (s[k].toNat:Int)<48\/57<(s[k].toNat:Int) from by omega) with h | h
      all_goals clear hdig Hall
      all_goals
       go_wp2
       all_goals
        go_ret2
        exact ⟨⟨0,by rw[hfin.out];rfl,by rw[hfin.out];intro x h;cases h⟩,rfl⟩
    ·have hkt:k=s.size:=by omega
     subst hkt
     have hfin:Hid (_):=num_end (neg:=false) Hbad.out Hall.out
     clear Hall
     generalize Thk.numv ((toL s).take s.size)=m at *
     go_wp2
     all_goals
      go_ret2
      refine ⟨⟨(m:Int), ?_, ?_⟩,rfl⟩
      ·rw[hfin.out]
       by_cases hm:m<=1000000000
       ·simp[hm] <;> omega
       ·simp[hm] <;> omega
      ·rw[hfin.out]
       intro x h
       by_cases hm:m<=1000000000
       ·simp[hm] at h;omega
       ·simp[hm] at h
 ·have hnb:=(numBad_iff false s).1 hbad
  have hfin:Hid (Thk.numAbs false (toL s)=none):=num_bad hbad
  clear hbad
  rcases hnb with h | h | ⟨h,h4,h5⟩
  ·clear h0
   go_enter Tryz.func241,Tryz.ntmps241
   go_wp2
   all_goals
    go_ret2
    exact ⟨⟨0,by rw[hfin.out];rfl,by rw[hfin.out];intro x h;cases h⟩,rfl⟩
  ·have h3:=h0 (by omega)
   clear h0
   go_enter Tryz.func241,Tryz.ntmps241
   go_wp2
   all_goals
    go_ret2
    exact ⟨⟨0,by rw[hfin.out];rfl,by rw[hfin.out];intro x h;cases h⟩,rfl⟩
  ·have h3:=h0 h
   have h5':((s[0].toNat:Int) == 48)=true:=by rw[h4];(first | done | rfl)
   have h6:1<s.size:=by simpa using h5
   clear h0 h4 h5
   go_enter Tryz.func241,Tryz.ntmps241
   go_wp2
   all_goals
    go_ret2
    exact ⟨⟨0,by rw[hfin.out];rfl,by rw[hfin.out];intro x h;cases h⟩,rfl⟩

theorem number_neg (s:ByteArray) (w:World) (hs:s.size<=1048576) (h0:0<s.size) (hne:(s[0].toNat:Int)=45) :
  Calls Tryz.prog 241 #[.string s] w fun e w'=>NumEnd true (s.extract 1 s.size) e/\w'=w:=by
 have h3:((s[0].toNat:Int) == 45)=true:=by rw[hne];(first | done | rfl)
 have ht:(s.extract 1 s.size).size=s.size-1:=by simp[ByteArray.size_extract]
 clear hne
 cases hbad:Thk.numBad true (toL (s.extract 1 s.size))
 ·have hnb:=(not_congr (numBad_iff true (s.extract 1 s.size))).1 (by rw[hbad];simp)
  have Hbad:Hid (Thk.numBad true (toL (s.extract 1 s.size))=false):=hbad
  clear hbad
  have h1:0<(s.extract 1 s.size).size:=by omega
  have h2:(s.extract 1 s.size).size<=10:=by omega
  have h5':(((s.extract 1 s.size)[0].toNat:Int) == 48)=false:=by rw[beq_eq_false_iff_ne];exact fun h=>hnb (Or.inr (Or.inr ⟨h1,h,Or.inr rfl⟩))
  have k1:1<=s.size-1:=by omega
  have k2:s.size-1<=10:=by omega
  clear hnb ht
  go_enter Tryz.func241,Tryz.ntmps241
  go_wp2
  clear h5'
  generalize ((s.extract 1 s.size)[0]'h1).toNat=b0 at *
  generalize hT:s.extract 1 s.size=t at *
  have HT:Hid (s.extract 1 s.size=t):=hT
  clear hT
  go_loop [5,6] (fun n i=>∃ k:Nat,k<=t.size/\i=.int .i64 k/\n=.int .i64 (Thk.numv ((toL t).take k):Int)/\Hid (((toL t).take k).all Thk.isDig=true)) (fun _ i=>t.size-(intOf i).toNat)
  case atStart=>exact ⟨0,by omega,rfl,by simp[Thk.numv],by simp[Hid]⟩
  case round =>
   obtain ⟨k,hk,rfl,rfl,Hall⟩:=hrel
   have hlt10:Thk.numv ((toL t).take k)<10000000000:=by
    have h:=Thk.numv_lt _ Hall.out
    have:((toL t).take k).length<=10:=by simp[toL_length];omega
    exact Nat.lt_of_lt_of_le h (Nat.le_trans (Nat.pow_le_pow_right (by omega) this) (by decide))
   by_cases hlt:k<t.size
   ·by_cases hdig:48<=(t[k].toNat:Int)/\(t[k].toNat:Int)<=57
    ·obtain ⟨ha,hb⟩:=hdig
     have hts:(toL t).take (k+1)=(toL t).take k ++ [t[k]]:=by
      rw[List.take_succ_eq_append_getElem (by rw[toL_length];exact hlt),toL_get t k hlt]
     have Hn:Hid ((Thk.numv ((toL t).take (k+1)):Int)=10*(Thk.numv ((toL t).take k):Int)+((t[k].toNat:Int)-48)):=by
      unfold Hid;rw[hts,Thk.numv_snoc];unfold Thk.dgt;omega
     have Hall2:Hid (((toL t).take (k+1)).all Thk.isDig=true):=by
      unfold Hid;rw[hts,List.all_append,Hall.out];unfold Thk.isDig;simp;omega
     clear hts Hall
     generalize Thk.numv ((toL t).take k)=m at *
     go_wp2
     all_goals
      go_round
      case rel=>exact ⟨k+1,by omega,by go_num,by rw[Hn.out],Hall2⟩
      case measure=>simp[intOf];omega
    ·have hfin:Hid (Thk.numAbs true (toL t)=none):=num_not_dig hlt hdig
     rcases (show (t[k].toNat:Int)<48\/57<(t[k].toNat:Int) from by omega) with h | h
     all_goals clear hdig Hall
     all_goals
      go_wp2
      all_goals
       go_ret2
       rw[HT.out];exact ⟨⟨0,by rw[hfin.out];rfl,by rw[hfin.out];intro x h;cases h⟩,rfl⟩
   ·have hkt:k=t.size:=by omega
    subst hkt
    have hfin:Hid (_):=num_end (neg:=true) Hbad.out Hall.out
    clear Hall
    generalize Thk.numv ((toL t).take t.size)=m at *
    go_wp2
    all_goals
     go_ret2
     rw[HT.out];refine ⟨⟨-(m:Int), ?_, ?_⟩,rfl⟩
     ·rw[hfin.out]
      by_cases hm:m<=1000000000
      ·simp[hm] <;> omega
      ·simp[hm] <;> omega
     ·rw[hfin.out]
      intro x h
      by_cases hm:m<=1000000000
      ·simp[hm] at h;omega
      ·simp[hm] at h
 ·have hnb:=(numBad_iff true (s.extract 1 s.size)).1 hbad
  have hfin:Hid (Thk.numAbs true (toL (s.extract 1 s.size))=none):=num_bad hbad
  clear hbad
  rcases hnb with h | h | ⟨h,h4,h5⟩
  ·have k1:s.size-1<1:=by omega
   clear ht h
   go_enter Tryz.func241,Tryz.ntmps241
   go_wp2
   all_goals
    go_ret2
    exact ⟨⟨0,by rw[hfin.out];rfl,by rw[hfin.out];intro x h;cases h⟩,rfl⟩
  ·have k1:10<s.size-1:=by omega
   clear ht h
   go_enter Tryz.func241,Tryz.ntmps241
   go_wp2
   all_goals
    go_ret2
    exact ⟨⟨0,by rw[hfin.out];rfl,by rw[hfin.out];intro x h;cases h⟩,rfl⟩
  ·have h5':(((s.extract 1 s.size)[0].toNat:Int) == 48)=true:=by rw[h4];(first | done | rfl)
   by_cases k2:10<s.size-1
   ·clear h4 h5 ht h5'
    go_enter Tryz.func241,Tryz.ntmps241
    go_wp2
    all_goals
     go_ret2
     exact ⟨⟨0,by rw[hfin.out];rfl,by rw[hfin.out];intro x h;cases h⟩,rfl⟩
   ·have k1:1<=s.size-1:=by omega
    clear h4 h5 ht
    go_enter Tryz.func241,Tryz.ntmps241
    go_wp2
    all_goals
     go_ret2
     exact ⟨⟨0,by rw[hfin.out];rfl,by rw[hfin.out];intro x h;cases h⟩,rfl⟩

theorem num_cases (s:ByteArray):((toL s).head?≠some 45/\Thk.num (toL s)=Thk.numAbs false (toL s))\/(∃ h:0<s.size,(s[0].toNat:Int)=45/\Thk.num (toL s)=Thk.numAbs true (toL (s.extract 1 s.size))):=by
 by_cases h:(toL s).head? = some 45
 ·right
  have hp:0<s.size:=by
   rcases Nat.eq_zero_or_pos s.size with e | e
   ·have:toL s=[]:=List.eq_nil_of_length_eq_zero (by rw[toL_length,e])
    rw[this] at h;cases h
   ·exact e
  refine ⟨hp, ?_, ?_⟩
  ·rw[head_toL s hp] at h;simp only[Option.some.injEq] at h;rw[h];(first | done | rfl)
  ·unfold Thk.num;rw[if_pos h,toL_extract]
   congr 1
   rw[<- toL_length s,List.take_length,List.drop_one]
 ·left;exact ⟨h,by unfold Thk.num;rw[if_neg h]⟩

theorem number_any (s:ByteArray) (w:World) (hs:s.size<=1048576) :
  Calls Tryz.prog 241 #[.string s] w fun e w'=>(∃ m:Int,e=.returned (.tuple #[.int .i64 m,.bool (Thk.num (toL s)).isSome])/\∀ x,Thk.num (toL s)=some x->m=x)/\w'=w:=by
 rcases num_cases s with ⟨h,e⟩ | ⟨h0,h,e⟩
 ·rw[e];exact number_pos s w hs h
 ·rw[e];exact number_neg s w hs h0 h


theorem value_any (s:ByteArray) (w:World) (hs:s.size<=1048576) :
  Calls Tryz.prog 240 #[.string s] w fun e w'=>e=.returned (.bool (Thk.val s.data.toList))/\w'=w:=by
 go_enter Tryz.func240,Tryz.ntmps240
 go_wp2
 go_loop [3] (fun i=>∃ k:Nat,k<=s.size/\i=.int .i64 k/\∀ j (h:j<s.data.toList.length),j<k->(Thk.isLow s.data.toList[j] || Thk.isDig s.data.toList[j])=true) (fun i=>s.size-(intOf i).toNat)
 case atStart=>exact ⟨0,by omega,rfl,fun j _ b=>by omega⟩
 case round =>
  obtain ⟨k,hk,rfl,hall⟩:=hrel
  have Hall:Hid (∀ j (h:j<s.data.toList.length),j<k->(Thk.isLow s.data.toList[j] || Thk.isDig s.data.toList[j])=true):=hall
  clear hall
  by_cases hlt:k<s.size
  ·by_cases hgood:(97<=(s[k].toNat:Int)/\(s[k].toNat:Int)<=122)\/(48<=(s[k].toNat:Int)/\(s[k].toNat:Int)<=57)
   ·have hnext:Hid (∀ j (h:j<s.data.toList.length),j<k+1->(Thk.isLow s.data.toList[j] || Thk.isDig s.data.toList[j])=true):=by
     intro j h b
     by_cases e:j=k
     ·subst e;rw[byte_at s j hlt];unfold Thk.isLow Thk.isDig;simp;omega
     ·exact Hall.out j h (by omega)
    clear Hall
    rcases hgood with ⟨ha,hb⟩ | ⟨ha,hb⟩
    all_goals
     go_wp2
     all_goals
      go_round
      case rel=>exact ⟨k+1,by omega,by go_num,hnext.out⟩
      case measure=>simp[intOf];omega
   ·have hfin:Hid (Thk.val s.data.toList=false):=Thk.val_false_at _ k (by simpa using hlt) (by rw[byte_at s k hlt,Bool.eq_false_iff];unfold Thk.isLow Thk.isDig;simp;omega)
    rcases (show (s[k].toNat:Int)<48\/(57<(s[k].toNat:Int)/\(s[k].toNat:Int)<97)\/122<(s[k].toNat:Int) from by omega) with h | ⟨h,h'⟩ | h
    all_goals clear hgood
    all_goals
     go_wp2
     all_goals
      go_ret
      exact ⟨ret_bool hfin.out.symm,rfl⟩
  ·have hfin:Hid (Thk.val s.data.toList=(decide (1<=s.size) && decide (s.size<=8))):=by
    have h:=Thk.val_eq s.data.toList (fun i h=>Hall.out i h (by simp at h;omega))
    exact h.trans (by simp)
   go_wp2
   all_goals
    go_ret
    refine ⟨ret_bool ?_,rfl⟩
    rw[hfin.out,Bool.eq_iff_iff]
    simp
    try omega

def fitsB (k a:UInt8):Bool :=
 if k.toNat=115 then a.toNat == 43 || a.toNat == 45 || a.toNat == 33
 else if k.toNat=102 then a.toNat == 94 || a.toNat == 95 || a.toNat == 33
 else if k.toNat=114 then a.toNat == 61 || a.toNat == 33
 else if k.toNat=99 then a.toNat == 62 || a.toNat == 33
 else a.toNat == 33

theorem fits_any (k a:UInt8) (w:World) :
  Calls Tryz.prog 239 #[.int .u8 (k.toNat:Int),.int .u8 (a.toNat:Int)] w fun e w'=>e=.returned (.bool (fitsB k a))/\w'=w:=by
 go_enter Tryz.func239,Tryz.ntmps239
 go_wp2
 all_goals
  go_ret
  refine ⟨ret_bool ?_,rfl⟩
  unfold fitsB
  rw[Bool.eq_iff_iff]
  repeat' split
  all_goals simp only[Bool.or_eq_true,beq_iff_eq,beq_eq_false_iff_ne,Bool.true_eq_false,Bool.false_eq_true,true_iff,false_iff,iff_true,iff_false,eq_self] at *
  all_goals omega

end Go.Proofs.YtfmmllpjgkgeaaaGreatDoor

