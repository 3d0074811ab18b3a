import Derived.WalkSmall
import Derived.Lib.LaidTab
import Derived.Lib.ItoaNum
import Derived.Lib.ItoaLen
import Derived.Test.YtfmmllpjgkgeaaaGreatDoorPartM01
set_option linter.unusedVariables false
set_option linter.unusedSimpArgs false
set_option maxHeartbeats 16000000
set_option maxRecDepth 100000
namespace Go.Proofs.YtfmmllpjgkgeaaaGreatDoor
open Go.Proofs.Tryz Go.RowKit
variable{xs:List Value}{B b rb:Nat}{M:Nat->Prop}{t:TypeId}{v:Value}{a c w w':World}
theorem dA.form(h:dA B w v xs):∃ao cap,v=.slice ao xs.length cap/\xs.length<=cap/\(0<xs.length->∃b off,ao=some ⟨b,off,none⟩/\b<B/\∀j(h:j<xs.length),w.cell? ⟨b,off+j,none⟩=some xs[j]):=by
 rcases h with⟨rfl,rfl⟩|⟨b,off,cap,h1,h2,h3,h4⟩
 ·exact⟨none,0,rfl,Nat.le_refl _,λh=>by simp at h⟩
 ·exact⟨some ⟨b,off,none⟩,cap,h1,h2,λ_=>⟨b,off,rfl,h3,h4⟩⟩
structure VL where
 l:List Thk.Bs
 sum:Int
 some:Bool
def oC(k:UInt8)(path:Thk.Bs)(st:VL)(e:Ev):VL :=
 if((k.toNat:Int)==109)&&Thk.begins (ah e.p) path&&!(ah e.p==path) then⟨kH st.l ((Thk.split 47 ((ah e.p).drop (path.length+1))).headD []),st.sum,st.some⟩
 else if ah e.p==path then⟨kH st.l (ah e.v),st.sum+e.n,true⟩else st
def yj(k:UInt8)(st:VL):Thk.Bs :=
 if(k.toNat:Int)=102 then(if st.some then [49]else [48])else if(k.toNat:Int)=99 then Thk.digits st.sum else Thk.jl st.l st.l.length
def vX(es:List Ev)(al:List Nat)(path:Thk.Bs):Thk.Bs :=
 yj (Thk.kindOf path) (al.foldl (λst j=>match es[j]? with|some e=>oC (Thk.kindOf path) path st e|none=>st) ⟨[],0,false⟩)
def iL(es:List Ev)(k:UInt8)(path:Thk.Bs)(al:List Nat):VL:=al.foldl (λst j=>match es[j]? with|some e=>oC k path st e|none=>st) ⟨[],0,false⟩
theorem IJ(es:List Ev)(k:UInt8)(path:Thk.Bs)(al:List Nat)(i:Nat)(h:i<al.length)(e:Ev)(he:es[al[i]]?=some e):iL es k path (al.take (i+1))=oC k path (iL es k path (al.take i)) e:=by unfold iL;rw[Bc _ _ _ i h,he]
structure LM(e:Ev):Prop where
 p:e.p.size<=20
 v:e.v.size<=20
 n1:e.n<=1000000000
 n2:-1000000000<=e.n
 s:e.xC.length<=1000
structure O5(B:Nat)(w:World)(es:List Ev)(k:UInt8)(path:Thk.Bs)(al:List Nat)(i:Nat)(lv:Value)(sum:Int)(sm:Bool)(wr:World):Prop where
 below:Below B w wr
 own:∃ss:List ByteArray,dA wr.heap.size wr lv (strs ss)/\ss.map ah=(iL es k path (al.take i)).l/\ss.length<=i/\∀s∈ss,s.size<=1000
 hsum:sum=(iL es k path (al.take i)).sum
 b1:sum<=1000000000*i
 b2:-(1000000000*i)<=sum
 hsome:sm=(iL es k path (al.take i)).some
theorem O5.next{wr:World}{es:List Ev}{k:UInt8}{path:Thk.Bs}{al:List Nat}{i:Nat}{lv:Value}{sum:Int}{sm:Bool}(h:O5 w.heap.size w es k path al i lv sum sm wr)(hf:iL es k path (al.take (i+1))=iL es k path (al.take i))(hb:Below w.heap.size w w')(hb2:Below wr.heap.size wr w'):O5 w.heap.size w es k path al (i+1) lv sum sm w':=by obtain⟨ss,h1,h2,h3,h4⟩:=h.own;have a:=h.b1;have b:=h.b2;exact⟨hb,⟨ss,(h1.below hb2).mono hb2.size,by rw[hf];exact h2,by omega,h4⟩,by rw[hf];exact h.hsum,by omega,by omega,by rw[hf];exact h.hsome⟩
theorem O6(B:Nat)(bU:Value)(es:List Ev)(av:Value)(al:List Nat)(path:ByteArray)(w:World)(hB:B<=w.heap.size)(hn:es.length<=1000)(hev:oU B w bU es)(hav:dA w.heap.size w av (rY al))(hal:∀j∈al,j<es.length)(hall:al.length<=1000)(hz:∀e∈es,LM e)(hps:path.size<=1048576)(hp:Thk.path (ah path)=true):Calls prog 174 #[bU,av,.string path] w λe w'=>∃t,e=.returned (.string t)/\ah t=vX es al (ah path)/\Below w.heap.size w w':=by
 have Yk:Hid (0<es.length->∃b off cap,bU=.slice (some ⟨b,off,none⟩) es.length cap/\es.length<=cap/\∀wr,Below w.heap.size w wr->∀j(h:j<es.length),∃so sn sc,
   wr.cell? ⟨b,off+j*5,none⟩=some (.string es[j].p)/\wr.cell? ⟨b,off+j*5+1,none⟩=some (.int .u8 (es[j].a.toNat:Int))/\wr.cell? ⟨b,off+j*5+2,none⟩=some (.string es[j].v) /\
   wr.cell? ⟨b,off+j*5+3,none⟩=some (.int .i64 es[j].n)/\wr.cell? ⟨b,off+j*5+4,none⟩=some (.slice so sn sc)):=by
  intro hpos;rcases hev with⟨_,h2⟩|⟨b,off,cap,h1,h2,h3,h4⟩
  ·rw[h2]at hpos;simp at hpos
  ·refine⟨b,off,cap,h1,h2,λwr hbw j h=>?_⟩;obtain⟨sv,c0,c1,c2,c3,c4,c5⟩:=h4 j h;have hb':=hbw.mono hB;obtain⟨so,sc,rfl,_,_⟩:=c5.form;exact⟨so,_,sc,(hb'.cell (p:=⟨b,_,none⟩) h3).trans c0,(hb'.cell (p:=⟨b,_,none⟩) h3).trans c1,(hb'.cell (p:=⟨b,_,none⟩) h3).trans c2,(hb'.cell (p:=⟨b,_,none⟩) h3).trans c3,(hb'.cell (p:=⟨b,_,none⟩) h3).trans c4⟩
 have Hz:Hid (_):=hz;have Hp:Hid (_):=hp;have O4:Hid (_):=hal;obtain⟨ao,ac,rfl,hac,hcells⟩:=hav.form;have hlen:(rY al).length=al.length:=by simp[rY]
 rw[hlen]at hac⊢;have Hc:Hid (0<al.length->∃b off,ao=some ⟨b,off,none⟩/\∀(wr:World),Below w.heap.size w wr->∀j(h:j<al.length),wr.cell? ⟨b,off+j,none⟩=some (.int .i64 (al[j]))):=by intro hpos;obtain⟨b,off,h1,h2,h3⟩:=hcells (by omega);refine⟨b,off,h1,λwr hbw j h=>?_⟩;rw[hbw.cell (p:=⟨b,off+j,none⟩) h2,h3 j (by omega)];simp[rY]
 clear hev hz hp hal hav hcells hlen;go_enter func174,ntmps174;go_wp2_with fail;refine(EF path _ hps Hp.out).mono ?_;rintro e w1⟨rfl,hb1⟩;have O7:Hid (vX es al (ah path)=yj (Thk.kindOf (ah path)) (iL es (Thk.kindOf (ah path)) (ah path) al)):=rfl;generalize Thk.kindOf (ah path)=kd at *;go_wp2;go_loopw [7,8,9,11] (λl s m i wr=>∃(k:Nat)(sm:Int)(x:Bool),k<=al.length/\i=.int .i64 k/\s=.int .i64 sm/\m=.bool x/\O5 w.heap.size w es kd (ah path) al k l sm x wr) (λ_ _ _ i _=>al.length-(intOf i).toNat);case atStart=>exact⟨0,0,false,by omega,rfl,rfl,rfl,hb1,⟨[],Or.inl ⟨rfl,rfl⟩,rfl,by simp,by simp⟩,rfl,by simp,by simp,rfl⟩
 case round =>
  obtain⟨k,sm,x,hk,rfl,rfl,rfl,hI⟩:=hrel;have HI:Hid (_):=hI;clear hI;by_cases hlt:k<al.length
  ·obtain⟨ab,ac7,rfl,KE⟩:=Hc.out (by omega);have hca:=KE _ HI.out.below k hlt;have hj:al[k]<es.length:=O4.out _ (List.getElem_mem hlt);obtain⟨b,off,cap,rfl,hcap,Hcc⟩:=Yk.out (by omega);obtain⟨so,sn,sc,c0,c1,c2,c3,c4⟩:=Hcc _ HI.out.below al[k] hj;have hok:=Hz.out _ (List.getElem_mem hj);have hstep:Hid (_):=IJ es kd (ah path) al k hlt _ (List.getElem?_eq_getElem hj);clear KE Hcc;generalize al[k]=j at *;generalize es[j]=ej at *;go_wp2_with fail;refine(xX _ _ _ (by have:=hok.p;omega) hps).mono ?_;rintro e w2⟨rfl,rfl⟩;have hbw:=HI.out.below.alloc HI.out.below.size (.cells #[.string ej.p,.int .u8 (ej.a.toNat:Int),.string ej.v,.int .i64 ej.n,.slice so sn sc] 239);have HbL:Hid (Below w.heap.size w (wr.alloc (.cells #[.string ej.p,.int .u8 (ej.a.toNat:Int),.string ej.v,.int .i64 ej.n,.slice so sn sc] 239))):=hbw;clear hbw c0 c1 c2 c3 c4 hca;have ak2:=hok.p;have ak3:=hok.v;have hn1:=hok.n1;have hn2:=hok.n2;have hb1':=HI.out.b1;have hb2':=HI.out.b2;cases q3:(ej.p.toList==path.toList)
   ·cases q1:((kd.toNat:Int)==109)
    ·have Ad:Hid (iL es kd (ah path) (al.take (k+1))=iL es kd (ah path) (al.take k)):=by unfold Hid;rw[hstep.out];unfold oC;rw[q1,if_neg (by simp),if_neg (by rw[toList_eq,toList_eq]at q3;rw[show(ah ej.p==ah path)=false from q3];simp)]
     generalize Thk.begins ej.p.data.toList path.data.toList=bg;go_wp2;go_roundw;case rel=>exact⟨k+1,sm,x,by omega,by go_num,rfl,rfl,HI.out.next Ad.out HbL.out (Below.refl _ _ |>.alloc (Nat.le_refl _) _)⟩
     case measure=>simp[intOf];omega
    ·cases q2:Thk.begins ej.p.data.toList path.data.toList
     ·have Ad:Hid (iL es kd (ah path) (al.take (k+1))=iL es kd (ah path) (al.take k)):=by unfold Hid;rw[hstep.out];unfold oC;rw[q1,show Thk.begins (ah ej.p) (ah path)=false from q2,if_neg (by simp),if_neg (by rw[toList_eq,toList_eq]at q3;rw[show(ah ej.p==ah path)=false from q3];simp)]
      go_wp2;go_roundw;case rel=>exact⟨k+1,sm,x,by omega,by go_num,rfl,rfl,HI.out.next Ad.out HbL.out (Below.refl _ _ |>.alloc (Nat.le_refl _) _)⟩
      case measure=>simp[intOf];omega
     ·have hlt2:path.size<ej.p.size:=by rw[toList_eq,toList_eq]at q3;unfold Thk.begins at q2;rw[q3]at q2;simp only[Bool.false_or,Bool.and_eq_true,decide_eq_true_eq]at q2;have:=q2.1.1;simpa using this
      have Ad:Hid (iL es kd (ah path) (al.take (k+1))=⟨kH (iL es kd (ah path) (al.take k)).l ((Thk.split 47 ((ah ej.p).drop (path.size+1))).headD []),(iL es kd (ah path) (al.take k)).sum,(iL es kd (ah path) (al.take k)).some⟩):=by unfold Hid;rw[hstep.out];unfold oC;rw[q1,show Thk.begins (ah ej.p) (ah path)=true from q2,if_pos (by rw[toList_eq,toList_eq]at q3;rw[show(ah ej.p==ah path)=false from q3];rfl),aB]
      obtain⟨ss,hs1,hs2,hs3,hs4⟩:=HI.out.own;have Tt:Hid (dA wr.heap.size wr u7 (strs ss)):=hs1;have tH:Hid (_):=hs2;have Yn:Hid (_):=hs4;clear hs1 hs2 hs4 hstep hok;have Yo:Hid (Below wr.heap.size wr (wr.alloc (.cells #[.string ej.p,.int .u8 (ej.a.toNat:Int),.string ej.v,.int .i64 ej.n,.slice so sn sc] 239))):=(Below.refl _ _).alloc (Nat.le_refl _) _;go_wp2_with fail;refine(uS _ 47 _ (by simp[ByteArray.size_extract];omega)).mono ?_;rintro e w3⟨v3,ps,rfl,hown3,Tv,ak4,Yp,hb3⟩;have Hb4:Hid (Below wr.heap.size wr w3):=Yo.out.trans (hb3.mono (by simp));have ac8:Hid (_):=Tv;have hne:ps≠[]:=by intro h;rw[h]at Tv;exact Thk.ji _ _ Tv.symm
      have hpos:0<ps.length:=List.length_pos_iff.2 hne;have hzz:Hid (∀p∈ps,p.size<=1000):=λp hp=>by have:=Yp p hp;simp[ByteArray.size_extract]at this;omega
      rcases qK hown3 with⟨rfl,h2,h3⟩|⟨g,cp,rfl,hcp,hcm,hg,hgs,hxl,hcells⟩
      ·omega
      ·have hc0:=hcells 0 (by simpa[strs]using hpos);have he0:(strs ps)[0]'(by simpa[strs]using hpos)=.string (ps[0]'hpos):=by simp[strs]
       rw[he0]at hc0;have hq0:=hzz.out _ (List.getElem_mem hpos);have Hh:Hid ((Thk.split 47 ((ah ej.p).drop (path.size+1))).headD []=ah (ps[0]'hpos)):=by
        have e1:ah (ej.p.extract (path.size+1) ej.p.size)=(ah ej.p).drop (path.size+1):=by rw[eU,<- aB ej.p,List.take_length]
        unfold Hid;rw[<- e1,<- ac8.out];cases ps with
        | nil=>exact absurd rfl hne
        | cons a r=>rfl
       generalize ps[0]'hpos=q0 at *;clear hcells he0 hown3 Tv Yp hne hxl hb3;go_wp2_with fail;refine(EH wr.heap.size _ ss q0 _ (by omega) (Tt.out.below Hb4.out) Hb4.out.size).mono ?_;rintro e w5⟨v5,ss5,rfl,hown5,Tz,KF,hl5,hb5⟩;have xE:Below w.heap.size w w5:=(HI.out.below.trans (Hb4.out.mono HI.out.below.size)).trans (hb5.mono (Nat.le_trans HI.out.below.size Hb4.out.size));go_wp2;go_roundw;case rel =>
        refine⟨k+1,sm,x,by omega,by go_num,rfl,rfl,xE,⟨ss5,Ba hown5, ?_,by omega, ?_⟩, ?_,by omega,by omega, ?_⟩
        ·rw[Ad.out,Tz,tH.out,Hh.out]
        ·intro s hs;rcases KF s hs with h|h
         ·exact Yn.out s h
         ·rw[h];exact hq0
        ·rw[Ad.out];exact HI.out.hsum
        ·rw[Ad.out];exact HI.out.hsome
       case measure=>simp[intOf];omega
   ·have ac9:((kd.toNat:Int)==109&&Thk.begins ej.p.data.toList path.data.toList&&!(ej.p.toList==path.toList))=false:=by rw[q3];simp
    have Ad:Hid (iL es kd (ah path) (al.take (k+1))=⟨kH (iL es kd (ah path) (al.take k)).l (ah ej.v),(iL es kd (ah path) (al.take k)).sum+ej.n,true⟩):=by rw[toList_eq,toList_eq]at q3;unfold Hid;rw[hstep.out];unfold oC;rw[show(ah ej.p==ah path)=true from q3,if_neg (by simp),if_pos rfl]
    obtain⟨ss,hs1,hs2,hs3,hs4⟩:=HI.out.own;have Tt:Hid (dA wr.heap.size wr u7 (strs ss)):=hs1;have tH:Hid (_):=hs2;have Yn:Hid (_):=hs4;clear hs1 hs2 hs4 hstep hok ac9;have Yo:Hid (Below wr.heap.size wr (wr.alloc (.cells #[.string ej.p,.int .u8 (ej.a.toNat:Int),.string ej.v,.int .i64 ej.n,.slice so sn sc] 239))):=(Below.refl _ _).alloc (Nat.le_refl _) _;generalize Thk.begins ej.p.data.toList path.data.toList=bg;cases bg<;>cases q1:((kd.toNat:Int)==109)
    all_goals
     go_wp2_with fail;refine(EH wr.heap.size _ ss ej.v _ (by omega) (Tt.out.below Yo.out) Yo.out.size).mono ?_;rintro e w5⟨v5,ss5,rfl,hown5,Tz,KF,hl5,hb5⟩;have xE:Below w.heap.size w w5:=HbL.out.trans (hb5.mono (Nat.le_trans HI.out.below.size Yo.out.size));have hI5:O5 w.heap.size w es kd (ah path) al (k+1) v5 (sm+ej.n) true w5:=by
      refine⟨xE,⟨ss5,Ba hown5, ?_,by omega, ?_⟩, ?_,by omega,by omega, ?_⟩
      ·rw[Ad.out,Tz,tH.out]
      ·intro s hs;rcases KF s hs with h|h
       ·exact Yn.out s h
       ·rw[h];omega
      ·rw[Ad.out,HI.out.hsum]
      ·rw[Ad.out]
     have HI5:Hid (_):=hI5;clear hown5 Tz KF hb5 hI5 xE;go_wp2;go_roundw;case rel=>first|exact⟨k+1,sm+ej.n,true,by omega,by go_num,rfl,rfl,HI5.out⟩|((repeat apply Exists.intro);exact⟨⟨k+1,sm+ej.n,true,by omega,by go_num,rfl,rfl,HI5.out⟩,rfl⟩)
     case measure=>simp[intOf];omega
  ·have hke:k=al.length:=by omega
   subst hke;have Ad:Hid ((iL es kd (ah path) (al.take al.length))=iL es kd (ah path) al):=by unfold Hid;rw[List.take_length]
   by_cases O8:(kd.toNat:Int)=102
   ·have hd:((kd.toNat:Int)==102)=true:=by rw[O8];(first|done|rfl)
    cases x;all_goals
     go_wp2;go_ret;refine⟨_,rfl, ?_,HI.out.below⟩;rw[O7.out];unfold yj;rw[if_pos O8,<- Ad.out,<- HI.out.hsome];(first|done|rfl)
   ·have hd:((kd.toNat:Int)==102)=false:=by simpa using O8
    by_cases h99:(kd.toNat:Int)=99
    ·have hd2:((kd.toNat:Int)==99)=true:=by rw[h99];(first|done|rfl)
     go_wp2_with fail;refine(IE sm _ (by have:=HI.out.b1;have:=HI.out.b2;omega)).mono ?_;rintro e w3⟨t,rfl,ht,hts,hb3⟩;go_wp2;go_ret;refine⟨t,rfl, ?_,HI.out.below.trans (hb3.mono HI.out.below.size)⟩;rw[O7.out,ht];unfold yj;rw[if_neg O8,if_pos h99,<- Ad.out,<- HI.out.hsum]
    ·have hd2:((kd.toNat:Int)==99)=false:=by simpa using h99
     obtain⟨ss,hs1,hs2,hs3,hs4⟩:=HI.out.own;have Tt:Hid (dA wr.heap.size wr u7 (strs ss)):=hs1;have tH:Hid (_):=hs2;have Yn:Hid (_):=hs4;clear hs1 hs2 hs4;go_wp2_with fail;refine(IC _ _ ss _ (by omega) Yn.out Tt.out).mono ?_;rintro e w3⟨t,rfl,ht,hts,rfl⟩;go_wp2;go_ret;refine⟨t,rfl, ?_,HI.out.below⟩;rw[O7.out,ht];unfold yj;rw[if_neg O8,if_neg h99,<- Ad.out,<- tH.out];simp
structure ay(M:Nat->Prop)(w w':World):Prop where
 os:w'.os=w.os
 tape:w'.tape=w.tape
 output:w'.output=w.output
 size:w.heap.size<=w'.heap.size
 block:∀k,k<w.heap.size->¬M k->w'.heap[k]?=w.heap[k]?
theorem ay.refl(M:Nat->Prop)(w:World):ay M w w:=⟨rfl,rfl,rfl,Nat.le_refl _,λ_ _ _=>rfl⟩
theorem ay.trans{b:World}(h:ay M a b)(k:ay M b c):ay M a c :=
 ⟨k.os.trans h.os,k.tape.trans h.tape,k.output.trans h.output,Nat.le_trans h.size k.size,λi hi hm=>(k.block i (Nat.lt_of_lt_of_le hi h.size) hm).trans (h.block i hi hm)⟩
theorem ay.mono{N:Nat->Prop}{b:World}(h:ay M a b)(hN:∀k,k<a.heap.size->M k->N k):ay N a b:=⟨h.os,h.tape,h.output,h.size,λk hk hn=>h.block k hk λhm=>hn (hN k hk hm)⟩
theorem ay.of_below{b:World}(h:Below a.heap.size a b):ay M a b:=⟨h.os,h.tape,h.output,h.size,λk hk _=>h.block k hk⟩
theorem ay.setCell(h:ay M a w){p:Addr}(hp:M p.block)(u:Value):ay M a (w.setCell p u) :=
 ⟨h.os,h.tape,h.output,by simpa[World.setCell]using h.size,λk hk hm=>(Below.heap_setCell w p u k (λe=>hm (by rw[e];exact hp))).trans (h.block k hk hm)⟩
theorem ay.below{b:World}(h:ay M a b)(hb:Below b.heap.size b c):ay M a c:=h.trans (ay.of_below hb)
theorem ay.grown{b:World}{row:Option Nat}(h:ay M a b)(hg:b.grownBy c row)(hr:∀k,row=some k->M k\/a.heap.size<=k):ay M a c :=
 ⟨hg.os.trans h.os,hg.tape.trans h.tape,hg.output.trans h.output,Nat.le_trans h.size hg.size,λk hk hm=>(hg.block k (Nat.lt_of_lt_of_le hk h.size) (λe=>by rcases hr k e.symm with h1|h1;exact hm h1;omega)).trans (h.block k hk hm)⟩
def Tagged(w:World)(b:Nat)(t:TypeId):Prop:=∃cur,w.heap[b]?=some (.cells cur t (0,0))
theorem Tagged.lt(h:Tagged w b t):b<w.heap.size:=by
 obtain⟨cur,h⟩:=h;rcases Nat.lt_or_ge b w.heap.size with h1|h1
 ·exact h1
 ·rw[Array.getElem?_eq_none h1]at h;cases h
theorem Tagged.ne{c:Nat}{s:TypeId}(h:Tagged w b s)(k:Tagged w c t)(hst:s≠t):b≠c:=by rintro rfl;obtain⟨x,h⟩:=h;obtain⟨y,k⟩:=k;rw[h]at k;cases k;exact hst rfl
theorem Tagged.aJ(h:Tagged w b t)(hc:ay M w w')(hm:¬M b):Tagged w' b t:=by obtain⟨x,hx⟩:=h;exact⟨x,(hc.block b (Tagged.lt ⟨x,hx⟩) hm).trans hx⟩
theorem Tagged.frozen(h:Tagged w b t)(j:Nat):w.frozen? ⟨b,j,none⟩=false:=by obtain⟨x,hx⟩:=h;simp[World.frozen?,hx]
theorem Tagged.setCell(h:Tagged w b t)(p:Addr)(u:Value):Tagged (w.setCell p u) b t:=by
 obtain⟨x,hx⟩:=h;by_cases e:b=p.block
 ·subst e;simp only[Tagged,World.setCell,Array.getElem?_modify,hx];simp
 ·exact⟨x,by rw[Below.heap_setCell _ _ _ _ e];exact hx⟩
theorem Tagged.below(h:Tagged w b t)(hb:Below w.heap.size w w'):Tagged w' b t:=by obtain⟨x,hx⟩:=h;exact⟨x,(hb.block b (Tagged.lt ⟨x,hx⟩)).trans hx⟩
def aF(t:TypeId)(w:World)(v:Value)(xs:List Value):Prop :=
 (v=.slice none 0 0/\xs=[]) \/
  ∃b off cap,v=.slice (some ⟨b,off,none⟩) xs.length cap/\xs.length<=cap/\Tagged w b t/\∀j(h:j<xs.length),w.cell? ⟨b,off+j,none⟩=some xs[j]
theorem aF.CY(h:aF t w v xs):dA w.heap.size w v xs:=by
 rcases h with h|⟨b,off,cap,h1,h2,h3,h4⟩
 ·exact Or.inl h
 ·exact Or.inr ⟨b,off,cap,h1,h2,h3.lt,h4⟩
theorem aF.aJ(h:aF t w v xs)(hc:ay M w w')(hm:∀b,Tagged w b t->¬M b):aF t w' v xs:=by
 rcases h with h|⟨b,off,cap,h1,h2,h3,h4⟩
 ·exact Or.inl h
 ·exact Or.inr ⟨b,off,cap,h1,h2,h3.aJ hc (hm b h3),λj hj=>(World.cell?_of_block (w:=w) (hc.block b h3.lt (hm b h3))).trans (h4 j hj)⟩
theorem aF.shape(h:aF t w v xs):∃ao cap,v=.slice ao xs.length cap/\xs.length<=cap:=by
 rcases h with⟨rfl,rfl⟩|⟨b,off,cap,h1,h2,h3,h4⟩
 ·exact⟨none,0,rfl,Nat.le_refl _⟩
 ·exact⟨_,cap,h1,h2⟩
theorem jG{e:TypeId}{n:Nat}(h:w.ownsRow B e 1 v n xs):aF e w v xs:=by
 have h0:=h;obtain⟨hl,h|⟨g,cap,cur,rfl,hg,hh,hc,hm,hs,hx⟩⟩:=h
 ·exact Or.inl ⟨h.1,List.eq_nil_of_length_eq_zero (by rw[hl,h.2])⟩
 ·refine Or.inr ⟨g,0,cap,by rw[hl,Nat.mul_one],by omega,⟨cur,hh⟩,λj hj=>?_⟩;rw[Nat.zero_add,h0.cellAt j (by omega),List.getElem?_eq_getElem hj]
theorem bQ{o:Nat}{u:Value}(h:w.cell? ⟨b,o,none⟩=some u):(w.setCell ⟨b,o,none⟩ v).cell? ⟨b,o,none⟩=some v:=by apply World.cell?_setCell_same';rw[h];(first|done|rfl)
theorem aK{o b' o':Nat}(h:b≠b'\/o≠o'):(w.setCell ⟨b,o,none⟩ v).cell? ⟨b',o',none⟩=w.cell? ⟨b',o',none⟩:=by apply World.cell?_setCell_other;intro e;cases e;rcases h with h|h<;>exact h rfl
theorem aZ{e:TypeId}{n size:Nat}(h:w.ownsRow B e size v n xs)(hc:ay M w w')(hm:∀g,v.ownBlock=some g->¬M g):w'.ownsRow B e size v n xs:=by
 have h0:=h;obtain⟨hx,h1|⟨g,cap,cur,rfl,hg,hh,r⟩⟩:=h
 ·exact⟨hx,Or.inl h1⟩
 ·exact⟨hx,Or.inr ⟨g,cap,cur,rfl,hg,(hc.block g (h0.lt g rfl).2 (hm g rfl)).trans hh,r⟩⟩
def fC(es:List Ev)(jH:List Value):List Value:=(es.zip jH).flatMap λ(e,sv)=>[.string e.p,.int .u8 (e.a.toNat:Int),.string e.v,.int .i64 e.n,sv]
def ints(l:List Int):List Value:=l.map (Value.int .i64)
structure TA(w:World)(rb off:Nat):Prop where
 c2:w.cell? ⟨rb,off+2,none⟩=some (.slice none 0 0)
 c3:w.cell? ⟨rb,off+3,none⟩=some (.slice none 0 0)
 c4:w.cell? ⟨rb,off+4,none⟩=some (.bool false)
 c5:w.cell? ⟨rb,off+5,none⟩=some (.int .i64 0)
 c6:w.cell? ⟨rb,off+6,none⟩=some (.int .i64 0)
 c8:w.cell? ⟨rb,off+8,none⟩=some (.int .i64 0)
theorem TA.of{off:Nat}(h:TA w rb off)(hc:∀i,i=2\/i=3\/i=4\/i=5\/i=6\/i=8->w'.cell? ⟨rb,off+i,none⟩=w.cell? ⟨rb,off+i,none⟩):TA w' rb off :=
 ⟨(hc 2 (by simp)).trans h.c2,(hc 3 (by simp)).trans h.c3,(hc 4 (by simp)).trans h.c4,(hc 5 (by simp)).trans h.c5,(hc 6 (by simp)).trans h.c6,(hc 8 (by simp)).trans h.c8⟩
structure oV(w:World)(rb off:Nat)(known:List Bool)(most:Nat):Prop where
 c0:∃kv,w.cell? ⟨rb,off,none⟩=some kv/\aF 4 w kv (bools known)
 c1:w.cell? ⟨rb,off+1,none⟩=some (.bool false)
 c7:w.cell? ⟨rb,off+7,none⟩=some (.bool false)
 c9:∃m:Nat,w.cell? ⟨rb,off+9,none⟩=some (.int .i64 m)/\m<=most
 c10:∃kp kl,w.cell? ⟨rb,off+10,none⟩=some kp/\aF 3 w kp (ints kl)/\kl.length<=50
 c12:∃m:Nat,w.cell? ⟨rb,off+12,none⟩=some (.int .i64 m)/\m<=most
 z:TA w rb off
structure bC(w:World)(c rb:Nat)(bU fv:Value)(av:Nat->Value)(room:Nat)(es:List Ev)(acc most:Nat)(au:List (List Bool)):Prop where
 tc:Tagged w c 170
 ng:Tagged w rb 165
 nC:room<=50
 n6:au.length<=6
 nD:es.length<=500
 f0:w.cell? ⟨c,0,none⟩=some (.int .i64 room)
 f1:∃cap,w.cell? ⟨c,1,none⟩=some (.slice (some ⟨rb,0,none⟩) au.length cap)/\au.length<=cap
 f2:w.cell? ⟨c,2,none⟩=some bU
 f3:w.cell? ⟨c,3,none⟩=some (.int .i64 acc)
 LP:acc<=500
 LQ:most<=1000
 evs:∃jH:List Value,jH.length=es.length/\w.ownsRow 0 239 5 bU es.length (fC es jH)/\∀j(h:j<jH.length)(h':j<es.length),aF 4 w jH[j] (bools es[j].xC)
 ok:∀e∈es,LM e
 oW:∀i(h:i<au.length),oV w rb (i*13) au[i] most
 kn:∀k∈au,k.length<=es.length
 f4:w.cell? ⟨c,4,none⟩=some fv
 a11:∀i,i<au.length->w.cell? ⟨rb,i*13+11,none⟩=some (av i)
def aH(w w':World):Prop:=∀(b:Nat)(cur:Array Value),w.heap[b]?=some (.cells cur 3 (0,0))->∃cur':Array Value,w'.heap[b]?=some (.cells cur' 3 (0,0))/\∀(j:Nat)(m:Int),cur[j]?=some (.int .i64 m)->∃m':Int,cur'[j]?=some (.int .i64 m')
theorem aH.jI(hc:ay M w w')(h:∀b,Tagged w b 3->¬M b):aH w w':=λb cur hb=>⟨cur,(hc.block b (Tagged.lt ⟨cur,hb⟩) (h b ⟨cur,hb⟩)).trans hb,λj m hm=>⟨m,hm⟩⟩
theorem aH.of_below(hb:Below w.heap.size w w'):aH w w':=aH.jI (M:=λ_=>False) (ay.of_below hb) (λ_ _ h=>h)
theorem aH.trans{b:World}(h:aH a b)(k:aH b c):aH a c:=λx cur hx=>by obtain⟨cur',h1,h2⟩:=h x cur hx;obtain⟨Yq,h3,h4⟩:=k x cur' h1;exact⟨Yq,h3,λj m hm=>by obtain⟨m',hm'⟩:=h2 j m hm;exact h4 j m' hm'⟩
theorem aH.set(w:World)(b o:Nat)(m:Int):aH w (w.setCell ⟨b,o,none⟩ (.int .i64 m)):=λx cur hx=>by
 by_cases e:x=b
 ·subst e;refine⟨cur.setIfInBounds o (.int .i64 m), ?_,λj k hk=>?_⟩
  ·simp[World.setCell,Array.getElem?_modify,hx]
  ·rw[Array.getElem?_setIfInBounds];split
   ·rename_i e2;subst e2;have:o<cur.size:=by
     rcases Nat.lt_or_ge o cur.size with h|h
     ·exact h
     ·rw[Array.getElem?_eq_none h]at hk;cases hk
    rw[if_pos this];exact⟨m,rfl⟩
   ·exact⟨k,hk⟩
 ·exact⟨cur,(Below.heap_setCell _ _ _ _ e).trans hx,λj k hk=>⟨k,hk⟩⟩
theorem aF.numbers{kl:List Int}(h:aF 3 w v (ints kl))(hk:aH w w'):∃kl':List Int,kl'.length=kl.length/\aF 3 w' v (ints kl'):=by
 rcases h with⟨h1,h2⟩|⟨b,off,cap,h1,h2,⟨cur,h3⟩,h4⟩
 ·exact⟨kl,rfl,Or.inl ⟨h1,h2⟩⟩
 ·obtain⟨cur',h5,h6⟩:=hk b cur h3;have hl:(ints kl).length=kl.length:=by simp[ints]
  have hc:∀j,j<kl.length->∃m,w'.cell? ⟨b,off+j,none⟩=some (.int .i64 m):=λj hj=>by
   have:=h4 j (by omega);simp only[World.cell?,h3]at this;have e:(ints kl)[j]'(by omega)=.int .i64 kl[j]:=by simp[ints]
   rw[e]at this;obtain⟨m,hm⟩:=h6 _ _ this;exact⟨m,by simp only[World.cell?,h5];exact hm⟩
  refine⟨(List.range kl.length).map (λj=>if h:j<kl.length then(hc j h).choose else 0),by simp,Or.inr ⟨b,off,cap, ?_, ?_,⟨cur',h5⟩,λj hj=>?_⟩⟩
  ·rw[h1,hl];simp[ints]
  ·rw[hl]at h2;simpa[ints]using h2
  ·have hj':j<kl.length:=by simpa[ints]using hj
   rw[(hc j hj').choose_spec];simp[ints,hj']
theorem aF.below(h:aF t w v xs)(hb:Below w.heap.size w w'):aF t w' v xs:=h.aJ (M:=λ_=>False) (ay.of_below hb) (λ_ _ h=>h)
theorem oV.below{off:Nat}{known:List Bool}{most:Nat}(h:oV w rb off known most)(hb:Below w.heap.size w w')(hr:rb<w.heap.size):oV w' rb off known most:=by obtain⟨⟨kv,a0,b0⟩,a1,a7,⟨m9,a9,b9⟩,⟨kp,kl,a10,b10,d10⟩,⟨m12,a12,b12⟩,hz⟩:=h;have hc:∀o,w'.cell? ⟨rb,o,none⟩=w.cell? ⟨rb,o,none⟩:=λo=>hb.cell (p:=⟨rb,o,none⟩) hr;exact⟨⟨kv,(hc _).trans a0,b0.below hb⟩,(hc _).trans a1,(hc _).trans a7,⟨m9,(hc _).trans a9,b9⟩,⟨kp,kl,(hc _).trans a10,b10.below hb,d10⟩,⟨m12,(hc _).trans a12,b12⟩,hz.of (λi _=>hc _)⟩
theorem bC.below{c:Nat}{bU fv:Value}{av:Nat->Value}{room:Nat}{es:List Ev}{acc most:Nat}{au:List (List Bool)}(h:bC w c rb bU fv av room es acc most au)(hb:Below w.heap.size w w'):bC w' c rb bU fv av room es acc most au:=by have hc:∀o,w'.cell? ⟨c,o,none⟩=w.cell? ⟨c,o,none⟩:=λo=>hb.cell (p:=⟨c,o,none⟩) h.tc.lt;obtain⟨cap,f1,hcap⟩:=h.f1;obtain⟨jH,e1,e2,e3⟩:=h.evs;exact⟨h.tc.below hb,h.ng.below hb,h.nC,h.n6,h.nD,(hc 0).trans h.f0,⟨cap,(hc 1).trans f1,hcap⟩,(hc 2).trans h.f2,(hc 3).trans h.f3,h.LP,h.LQ,⟨jH,e1,own_below e2 hb,λj h1 h2=>(e3 j h1 h2).below hb⟩,h.ok,λi hi=>(h.oW i hi).below hb h.ng.lt,h.kn,(hc 4).trans h.f4,λi hi=>(hb.cell (p:=⟨rb,i*13+11,none⟩) h.ng.lt).trans (h.a11 i hi)⟩
theorem nG(w:World)(c rb:Nat)(bU fv:Value)(av:Nat->Value)(room:Nat)(es:List Ev)(acc most:Nat)(au:List (List Bool))(h:bC w c rb bU fv av room es acc most au)(i:Int):Calls prog 109 #[.pointer (some ⟨c,0,none⟩),.int .i64 i] w λe w'=>e=.returned (.int .i64 (if 0<=i/\i<au.length then 0 else 2))/\w'=w:=by
 obtain⟨cap,f1,hcap⟩:=h.f1;have h6:=h.n6;by_cases h0:i<0
 ·rw[if_neg (by omega)];go_enter func109,ntmps109;go_wp2;go_ret;exact⟨rfl,rfl⟩
 ·obtain⟨k,rfl⟩:=Int.eq_ofNat_of_zero_le (show 0<=i by omega);by_cases h1:k<au.length
  ·have hd:=(h.oW k h1).c1;rw[if_pos (by omega)];go_enter func109,ntmps109;go_wp2;go_ret;exact⟨rfl,rfl⟩
  ·rw[if_neg (by omega)];go_enter func109,ntmps109;go_wp2;go_ret;exact⟨rfl,rfl⟩
end Go.Proofs.YtfmmllpjgkgeaaaGreatDoor
namespace Go.Proofs.YtfmmllpjgkgeaaaGreatDoor
open Go.Proofs.Tryz
structure oZ where
 src:Nat
 dst:Nat
 ack:Nat
 known:List Bool
 bytes:ByteArray
def bY(a b:List Bool):List Bool:=(List.range (max a.length b.length)).map λk=>a.getD k false||b.getD k false
theorem iQ{known:List Bool}{j:Nat}(hj:known.length<=j):known.getD j false=false:=by rw[List.getD_eq_getElem?_getD,List.getElem?_eq_none hj];(first|done|rfl)
theorem dZ(a b:List Bool)(i:Nat):(bY a b).getD i false=(a.getD i false||b.getD i false):=by
 unfold bY;by_cases h:i<max a.length b.length
 ·rw[List.getD_eq_getElem?_getD,List.getElem?_map,List.getElem?_range h];rfl
 ·rw[iQ (by simp;omega),iQ (known:=a) (by omega),iQ (known:=b) (by omega)];(first|done|rfl)
theorem jJ(a b:List Bool):(bY a b).length=max a.length b.length:=by unfold bY;simp
end Go.Proofs.YtfmmllpjgkgeaaaGreatDoor
namespace Go.Proofs.YtfmmllpjgkgeaaaGreatDoor.Thk
open Go.Proofs.Tryz
def fits(k a:UInt8):Bool :=
 if k.toNat=115 then a.toNat==43||a.toNat==45||a.toNat==33
 else if k.toNat=102 then a.toNat==94||a.toNat==95||a.toNat==33
 else if k.toNat=114 then a.toNat==61||a.toNat==33
 else if k.toNat=99 then a.toNat==62||a.toNat==33
 else a.toNat==33
structure Ch where
 path:Bs
 act:UInt8
 val:Bs
 n:Int
def operand(p:Bs)(a:UInt8)(v:Bs):Nat ⊕ Ch :=
 if a.toNat=43\/a.toNat=45\/a.toNat=61 then(if val v then .inr ⟨p,a,v,0⟩else .inl 5)
 else if a.toNat=62 then(match num v with|some n=>.inr ⟨p,a,v,n⟩|none=>.inl 5)
 else if v=[]then .inr ⟨p,a,v,0⟩else .inl 5
def iq(l:Bs)(k:Nat):Nat ⊕ Ch :=
 if path (l.take k)=false then .inl 4
 else if fits (kindOf (l.take k)) (l.getD k 0)=false then .inl 6
 else operand (l.take k) (l.getD k 0) (l.drop (k+1))
def read(l:Bs):Nat ⊕ Ch:=if l.findIdx dG=l.length then .inl 4 else iq l (l.findIdx dG)
theorem LU(l:Bs)(h:∀j(hj:j<l.length),dG l[j]=false):read l=.inl 4:=by have:l.findIdx dG=l.length:=List.findIdx_eq_length.2 (λx hx=>by obtain⟨i,hi,rfl⟩:=List.getElem_of_mem hx;exact h i hi);unfold read;rw[if_pos this]
theorem LV(l:Bs)(k:Nat)(hk:k<l.length)(h:∀j(hj:j<l.length),j<k->dG l[j]=false)(ha:dG l[k]=true):read l=iq l k:=by
 have:l.findIdx dG=k:=by rw[List.findIdx_eq hk];exact⟨ha,λj hj=>h j (by omega) hj⟩
 unfold read;rw[this,if_neg (by omega)]
end Go.Proofs.YtfmmllpjgkgeaaaGreatDoor.Thk
namespace Go.Proofs.YtfmmllpjgkgeaaaGreatDoor.Thk
open Go.Proofs.Tryz
theorem tJ(c:UInt8):∀(l cur:Bs),((bH c cur l).map List.length).sum+(bH c cur l).length=cur.length+l.length+1:=by
 intro l;induction l with
 | nil=>intro cur;simp[bH]
 | cons x r ih =>
  intro cur;unfold bH;split
  ·have:=ih [];simp at this⊢;omega
  ·have:=ih (cur++[x]);simp at this⊢;omega
theorem VN(l:List Nat)(b:Nat)(h:∀x∈l,x<=b):l.sum<=b*l.length:=by
 induction l with
 | nil=>simp
 | cons a r ih =>have h1:=h a (by simp);have h2:=ih (λx hx=>h x (by simp[hx]));simp only[List.sum_cons,List.length_cons,Nat.mul_succ];omega
theorem O9(l:Bs)(h:path l=true):l.length<=17:=by
 unfold path kG at h;simp only[Bool.and_eq_true,decide_eq_true_eq]at h;have h3:=h.1.1;have h5:∀x∈(split 47 l).map List.length,x<=5:=by intro x hx;obtain⟨y,hy,rfl⟩:=List.mem_map.1 hx;have:=List.all_eq_true.1 h.1.2 y hy;unfold seg at this;simp at this;omega
 have hs:=VN _ 5 h5;have hl:=tJ 47 l [];rw[List.length_map]at hs;unfold split at *;simp at hl;omega
theorem Bf(neg:Bool)(l:Bs)(n:Int)(h:eY neg l=some n):l.length<=10/\n<=1000000000/\-1000000000<=n:=by
 unfold eY at h;by_cases hb:jk neg l
 ·rw[if_pos hb]at h;cases h
 ·rw[if_neg hb]at h;unfold jk at hb;simp only[Bool.or_eq_true,not_or,decide_eq_true_eq]at hb;by_cases hc:(l.all cO&&decide (dY l<=1000000000))=true
  ·rw[if_pos hc]at h;simp only[Bool.and_eq_true,decide_eq_true_eq]at hc;cases h
   refine⟨by omega, ?_, ?_⟩<;>(cases neg<;>simp<;>omega)
  ·rw[if_neg hc]at h;cases h
theorem VO(l:Bs)(n:Int)(h:num l=some n):l.length<=11/\n<=1000000000/\-1000000000<=n:=by
 unfold num at h;by_cases hc:l.head? = some 45
 ·rw[if_pos hc]at h;have:=Bf _ _ _ h;simp at this;omega
 ·rw[if_neg hc]at h;have:=Bf _ _ _ h;omega
theorem xG(l:Bs)(c:Ch)(h:read l=.inr c):c.path.length<=17/\c.val.length<=11/\c.n<=1000000000/\-1000000000<=c.n/\path c.path=true:=by
 unfold read at h;by_cases h1:l.findIdx dG=l.length
 ·rw[if_pos h1]at h;cases h
 ·rw[if_neg h1]at h;unfold iq at h;by_cases h2:path (l.take (l.findIdx dG))=false
  ·rw[if_pos h2]at h;cases h
  ·rw[if_neg h2]at h;have h2':path (l.take (l.findIdx dG))=true:=by simpa using h2
   by_cases h3:fits (kindOf (l.take (l.findIdx dG))) (l.getD (l.findIdx dG) 0)=false
   ·rw[if_pos h3]at h;cases h
   ·rw[if_neg h3]at h;have hp:=O9 _ h2';generalize l.take (l.findIdx dG)=p at *;generalize l.drop (l.findIdx dG+1)=v at *;generalize l.getD (l.findIdx dG) 0=a at *;unfold operand at h;split at h
    ·split at h
     ·rename_i hv;cases h
      unfold val at hv;simp at hv;exact⟨hp,by simp;omega,by simp,by simp,h2'⟩
     ·cases h
    ·split at h
     ·split at h
      ·rename_i n hn;cases h
       have:=VO _ _ hn;exact⟨hp,by simp;omega,by simp;omega,by simp;omega,h2'⟩
      ·cases h
     ·split at h
      ·rename_i hv;cases h
       exact⟨hp,by simp[hv],by simp,by simp,h2'⟩
      ·cases h
theorem EK(l:Bs)(m:Nat)(h:read l=.inl m):0<m/\m<=6:=by
 unfold read iq operand at h
 repeat' split at h
 all_goals first|(cases h;omega)|(cases h;done)
end Go.Proofs.YtfmmllpjgkgeaaaGreatDoor.Thk
namespace Go.Proofs.YtfmmllpjgkgeaaaGreatDoor
open Go.Proofs.Tryz Go.RowKit
variable{cs:Array Value}{neg:Bool}{b k:Nat}{t:TypeId}{w w':World}
theorem wrap_in(n:Int)(h0:-9223372036854775808<=n)(h1:n<=9223372036854775807):IntKind.i64.wrap n=n:=by unfold IntKind.wrap;simp[IntKind.bits,IntKind.signed];omega
def aA(w:World)(b:Nat)(cs:Array Value)(t:TypeId):Prop:=w.heap[b]?=some (.cells cs t (0,0))
theorem aA.cell(h:aA w b cs t)(j:Nat):w.cell? ⟨b,j,none⟩=cs[j]?:=by simp[World.cell?,show w.heap[b]?=_ from h]
theorem aA.frozen(h:aA w b cs t)(j:Nat):w.frozen? ⟨b,j,none⟩=false:=by simp[World.frozen?,show w.heap[b]?=_ from h]
theorem aA.lt(h:aA w b cs t):b<w.heap.size:=(Array.getElem?_eq_some_iff.1 h).1
theorem aA.aJ{M:Nat->Prop}(h:aA w b cs t)(hc:ay M w w')(hm:¬M b):aA w' b cs t:=(hc.block b h.lt hm).trans h
theorem aA.below(h:aA w b cs t)(hb:Below w.heap.size w w'):aA w' b cs t:=(hb.block b h.lt).trans h
theorem aA.alloc(h:aA w b cs t)(o:Obj):aA (w.alloc o) b cs t:=h.below ((Below.refl _ w).alloc (Nat.le_refl _) o)
theorem aA.grown(h:aA w b cs t)(hg:w.grownBy w' (some k))(hm:b≠k):aA w' b cs t:=(hg.block b h.lt (λe=>hm (by cases e;rfl))).trans h
theorem aA.new(w:World)(cs:Array Value)(t:TypeId):aA (w.alloc (.cells cs t)) w.heap.size cs t:=heap_alloc_new w _
structure Glob(w:World):Prop where
 len:∃m,w.cell? ⟨0,0,none⟩=some (.int .i64 m)
 syn:∃ev,w.cell? ⟨1,0,none⟩=some ev/\(ev=.nilIface\/∃te pe,ev=.iface te pe)
 rng:∃ev,w.cell? ⟨2,0,none⟩=some ev/\(ev=.nilIface\/∃te pe,ev=.iface te pe)
 tab:Lib.TabIs prog w "internal/strconv.uint64pow10" .u64 Lib.pow10Tab
 size:3<w.heap.size
theorem Glob.mono(h:Glob w)(hb:Below w.heap.size w w'):Glob w':=by obtain⟨⟨m,h1⟩,⟨e1,h2,h2'⟩,⟨e2,h3,h3'⟩,h4,h5⟩:=h;refine⟨⟨m,(hb.cell (p:=⟨0,0,none⟩) (block_lt_of_cell h1)).trans h1⟩,⟨e1,(hb.cell (p:=⟨1,0,none⟩) (block_lt_of_cell h2)).trans h2,h2'⟩,⟨e2,(hb.cell (p:=⟨2,0,none⟩) (block_lt_of_cell h3)).trans h3,h3'⟩, ?_,Nat.lt_of_lt_of_le h5 hb.size⟩;exact var?_below (g:=3) hb (by kernel_rfl) h5 h4
def jg(es:List Ev)(au:List (List Bool))(i:Int)(path:Thk.Bs):Thk.Bs×Int :=
 if 0<=i/\i<au.length then(if Thk.path path then(vX es (aX es (au.getD i.toNat []) es.length) path,0) else([],4)) else([],2)
def dN(known:List Bool)(n:Nat):List Bool:=known++List.replicate (n-known.length) false++[true]
theorem iT(known:List Bool)(n:Nat)(h:known.length<=n):(dN known n).length=n+1:=by unfold dN;simp;omega
def fE(es:List Ev)(au:List (List Bool))(i:Int)(s:Thk.Bs)(r:Int)(es':List Ev)(lM:List (List Bool)):Prop :=
 (¬(0<=i/\i<au.length)/\r=2/\es'=es/\lM=au) \/
 (∃k:Nat,(0<=i/\i<au.length)/\Thk.read s=.inl k/\r=(k:Int)/\es'=es/\lM=au) \/
 (∃c:Thk.Ch,(0<=i/\i<au.length)/\Thk.read s=.inr c/\500<=es.length/\r=7/\es'=es/\lM=au) \/
 ∃(c:Thk.Ch)(e:Ev),(0<=i/\i<au.length)/\Thk.read s=.inr c/\es.length<500/\ah e.p=c.path/\e.a=c.act/\ah e.v=c.val/\e.n=c.n/\e.xC=au.getD i.toNat [] /\
  r=0/\es'=es++[e]/\lM=au.set i.toNat (dN (au.getD i.toNat []) es.length)
section
variable{es:List Ev}{au:List (List Bool)}{i:Int}{s:Thk.Bs}
theorem fE.rep(h:¬(0<=i/\i<au.length)):fE es au i s 2 es au:=Or.inl ⟨h,rfl,rfl,rfl⟩
theorem fE.bad(k:Nat)(h:0<=i/\i<au.length)(hr:Thk.read s=.inl k):fE es au i s k es au:=Or.inr (Or.inl ⟨k,h,hr,rfl,rfl,rfl⟩)
theorem fE.full(c:Thk.Ch)(h:0<=i/\i<au.length)(hr:Thk.read s=.inr c)(hl:500<=es.length):fE es au i s 7 es au:=Or.inr (Or.inr (Or.inl ⟨c,h,hr,hl,rfl,rfl,rfl⟩))
theorem fE.done(c:Thk.Ch)(e:Ev)(h:0<=i/\i<au.length)(hr:Thk.read s=.inr c)(hl:es.length<500)(h1:ah e.p=c.path)(h2:e.a=c.act)(h3:ah e.v=c.val)(h4:e.n=c.n)(h5:e.xC=au.getD i.toNat []):fE es au i s 0 (es++[e]) (au.set i.toNat (dN (au.getD i.toNat []) es.length)):=Or.inr (Or.inr (Or.inr ⟨c,e,h,hr,hl,h1,h2,h3,h4,h5,rfl,rfl,rfl⟩))
end
theorem EL{l:List Bool}{r:List Bool}(i:Nat)(h:i<l.length):(l++r).getD i false=l.getD i false:=by rw[List.getD_eq_getElem?_getD,List.getD_eq_getElem?_getD,List.getElem?_append_left h]
theorem vY(known:List Bool)(n:Nat)(h:known.length<=n)(i:Nat):(dN known n).getD i false=(known.getD i false||decide (i=n)):=by
 unfold dN;have hz:∀j,known.length<=j->known.getD j false=false:=λj hj=>by rw[List.getD_eq_getElem?_getD,List.getElem?_eq_none hj];(first|done|rfl)
 by_cases h1:i<known.length
 ·rw[List.append_assoc,EL i h1];have:¬i=n:=by omega
  simp[this]
 ·rw[hz i (by omega)];by_cases h2:i<n
  ·rw[EL i (by simp;omega),List.getD_eq_getElem?_getD,List.getElem?_append_right (by omega),List.getElem?_replicate,if_pos (by omega)];have:¬i=n:=by omega
   simp[this]
  ·by_cases h3:i=n
   ·subst h3;rw[List.getD_eq_getElem?_getD,List.getElem?_append_right (by simp;omega)];have:i-(known++List.replicate (i-known.length) false).length=0:=by simp;omega
    rw[this];simp
   ·rw[List.getD_eq_getElem?_getD,List.getElem?_eq_none (by simp;omega)];simp[h3]
theorem Pg(known:List Bool)(n:Nat):cnt (dN known n)=cnt known+1:=by
 unfold cnt dN;rw[List.filter_append,List.filter_append,List.length_append,List.length_append];have:(List.replicate (n-known.length) false).filter id=[]:=by rw[List.filter_eq_nil_iff];intro a ha;simp[List.eq_of_mem_replicate ha]
 rw[this];(first|done|rfl)
theorem qL:∀(l:List Bool)(N:Nat),l.length<=N->((List.range N).filter (λk=>l.getD k false)).length=cnt l
 | [],N,_=>by simp[cnt]
 | b::l,0,h=>by simp at h
 | b::l,N+1,h=>by
  have ih:=qL l N (by simpa using h);rw[List.range_succ_eq_map,List.filter_cons,List.filter_map];have e:((λk=>(b::l).getD k false) ∘ Nat.succ)=λk=>l.getD k false:=by funext k;simp
  rw[e];unfold cnt at ih⊢;cases b<;>simpa using ih
def jc(kn:List (List Bool))(i:Int):Int×Int:=if 0<=i/\i<kn.length then((cnt (kn.getD i.toNat []):Int),0) else(0,2)
structure St where
 es:List Ev
 kn:List (List Bool)
 fs:List oZ
def dH(s:St)(i j:Int):Int×Int :=
 if(0<=i/\i<s.kn.length)/\(0<=j/\j<s.kn.length) then(if i=j then(0,1)else if 500<=s.fs.length then(0,7) else((s.fs.length:Int)+1,0)) else(0,2)
def sD(s:St)(i j:Int)(s':St):Prop:=s'.es=s.es/\s'.kn=s.kn/\(if(dH s i j).2=0 then ∃b,s'.fs=s.fs++[⟨i.toNat,j.toNat,0,s.kn.getD i.toNat [],b⟩]else s'.fs=s.fs)
def kD(s:St)(f:Int):Option oZ:=if 1<=f/\f<=s.fs.length then s.fs[f.toNat-1]? else none
def iw(s:St)(f:Int):Int×Int :=
 match kD s f with
 | none=>(0,9)
 | some g=>if 0<g.ack then(0,0)else if 500<=s.fs.length then(0,7) else((s.fs.length:Int)+1,0)
def l7(a b:List Bool):List Bool:=if cnt a<cnt (bY a b)then bY a b else a
def rM(s:St)(f:Int)(s':St):Prop :=
 s'.es=s.es /\
 match kD s f with
 | none=>s'.kn=s.kn/\s'.fs=s.fs
 | some g=>if 0<g.ack\/500<=s.fs.length then s'.kn=s.kn/\s'.fs=s.fs else s'.kn=s.kn.set g.dst (l7 (s.kn.getD g.dst []) g.known)/\∃b,s'.fs=s.fs++[⟨g.dst,g.src,f.toNat,[],b⟩]
def kE(s:St)(f:Int):ByteArray×Int :=
 match kD s f with
 | none=>(⟨#[]⟩,9)
 | some g=>(g.bytes,0)
abbrev wS:Type:=World->Nat->(Nat->Prop)->St->Prop
structure fF(F:wS)(R:Nat->Prop:=λ_=>True):Prop where
 bad:∀w(r room:Int),Glob w->(r<1\/6<r\/room<0\/50<room) ->
  Calls prog 40 #[.int .i64 r,.int .i64 room] w λe w'=>e=.returned (.tuple #[.pointer none,.int .i64 1])/\Below w.heap.size w w'
 good:∀w(r room:Nat),Glob w->1<=r->r<=6->room<=50->R room ->
  Calls prog 40 #[.int .i64 r,.int .i64 room] w λe w'=>∃x S,e=.returned (.tuple #[.pointer (some ⟨x,0,none⟩),.int .i64 0])/\F w' x S ⟨[],List.replicate r [],[]⟩/\(∀k,S k->w.heap.size<=k)/\Below w.heap.size w w'
 does:∀w x S s i t r es' lM,Glob w->F w x S s->t.size<=1048576->fE s.es s.kn i (ah t) r es' lM ->
  Calls prog 23 #[.pointer (some ⟨x,0,none⟩),.int .i64 i,.string t] w λe w'=>e=.returned (.int .i64 r)/\∃S',F w' x S' ⟨es',lM,s.fs⟩/\(∀k,S' k->S k\/w.heap.size<=k)/\ay S w w'
 asks:∀w x S s i t,Glob w->F w x S s->t.size<=1048576 ->
  Calls prog 24 #[.pointer (some ⟨x,0,none⟩),.int .i64 i,.string t] w λe w'=>∃u,e=.returned (.tuple #[.string u,.int .i64 (jg s.es s.kn i (ah t)).2])/\ah u=(jg s.es s.kn i (ah t)).1/\∃S',F w' x S' s/\(∀k,S' k->S k\/w.heap.size<=k)/\ay S w w'
 knows:∀w x S s i,Glob w->F w x S s ->
  Calls prog 22 #[.pointer (some ⟨x,0,none⟩),.int .i64 i] w λe w'=>e=.returned (.tuple #[.int .i64 (jc s.kn i).1,.int .i64 (jc s.kn i).2])/\∃S',F w' x S' s/\(∀k,S' k->S k\/w.heap.size<=k)/\ay S w w'
 sends:∀w x S s i j,Glob w->F w x S s ->
  Calls prog 27 #[.pointer (some ⟨x,0,none⟩),.int .i64 i,.int .i64 j] w λe w'=>e=.returned (.tuple #[.int .i64 (dH s i j).1,.int .i64 (dH s i j).2])/\∃S' s',sD s i j s'/\F w' x S' s'/\(∀k,S' k->S k\/w.heap.size<=k)/\ay S w w'
 frame:∀w x S s f,Glob w->F w x S s ->
  Calls prog 28 #[.pointer (some ⟨x,0,none⟩),.int .i64 f] w λe w'=>e=.returned (.tuple #[.string (kE s f).1,.int .i64 (kE s f).2])/\∃S',F w' x S' s/\(∀k,S' k->S k\/w.heap.size<=k)/\ay S w w'
 EM:∀w x S s f,Glob w->F w x S s ->
  Calls prog 31 #[.pointer (some ⟨x,0,none⟩),.int .i64 f] w λe w'=>e=.returned (.tuple #[.int .i64 (iw s f).1,.int .i64 (iw s f).2])/\∃S' s',rM s f s'/\F w' x S' s'/\(∀k,S' k->S k\/w.heap.size<=k)/\ay S w w'
 fsz:∀w x S s f g,F w x S s->kD s f=some g->g.bytes.size<=1000000000
 Yr:∀w x S s,F w x S s->s.fs.length<=1000000
theorem sF{B:Nat}{S:Nat->Prop}{a c:World}(h:ay S a c)(hS:∀k,S k->B<=k)(hs:B<=a.heap.size):Below B a c :=
 ⟨h.os,h.tape,h.output,h.size,λk hk=>h.block k (by omega) (λhk2=>by have:=hS k hk2;omega)⟩
theorem uU:∀(a b:List Bool)(N:Nat),(∀i,a.getD i false=true->b.getD i false=true)->a.length<=N->b.length<=N->cnt a<=cnt b/\(¬cnt a<cnt b->∀i,b.getD i false=a.getD i false):=by
 intro a b N h ha hb;rw[<- qL a N ha,<- qL b N hb];have hsub:∀(l:List Nat),(l.filter λk=>a.getD k false).length<=(l.filter λk=>b.getD k false).length/\(¬(l.filter λk=>a.getD k false).length<(l.filter λk=>b.getD k false).length->∀i∈l,b.getD i false=a.getD i false):=by
  intro l;induction l with
  | nil=>simp
  | cons x r ih =>
   obtain⟨i1,i2⟩:=ih;cases hax:a.getD x false with
   | true =>
    have hbx:=h x hax;rw[List.filter_cons_of_pos (by simpa using hax),List.filter_cons_of_pos (by simpa using hbx),List.length_cons,List.length_cons];refine⟨by omega,λh3 i hi=>?_⟩;rcases List.mem_cons.1 hi with rfl|hi
    ·rw[hax,hbx]
    ·exact i2 (by omega) i hi
   | false =>
    rw[List.filter_cons_of_neg (by rw[hax];simp)];cases hbx:b.getD x false with
    | true =>rw[List.filter_cons_of_pos (by simpa using hbx),List.length_cons];exact⟨by omega,λh3=>by omega⟩
    | false =>
     rw[List.filter_cons_of_neg (by rw[hbx];simp)];refine⟨i1,λh3 i hi=>?_⟩;rcases List.mem_cons.1 hi with rfl|hi
     ·rw[hax,hbx]
     ·exact i2 h3 i hi
 obtain⟨s1,s2⟩:=hsub (List.range N);refine⟨s1,λh3 i=>?_⟩;by_cases hi:i<N
 ·exact s2 h3 i (List.mem_range.2 hi)
 ·rw[iQ (by omega),iQ (known:=a) (by omega)]
def isRef(t:TypeId):Prop:=t=170\/t=165\/t=239\/t=233\/t=3
structure aG(F:wS):Prop where
 stable:∀{M:Nat->Prop}{w w':World}{x:Nat}{S:Nat->Prop}{s:St},F w x S s->ay M w w'->(∀k,S k->¬M k)->F w' x S s
 tags:∀{w:World}{x:Nat}{S:Nat->Prop}{s:St}{k:Nat}{t:TypeId},F w x S s->S k->Tagged w k t->¬isRef t/\t≠4/\t≠159/\t≠63/\t≠116
 lt:∀{w:World}{x:Nat}{S:Nat->Prop}{s:St}{k:Nat},F w x S s->S k->k<w.heap.size
theorem aG.below{F:wS}(hP:aG F){x:Nat}{S:Nat->Prop}{s:St}(hf:F w x S s)(hb:Below w.heap.size w w'):F w' x S s:=hP.stable hf (ay.of_below (M:=λ_=>False) hb) (λ_ _ h=>h)
theorem Ph:∀n,Thk.rZ n=Lib.decDigits n:=by
 intro n;induction n using Nat.strongRecOn with
 | _ n ih =>
  rw[Thk.rZ,Lib.decDigits];split
  ·rfl
  ·rw[ih (n / 10) (by omega)]
theorem EN(n:Int):Thk.digits n=Lib.itoa n:=by
 unfold Thk.digits Lib.itoa;rw[Ph];split
 ·rfl
 ·rw[show n.natAbs=n.toNat by omega]
theorem o7{t':TypeId}(h:Tagged w k t)(h':Tagged w k t'):t=t':=Classical.byContradiction λe=>h.ne h' e rfl
theorem jm(t:ByteArray)(k:Nat)(h:k<t.size):(ah t)[k]'(by rw[aB];exact h)=t[k]:=byte_at t k h
def NumEnd(neg:Bool)(t:ByteArray)(e:Ending):Prop:=∃m:Int,e=.returned (.tuple #[.int .i64 m,.bool (Thk.eY neg (ah t)).isSome])/\∀x,Thk.eY neg (ah t)=some x->m=x
theorem nH(neg:Bool)(t:ByteArray):Thk.jk neg (ah t)=true↔(t.size<1\/10<t.size\/(∃h:0<t.size,(t[0].toNat:Int)=48/\(1<t.size\/neg=true))):=by
 unfold Thk.jk;by_cases h:0<t.size
 ·rw[mM t h,aB];simp only[Bool.or_eq_true,Bool.and_eq_true,decide_eq_true_eq,beq_iff_eq,Option.some.injEq];have e:t[0]=48↔(t[0].toNat:Int)=48:=by
   constructor
   ·intro h;rw[h];(first|done|rfl)
   ·intro h;apply UInt8.toNat_inj.1;have:(48:UInt8).toNat=48:=rfl;omega
  rw[e];constructor
  ·rintro((a|b)|c)
   ·exact Or.inl a
   ·exact Or.inr (Or.inl b)
   ·exact Or.inr (Or.inr ⟨h,c⟩)
  ·rintro(a|b|⟨_,c⟩)
   ·exact Or.inl (Or.inl a)
   ·exact Or.inl (Or.inr b)
   ·exact Or.inr c
 ·rw[aB];constructor
  ·intro _;left;omega
  ·intro _;have:decide (t.size<1)=true:=by rw[decide_eq_true_iff];omega
   rw[this];(first|done|rfl)
theorem KG{t:ByteArray}(h:Thk.jk neg (ah t)=true):Thk.eY neg (ah t)=none:=by unfold Thk.eY;rw[h];(first|done|rfl)
theorem o8{t:ByteArray}(hk:k<t.size)(h:¬(48<=(t[k].toNat:Int)/\(t[k].toNat:Int)<=57)):Thk.eY neg (ah t)=none:=by
 have:(ah t).all Thk.cO=false:=by rw[List.all_eq_false];refine⟨(ah t)[k]'(by rw[aB];exact hk),List.getElem_mem _, ?_⟩;rw[jm t k hk];unfold Thk.cO;simp;omega
 unfold Thk.eY;rw[this];simp
theorem CZ{t:ByteArray}(hb:Thk.jk neg (ah t)=false)(hall:((ah t).take t.size).all Thk.cO=true):Thk.eY neg (ah t)=if Thk.dY ((ah t).take t.size)<=1000000000 then some (if neg then -(Thk.dY ((ah t).take t.size):Int) else(Thk.dY ((ah t).take t.size):Int))else none:=by
 have e:(ah t).take t.size=ah t:=by rw[<- aB t,List.take_length]
 rw[e]at hall⊢;unfold Thk.eY;rw[hb,hall];simp
theorem IK(s:ByteArray)(w:World)(hs:s.size<=1048576)(hne:Hid ((ah s).head?≠some 45)):Calls prog 241 #[.string s] w λe w'=>NumEnd false s e/\w'=w:=by
 have h0:∀h:0<s.size,((s[0].toNat:Int)==45)=false:=by intro h;rw[beq_eq_false_iff_ne];intro h2;apply hne.out;rw[mM s h];congr 1;apply UInt8.toNat_inj.1;have:(45:UInt8).toNat=45:=rfl;omega
 cases hbad:Thk.jk false (ah s)
 ·have hnb:=(not_congr (nH false s)).1 (by rw[hbad];simp);have TB:Hid (Thk.jk false (ah s)=false):=hbad;clear hbad;have h1:0<s.size:=by omega
  have h2:s.size<=10:=by omega
  have h3:((s[0].toNat:Int)==45)=false:=h0 h1;have h4:¬((s[0].toNat:Int)=48/\1<s.size):=λh=>hnb (Or.inr (Or.inr ⟨h1,h.1,Or.inl h.2⟩));clear h0 hnb;by_cases h5:(s[0].toNat:Int)=48
  ·have h6:¬1<s.size:=λh=>h4 ⟨h5,h⟩;have h5':((s[0].toNat:Int)==48)=true:=by rw[h5];(first|done|rfl)
   clear h4 h5;go_enter func241,ntmps241;go_wp2
   go_loop [5,6] (λn i=>∃k:Nat,k<=s.size/\i=.int .i64 k/\n=.int .i64 (Thk.dY ((ah s).take k))/\Hid (((ah s).take k).all Thk.cO=true)) (λ_ i=>s.size-(intOf i).toNat)
   case atStart=>exact⟨0,by omega,rfl,by simp[Thk.dY],by simp[Hid]⟩
   case round =>
    obtain⟨k,hk,rfl,rfl,dX⟩:=hrel;have U2:Thk.dY ((ah s).take k)<10000000000:=by
     have h:=Thk.CW _ dX.out;have:((ah s).take k).length<=10:=by simp[aB];omega
     exact Nat.lt_of_lt_of_le h (Nat.le_trans (Nat.pow_le_pow_right (by omega) this) (by decide))
    by_cases hlt:k<s.size
    ·by_cases hdig:48<=(s[k].toNat:Int)/\(s[k].toNat:Int)<=57
     ·obtain⟨ha,hb⟩:=hdig;have hts:(ah s).take (k+1)=(ah s).take k++[s[k]]:=by rw[List.take_succ_eq_append_getElem (by rw[aB];exact hlt),jm s k hlt]
      have Hn:Hid ((Thk.dY ((ah s).take (k+1)):Int)=10*(Thk.dY ((ah s).take k):Int)+((s[k].toNat:Int)-48)):=by unfold Hid;rw[hts,Thk.mJ];unfold Thk.tu;omega
      have EO:Hid (((ah s).take (k+1)).all Thk.cO=true):=by unfold Hid;rw[hts,List.all_append,dX.out];unfold Thk.cO;simp;omega
      clear hts dX;generalize Thk.dY ((ah s).take k)=m at *;go_wp2;all_goals
       go_round
       case rel=>exact⟨k+1,by omega,by go_num,by rw[Hn.out],EO⟩
       case measure=>simp[intOf];omega
     ·have hfin:Hid (Thk.eY false (ah s)=none):=o8 hlt hdig;rcases(show(s[k].toNat:Int)<48\/57<(s[k].toNat:Int)from by omega)with h|h
      all_goals clear hdig dX
      all_goals
       go_wp2;all_goals
        go_ret2;exact⟨⟨0,by rw[hfin.out];rfl,by rw[hfin.out];intro x h;cases h⟩,rfl⟩
    ·have hkt:k=s.size:=by omega
     subst hkt;have hfin:Hid (_):=CZ (neg:=false) TB.out dX.out;clear dX;generalize Thk.dY ((ah s).take s.size)=m at *;go_wp2;all_goals
      go_ret2;refine⟨⟨(m:Int), ?_, ?_⟩,rfl⟩
      ·rw[hfin.out];by_cases hm:m<=1000000000
       ·simp[hm]<;>omega
       ·simp[hm]<;>omega
      ·rw[hfin.out];intro x h;by_cases hm:m<=1000000000
       ·simp[hm]at h;omega
       ·simp[hm]at h
  ·have h5':((s[0].toNat:Int)==48)=false:=by simpa using h5
   clear h4 h5;go_enter func241,ntmps241;go_wp2
   go_loop [5,6] (λn i=>∃k:Nat,k<=s.size/\i=.int .i64 k/\n=.int .i64 (Thk.dY ((ah s).take k))/\Hid (((ah s).take k).all Thk.cO=true)) (λ_ i=>s.size-(intOf i).toNat)
   case atStart=>exact⟨0,by omega,rfl,by simp[Thk.dY],by simp[Hid]⟩
   case round =>
    obtain⟨k,hk,rfl,rfl,dX⟩:=hrel;have U2:Thk.dY ((ah s).take k)<10000000000:=by
     have h:=Thk.CW _ dX.out;have:((ah s).take k).length<=10:=by simp[aB];omega
     exact Nat.lt_of_lt_of_le h (Nat.le_trans (Nat.pow_le_pow_right (by omega) this) (by decide))
    by_cases hlt:k<s.size
    ·by_cases hdig:48<=(s[k].toNat:Int)/\(s[k].toNat:Int)<=57
     ·obtain⟨ha,hb⟩:=hdig;have hts:(ah s).take (k+1)=(ah s).take k++[s[k]]:=by rw[List.take_succ_eq_append_getElem (by rw[aB];exact hlt),jm s k hlt]
      have Hn:Hid ((Thk.dY ((ah s).take (k+1)):Int)=10*(Thk.dY ((ah s).take k):Int)+((s[k].toNat:Int)-48)):=by unfold Hid;rw[hts,Thk.mJ];unfold Thk.tu;omega
      have EO:Hid (((ah s).take (k+1)).all Thk.cO=true):=by unfold Hid;rw[hts,List.all_append,dX.out];unfold Thk.cO;simp;omega
      clear hts dX;generalize Thk.dY ((ah s).take k)=m at *;go_wp2;all_goals
       go_round
       case rel=>exact⟨k+1,by omega,by go_num,by rw[Hn.out],EO⟩
       case measure=>simp[intOf];omega
     ·have hfin:Hid (Thk.eY false (ah s)=none):=o8 hlt hdig;rcases(show(s[k].toNat:Int)<48\/57<(s[k].toNat:Int)from by omega)with h|h
      all_goals clear hdig dX
      all_goals
       go_wp2;all_goals
        go_ret2;exact⟨⟨0,by rw[hfin.out];rfl,by rw[hfin.out];intro x h;cases h⟩,rfl⟩
    ·have hkt:k=s.size:=by omega
     subst hkt;have hfin:Hid (_):=CZ (neg:=false) TB.out dX.out;clear dX;generalize Thk.dY ((ah s).take s.size)=m at *;go_wp2;all_goals
      go_ret2;refine⟨⟨(m:Int), ?_, ?_⟩,rfl⟩
      ·rw[hfin.out];by_cases hm:m<=1000000000
       ·simp[hm]<;>omega
       ·simp[hm]<;>omega
      ·rw[hfin.out];intro x h;by_cases hm:m<=1000000000
       ·simp[hm]at h;omega
       ·simp[hm]at h
 ·have hnb:=(nH false s).1 hbad;have hfin:Hid (Thk.eY false (ah s)=none):=KG hbad;clear hbad;rcases hnb with h|h|⟨h,h4,h5⟩
  ·clear h0;go_enter func241,ntmps241;go_wp2;all_goals
    go_ret2;exact⟨⟨0,by rw[hfin.out];rfl,by rw[hfin.out];intro x h;cases h⟩,rfl⟩
  ·have h3:=h0 (by omega);clear h0;go_enter func241,ntmps241;go_wp2;all_goals
    go_ret2;exact⟨⟨0,by rw[hfin.out];rfl,by rw[hfin.out];intro x h;cases h⟩,rfl⟩
  ·have h3:=h0 h;have h5':((s[0].toNat:Int)==48)=true:=by rw[h4];(first|done|rfl)
   have h6:1<s.size:=by simpa using h5
   clear h0 h4 h5;go_enter func241,ntmps241;go_wp2;all_goals
    go_ret2;exact⟨⟨0,by rw[hfin.out];rfl,by rw[hfin.out];intro x h;cases h⟩,rfl⟩
theorem IL(s:ByteArray)(w:World)(hs:s.size<=1048576)(h0:0<s.size)(hne:(s[0].toNat:Int)=45):Calls prog 241 #[.string s] w λe w'=>NumEnd true (s.extract 1 s.size) e/\w'=w:=by
 have h3:((s[0].toNat:Int)==45)=true:=by rw[hne];(first|done|rfl)
 have ht:(s.extract 1 s.size).size=s.size-1:=by simp[ByteArray.size_extract]
 clear hne;cases hbad:Thk.jk true (ah (s.extract 1 s.size))
 ·have hnb:=(not_congr (nH true (s.extract 1 s.size))).1 (by rw[hbad];simp);have TB:Hid (Thk.jk true (ah (s.extract 1 s.size))=false):=hbad;clear hbad;have h1:0<(s.extract 1 s.size).size:=by omega
  have h2:(s.extract 1 s.size).size<=10:=by omega
  have h5':(((s.extract 1 s.size)[0].toNat:Int)==48)=false:=by rw[beq_eq_false_iff_ne];exact λh=>hnb (Or.inr (Or.inr ⟨h1,h,Or.inr rfl⟩))
  have k1:1<=s.size-1:=by omega
  have k2:s.size-1<=10:=by omega
  clear hnb ht;go_enter func241,ntmps241;go_wp2;clear h5';generalize ((s.extract 1 s.size)[0]'h1).toNat=b0 at *;generalize hT:s.extract 1 s.size=t at *;have HT:Hid (s.extract 1 s.size=t):=hT;clear hT
  go_loop [5,6] (λn i=>∃k:Nat,k<=t.size/\i=.int .i64 k/\n=.int .i64 (Thk.dY ((ah t).take k))/\Hid (((ah t).take k).all Thk.cO=true)) (λ_ i=>t.size-(intOf i).toNat)
  case atStart=>exact⟨0,by omega,rfl,by simp[Thk.dY],by simp[Hid]⟩
  case round =>
   obtain⟨k,hk,rfl,rfl,dX⟩:=hrel;have U2:Thk.dY ((ah t).take k)<10000000000:=by
    have h:=Thk.CW _ dX.out;have:((ah t).take k).length<=10:=by simp[aB];omega
    exact Nat.lt_of_lt_of_le h (Nat.le_trans (Nat.pow_le_pow_right (by omega) this) (by decide))
   by_cases hlt:k<t.size
   ·by_cases hdig:48<=(t[k].toNat:Int)/\(t[k].toNat:Int)<=57
    ·obtain⟨ha,hb⟩:=hdig;have hts:(ah t).take (k+1)=(ah t).take k++[t[k]]:=by rw[List.take_succ_eq_append_getElem (by rw[aB];exact hlt),jm t k hlt]
     have Hn:Hid ((Thk.dY ((ah t).take (k+1)):Int)=10*(Thk.dY ((ah t).take k):Int)+((t[k].toNat:Int)-48)):=by unfold Hid;rw[hts,Thk.mJ];unfold Thk.tu;omega
     have EO:Hid (((ah t).take (k+1)).all Thk.cO=true):=by unfold Hid;rw[hts,List.all_append,dX.out];unfold Thk.cO;simp;omega
     clear hts dX;generalize Thk.dY ((ah t).take k)=m at *;go_wp2;all_goals
      go_round
      case rel=>exact⟨k+1,by omega,by go_num,by rw[Hn.out],EO⟩
      case measure=>simp[intOf];omega
    ·have hfin:Hid (Thk.eY true (ah t)=none):=o8 hlt hdig;rcases(show(t[k].toNat:Int)<48\/57<(t[k].toNat:Int)from by omega)with h|h
     all_goals clear hdig dX
     all_goals
      go_wp2;all_goals
       go_ret2;rw[HT.out];exact⟨⟨0,by rw[hfin.out];rfl,by rw[hfin.out];intro x h;cases h⟩,rfl⟩
   ·have hkt:k=t.size:=by omega
    subst hkt;have hfin:Hid (_):=CZ (neg:=true) TB.out dX.out;clear dX;generalize Thk.dY ((ah t).take t.size)=m at *;go_wp2;all_goals
     go_ret2;rw[HT.out];refine⟨⟨-(m:Int), ?_, ?_⟩,rfl⟩
     ·rw[hfin.out];by_cases hm:m<=1000000000
      ·simp[hm]<;>omega
      ·simp[hm]<;>omega
     ·rw[hfin.out];intro x h;by_cases hm:m<=1000000000
      ·simp[hm]at h;omega
      ·simp[hm]at h
 ·have hnb:=(nH true (s.extract 1 s.size)).1 hbad;have hfin:Hid (Thk.eY true (ah (s.extract 1 s.size))=none):=KG hbad;clear hbad;rcases hnb with h|h|⟨h,h4,h5⟩
  ·have k1:s.size-1<1:=by omega
   clear ht h;go_enter func241,ntmps241;go_wp2;all_goals
    go_ret2;exact⟨⟨0,by rw[hfin.out];rfl,by rw[hfin.out];intro x h;cases h⟩,rfl⟩
  ·have k1:10<s.size-1:=by omega
   clear ht h;go_enter func241,ntmps241;go_wp2;all_goals
    go_ret2;exact⟨⟨0,by rw[hfin.out];rfl,by rw[hfin.out];intro x h;cases h⟩,rfl⟩
  ·have h5':(((s.extract 1 s.size)[0].toNat:Int)==48)=true:=by rw[h4];(first|done|rfl)
   by_cases k2:10<s.size-1
   ·clear h4 h5 ht h5';go_enter func241,ntmps241;go_wp2;all_goals
     go_ret2;exact⟨⟨0,by rw[hfin.out];rfl,by rw[hfin.out];intro x h;cases h⟩,rfl⟩
   ·have k1:1<=s.size-1:=by omega
    clear h4 h5 ht;go_enter func241,ntmps241;go_wp2;all_goals
     go_ret2;exact⟨⟨0,by rw[hfin.out];rfl,by rw[hfin.out];intro x h;cases h⟩,rfl⟩
theorem LW(s:ByteArray):((ah s).head?≠some 45/\Thk.num (ah s)=Thk.eY false (ah s))\/(∃h:0<s.size,(s[0].toNat:Int)=45/\Thk.num (ah s)=Thk.eY true (ah (s.extract 1 s.size))):=by
 by_cases h:(ah s).head? = some 45
 ·right;have hp:0<s.size:=by
   rcases Nat.eq_zero_or_pos s.size with e|e
   ·have:ah s=[]:=List.eq_nil_of_length_eq_zero (by rw[aB,e]);rw[this]at h;cases h
   ·exact e
  refine⟨hp, ?_, ?_⟩
  ·rw[mM s hp]at h;simp only[Option.some.injEq]at h;rw[h];(first|done|rfl)
  ·unfold Thk.num;rw[if_pos h,eU];congr 1;rw[<- aB s,List.take_length,List.drop_one]
 ·left;exact⟨h,by unfold Thk.num;rw[if_neg h]⟩
theorem IQ(s:ByteArray)(w:World)(hs:s.size<=1048576):Calls prog 241 #[.string s] w λe w'=>(∃m:Int,e=.returned (.tuple #[.int .i64 m,.bool (Thk.num (ah s)).isSome])/\∀x,Thk.num (ah s)=some x->m=x)/\w'=w:=by
 rcases LW s with⟨h,e⟩|⟨h0,h,e⟩
 ·rw[e];exact IK s w hs h
 ·rw[e];exact IL s w hs h0 h
theorem kV(s:ByteArray)(w:World)(hs:s.size<=1048576):Calls prog 240 #[.string s] w λe w'=>e=.returned (.bool (Thk.val s.data.toList))/\w'=w:=by
 go_enter func240,ntmps240;go_wp2
 go_loop [3] (λi=>∃k:Nat,k<=s.size/\i=.int .i64 k/\∀j(h:j<s.data.toList.length),j<k->(Thk.isLow s.data.toList[j]||Thk.cO s.data.toList[j])=true) (λi=>s.size-(intOf i).toNat)
 case atStart=>exact⟨0,by omega,rfl,λj _ b=>by omega⟩
 case round =>
  obtain⟨k,hk,rfl,hall⟩:=hrel;have dX:Hid (∀j(h:j<s.data.toList.length),j<k->(Thk.isLow s.data.toList[j]||Thk.cO s.data.toList[j])=true):=hall;clear hall;by_cases hlt:k<s.size
  ·by_cases hgood:(97<=(s[k].toNat:Int)/\(s[k].toNat:Int)<=122)\/(48<=(s[k].toNat:Int)/\(s[k].toNat:Int)<=57)
   ·have hnext:Hid (∀j(h:j<s.data.toList.length),j<k+1->(Thk.isLow s.data.toList[j]||Thk.cO s.data.toList[j])=true):=by
     intro j h b;by_cases e:j=k
     ·subst e;rw[byte_at s j hlt];unfold Thk.isLow Thk.cO;simp;omega
     ·exact dX.out j h (by omega)
    clear dX;rcases hgood with⟨ha,hb⟩|⟨ha,hb⟩
    all_goals
     go_wp2;all_goals
      go_round
      case rel=>exact⟨k+1,by omega,by go_num,hnext.out⟩
      case measure=>simp[intOf];omega
   ·have hfin:Hid (Thk.val s.data.toList=false):=Thk.CU _ k (by simpa using hlt) (by rw[byte_at s k hlt,Bool.eq_false_iff];unfold Thk.isLow Thk.cO;simp;omega);rcases(show(s[k].toNat:Int)<48\/(57<(s[k].toNat:Int)/\(s[k].toNat:Int)<97)\/122<(s[k].toNat:Int)from by omega)with h|⟨h,h'⟩|h
    all_goals clear hgood
    all_goals
     go_wp2;all_goals
      go_ret;exact⟨aY hfin.out.symm,rfl⟩
  ·have hfin:Hid (Thk.val s.data.toList=(decide (1<=s.size)&&decide (s.size<=8))):=by have h:=Thk.VJ s.data.toList (λi h=>dX.out i h (by simp at h;omega));exact h.trans (by simp)
   go_wp2;all_goals
    go_ret;refine⟨aY ?_,rfl⟩;rw[hfin.out,Bool.eq_iff_iff];simp;try omega
def EP(k a:UInt8):Bool :=
 if k.toNat=115 then a.toNat==43||a.toNat==45||a.toNat==33
 else if k.toNat=102 then a.toNat==94||a.toNat==95||a.toNat==33
 else if k.toNat=114 then a.toNat==61||a.toNat==33
 else if k.toNat=99 then a.toNat==62||a.toNat==33
 else a.toNat==33
theorem fits_any(k a:UInt8)(w:World):Calls prog 239 #[.int .u8 (k.toNat:Int),.int .u8 (a.toNat:Int)] w λe w'=>e=.returned (.bool (EP k a))/\w'=w:=by
 go_enter func239,ntmps239;go_wp2;all_goals
  go_ret;refine⟨aY ?_,rfl⟩;unfold EP;rw[Bool.eq_iff_iff]
  repeat' split
  all_goals simp only[Bool.or_eq_true,beq_iff_eq,beq_eq_false_iff_ne,Bool.true_eq_false,Bool.false_eq_true,true_iff,false_iff,iff_true,iff_false,eq_self]at *
  all_goals omega
