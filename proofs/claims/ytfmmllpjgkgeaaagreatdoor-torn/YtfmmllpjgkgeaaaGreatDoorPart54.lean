import Derived.Test.YtfmmllpjgkgeaaaGreatDoorPart42
import Derived.Test.YtfmmllpjgkgeaaaGreatDoorPart51
import Derived.Test.YtfmmllpjgkgeaaaGreatDoorPart53
set_option linter.unusedVariables false
set_option linter.unusedSimpArgs false
set_option maxHeartbeats 16000000
set_option maxRecDepth 100000
namespace Go.Proofs.YtfmmllpjgkgeaaaGreatDoor
open Go.RowKit Go.Maps Go.WideMaps

theorem EncOf.short {S:Nat->Prop} {C:Nat->Option Thk.Ch} {rs:List (Nat × Nat)} {its:List (Nat × Thk.Bs)} (h:EncOf S C rs its) (ht:∀ d c,C d=some c->(txtC c).length<=29):(encS rs its).length<=4+6*rs.length+35*its.length:=by
 have q3:=encN_len rs.length
 have q4:=encN_len its.length
 have q5:=flatMap_le' encR 6 rs (fun r _=>by
  unfold encR encD
  have:=encN_len (who r.1);have:=encN_len (nth r.1);have:=encN_len r.2
  simp only[List.length_append];omega)
 have q6:=flatMap_le' encI 35 its (fun x hx=>by
  unfold encI encD
  have:=encN_len (who x.1);have:=encN_len (nth x.1);have:=encN_len x.2.length
  obtain ⟨d,c,hc,e⟩:=h.tx x hx
  have:=ht d c hc
  rw[<- e] at this
  simp only[List.length_append];omega)
 unfold encS
 simp only[List.length_append]
 omega
section
variable {es:List Ev} {D:List Nat} {n:Nat} {kn:List Bool} {K:Nat->Nat} {C:Nat->Option Thk.Ch}
theorem Kn.txt (h:Kn es D kn K C) (hs:∀ e∈es,∃ t,Thk.read t=.inr (chOf e)):∀ d c,C d=some c->(txtC c).length<=29:=fun d c hc=>by
 obtain ⟨heff,s,hr⟩:=h.ch hs hc
 obtain ⟨p1,p2,_⟩:=Thk.read_ok _ _ hr
 obtain ⟨t1,t2⟩:=txt_read hr heff
 rw[t1];omega
theorem torn_len {rs:List (Nat × Nat)} {its:List (Nat × Thk.Bs)} {m:Nat} (h:EncOf (fst K) C rs its) (hK:Kn es D kn K C) (hE:EvD es D n) (hs:∀ e∈es,∃ t,Thk.read t=.inr (chOf e)) (h5:es.length<=500) (hm:m<268435456):(slotL m (encS rs its)).length<=200+80*es.length:=by
 obtain ⟨n1,a1,a2,a3⟩:=h.rl
 obtain ⟨n2,b1,b2,b3⟩:=h.il
 have c1:=nodup_le a1 (m:=D) (fun d hd=>hK.mem (a2 d hd).1 (a2 d hd).2)
 have c2:=nodup_le b1 (m:=D) (fun d hd=>(hK.alv hE (b2 d hd)).1)
 rw[hE.len] at c1 c2
 have hl:=h.short (hK.txt hs)
 have e1:=encG_len 3 m (by omega)
 have e2:=encG_len 3 (encS rs its).length (by omega)
 unfold slotL
 rw[sealL_len]
 simp only[List.length_append]
 omega
theorem slot_pos (m:Nat) (t:Thk.Bs):0<(slotL m t).length:=by unfold slotL;rw[sealL_len];omega
end

theorem chg_swap {M N:Nat->Prop} {w0 w w':World} (h1:Chg N w0 w) (h2:Chg M w w'):∃ w1,Chg M w0 w1/\Chg N w1 w':=by
 classical
 have hs:=h1.size
 have hs2:=h2.size
 refine ⟨{ w' with heap:=Array.ofFn (n:=w'.heap.size) fun i=>if h:N i/\i<w0.heap.size then w0.heap[i.1]'h.2 else w'.heap[i.1] },⟨h2.os.trans h1.os,h2.tape.trans h1.tape,h2.output.trans h1.output,by simp;omega,fun k hk hm=>?_⟩,⟨rfl,rfl,rfl,by simp,fun k hk hn=>?_⟩⟩
 ·have hkw:k<w'.heap.size:=by omega
  show (Array.ofFn _)[k]? = _
  rw[Array.getElem?_ofFn,dif_pos hkw]
  by_cases hn:N k
  ·simp only[hn,hk,and_self,dif_pos]
   rw[Array.getElem?_eq_getElem hk]
  ·simp only[hn,false_and,dif_neg,not_false_eq_true]
   rw[<- Array.getElem?_eq_getElem hkw,h2.block k (by omega) hm,h1.block k hk hn]
 ·have hkw:k<w'.heap.size:=by simpa using hk
  show w'.heap[k]? = (Array.ofFn _)[k]?
  rw[Array.getElem?_ofFn,dif_pos hkw]
  simp only[hn,false_and,dif_neg,not_false_eq_true]
  rw[Array.getElem?_eq_getElem hkw]
theorem CluX.chg {M:Nat->Prop} {w w':World} {x q cap:Nat} {fv:Value} {st:Int} {ds:List RepD} {bs:List (Nat × ByteArray)} {k:Nat} {hk:k<ds.length} {K:Nat->Nat} {C:Nat->Option Thk.Ch} {n:Nat} (h:CluX w x q cap fv st ds bs k hk K C n) (hc:Chg M w w') (hm:∀ b,ownS x q fv ds b->¬M b):CluX w' x q cap fv st ds bs k hk K C n:=by
 obtain ⟨w0,h1,h2,h3⟩:=h
 obtain ⟨w1,c1,c2⟩:=chg_swap h2 hc
 exact ⟨w1,h1.chg c1 (hm x (Or.inl rfl)) (hm q (Or.inr (Or.inl rfl))) (fun j hj b hb=>hm b (Or.inr (Or.inr (Or.inr ⟨j,hj,hb⟩)))) (fun g hg=>hm g (Or.inr (Or.inr (Or.inl hg)))),c2,h3.chg hc (fun b hb=>hm b (Or.inr (Or.inr (Or.inr ⟨k,hk,hb⟩))))⟩

def RD.torn (r:RD) (m:Nat):RD:={ r with cut:=true,k:=(m:Int) }
theorem own_torn {ds:List RepD} {i m:Nat} (hi:i<ds.length) {x q:Nat} {fv:Value} {b:Nat} : ownS x q fv (ds.set i (ds[i].torn m)) b↔ownS x q fv ds b:=by
 unfold ownS
 refine or_congr_right (or_congr_right (or_congr_right ⟨fun ⟨j,hj,ho⟩=>?_,fun ⟨j,hj,ho⟩=>?_⟩))
 ·have hj':j<ds.length:=by simpa using hj
  rw[List.getElem_set] at ho
  by_cases e:i=j
  ·subst e;rw[if_pos rfl] at ho;exact ⟨i,hi,ho⟩
  ·rw[if_neg e] at ho;exact ⟨j,hj',ho⟩
 ·refine ⟨j,by simpa using hj, ?_⟩
  rw[List.getElem_set]
  by_cases e:i=j
  ·subst e;rw[if_pos rfl];exact ho
  ·rw[if_neg e];exact ho
def ProgT (i m:Nat) (w:World) (x:Nat) (S:Nat->Prop) (s:St):Prop :=
 ∃ w0 q cap fv ds bs D P,∃ hi:i<ds.length,CluF w0 x S s q cap fv ds bs D P/\w0.heap.size<=w.heap.size/\CluP w x q cap fv 0 (ds.set i (ds[i].torn m)) bs
def ProgX (i:Nat) (w:World) (x:Nat) (S:Nat->Prop) (s':St):Prop :=
 ∃ m w0 q cap fv ds bs D P s K C n,∃ hi:i<ds.length,CluF w0 x S s q cap fv ds bs D P/\w0.heap.size<=w.heap.size/\CluX w x q cap fv 0 (ds.set i (ds[i].torn m)) bs i (by simpa using hi) K C n /\
  ((K=ds[i].K/\C=ds[i].C/\s'=s)\/∃ t c e,Thk.read t=.inr c/\chOf e=c/\e.saw=s.kn.getD i []/\s.es.length<500/\K=inc ds[i].K i/\C=stepC ds[i].C c (mkD i (ds[i].K i+1))/\s'=⟨s.es ++ [e],s.kn.set i (moreOf (s.kn.getD i []) s.es.length),s.fs⟩)

theorem sumN_torn {ds:List RepD} {i m:Nat} (hi:i<ds.length):sumN (ds.set i (ds[i].torn m)) ds.length=sumN ds ds.length:=by
 have:=sumN_set ds i hi (ds[i].torn m) ds.length
 have e:(ds[i].torn m).K i=ds[i].K i:=rfl
 rw[e] at this
 omega

theorem wake_old {w0 w':World} {x:Nat} {S:Nat->Prop} {s:St} {q cap:Nat} {fv:Value} {ds:List RepD} {bs:List (Nat × ByteArray)} {D:List Nat} {P:Nat->Hs->Prop} (h:CluF w0 x S s q cap fv ds bs D P) {i:Nat} (hi:i<ds.length) {B m n io co lo:Nat} (hio:B<=io/\B<=co/\B<=lo) (hC:CluP w' x q cap fv 0 (ds.set i ((ds[i].torn m).woken io co lo ds[i].K ds[i].C n)) bs) :
  ∃ S',ProgF w' x S' s/\∀ b,S' b->S b\/B<=b:=by
 have hren:Renews0 B ds[i] ((ds[i].torn m).woken io co lo ds[i].K ds[i].C n):=⟨rfl,rfl,rfl,(wake_renews (r:=ds[i].torn m) hio).own⟩
 have hH:=(h.hist i hi).crashed (r':={ ds[i] with io:=some io,co:=some co,lo:=some lo,pv:=.slice none 0 0,dr:=sizeK ds[i].K,A:=fun _=>0,ps:=[] }) ⟨io,co,lo,rfl⟩ (by rw[curs_at s ds i hi];exact (h.size i hi).symm)
 have hH2:HistR s.es D i (P i) (curs s ds) (curs s ds i) ((ds[i].torn m).woken io co lo ds[i].K ds[i].C n):=⟨hH.ok,hH.nil,hH.now,hH.cK,hH.cC,hH.ord,hH.top,hH.dr,hH.ack⟩
 exact ⟨_,(h.same hi (r':=(ds[i].torn m).woken io co lo ds[i].K ds[i].C n) rfl rfl rfl hH2 hC).prog,h.ownR hi (r':=(ds[i].torn m).woken io co lo ds[i].K ds[i].C n) hren (fun g hg=>Or.inl hg)⟩
theorem wake_new {w0 w':World} {x:Nat} {S:Nat->Prop} {s:St} {q cap:Nat} {fv:Value} {ds:List RepD} {bs:List (Nat × ByteArray)} {D:List Nat} {P:Nat->Hs->Prop} (h:CluF w0 x S s q cap fv ds bs D P) {i:Nat} (hi:i<ds.length) {B m n io co lo:Nat} (hio:B<=io/\B<=co/\B<=lo) {t:Thk.Bs} {c:Thk.Ch} {ev:Ev} (hr:Thk.read t=.inr c) (hch:chOf ev=c) (e5:ev.saw=s.kn.getD i []) (hl:s.es.length<500) (hC:CluP w' x q cap fv 0 (ds.set i ((ds[i].torn m).woken io co lo (inc ds[i].K i) (stepC ds[i].C c (mkD i (ds[i].K i+1))) n)) bs) :
  ∃ S',ProgF w' x S' ⟨s.es ++ [ev],s.kn.set i (moreOf (s.kn.getD i []) s.es.length),s.fs⟩/\∀ b,S' b->S b\/B<=b:=by
 have hren:Renews0 B ds[i] ((ds[i].torn m).woken io co lo (inc ds[i].K i) (stepC ds[i].C c (mkD i (ds[i].K i+1))) n):=⟨rfl,rfl,rfl,(wake_renews (r:=ds[i].torn m) hio).own⟩
 obtain ⟨hH1,hsz⟩:=h.didH hr hi hl hch e5 io co lo (.slice none 0 0) ⟨none,none,none,newD ds[i] (inc ds[i].K i) (stepC ds[i].C c (mkD i (ds[i].K i+1))),itOf (newC ds[i] (inc ds[i].K i) (stepC ds[i].C c (mkD i (ds[i].K i+1))))⟩ rfl rfl
 have hH:=hH1.crashed ⟨io,co,lo,rfl⟩ hsz
 have hH2:HistR (s.es ++ [ev]) (D ++ [mkD i (ds[i].K i+1)]) i (fun y=>P i y\/y=⟨moreOf (s.kn.getD i []) s.es.length,inc ds[i].K i,stepC ds[i].C c (mkD i (ds[i].K i+1))⟩) (curs s ds) ⟨moreOf (s.kn.getD i []) s.es.length,inc ds[i].K i,stepC ds[i].C c (mkD i (ds[i].K i+1))⟩ ((ds[i].torn m).woken io co lo (inc ds[i].K i) (stepC ds[i].C c (mkD i (ds[i].K i+1))) n):=⟨hH.ok,hH.nil,hH.now,hH.cK,hH.cC,hH.ord,hH.top,hH.dr,hH.ack⟩
 exact h.doneH (r':=(ds[i].torn m).woken io co lo (inc ds[i].K i) (stepC ds[i].C c (mkD i (ds[i].K i+1))) n) hr hi hl hch e5 rfl rfl (fun y hy=>Or.inl hy) hH2 hren hC

theorem prog_torn:ProgTorn ProgF ProgT ProgX:={
 tear:=by
  rintro w x S s i m ⟨q,cap,fv,ds,bs,D,P,h⟩ hi
  have hi':i<ds.length:=by rw[<- h.len];exact hi
  refine Calls.mono (CTear_any w x q cap fv ds bs h.clu i hi' m) ?_
  rintro e w' ⟨rfl,hC,hc⟩
  exact ⟨rfl,S,⟨w,q,cap,fv,ds,bs,D,P,hi',h,hc.size,hC⟩,fun k hk=>Or.inl hk,h.sc hc⟩
 does:=by
  rintro w x S s i m t es' kn' hG ⟨w0,q,cap,fv,ds,bs,D,P,hi,h,hz,hC⟩ ht hd
  have hle:=h.len
  have hget:∀ j (hj:j<(ds.set i (ds[i].torn m)).length),(ds.set i (ds[i].torn m))[j]=if i=j then ds[i].torn m else ds[j]'(by simpa using hj):=fun j hj=>by rw[List.getElem_set]
  obtain ⟨c,ev,hin,hr,hl,e1,e2,e3,e4,e5,-,rfl,rfl⟩:∃ (c:Thk.Ch) (e:Ev),(0<=(i:Int)/\(i:Int)<s.kn.length)/\Thk.read (toL t)=.inr c/\s.es.length<500/\toL e.p=c.path/\e.a=c.act/\toL e.v=c.val/\e.n=c.n/\e.saw=s.kn.getD (i:Int).toNat []/\(0:Int)=0/\es'=s.es ++ [e]/\kn'=s.kn.set (i:Int).toNat (moreOf (s.kn.getD (i:Int).toNat []) s.es.length):=by
   rcases hd with ⟨_,h2,_⟩ | ⟨k,_,h2,h3,_⟩ | ⟨_,_,_,_,h2,_⟩ | h2
   ·omega
   ·have:=Thk.read_err _ _ h2;omega
   ·omega
   ·exact h2
  simp only[Int.toNat_natCast] at e5 ⊢
  have hch:chOf ev=c:=by unfold chOf;rw[e1,e2,e3,e4]
  refine Calls.mono (CDo_gen w hG x q cap fv _ bs hC (fun k hk=>?_) (i:Int) t ht (fun k hk c' hr' hl'=>?_)) ?_
  ·rw[hget k hk]
   by_cases e:i=k
   ·rw[if_pos e];exact Or.inr ⟨rfl,m,rfl⟩
   ·rw[if_neg e];exact Or.inl (h.cut k (by simpa using hk))
  ·have hk':k<ds.length:=by simpa using hk
   have:=(h.doB hr' hk' hl).2.2.1
   rw[hget k hk]
   by_cases e:i=k
   ·subst e;rw[if_pos rfl];exact this
   ·rw[if_neg e];exact this
  ·rintro e w' ⟨r,ds',rfl,hD,hc⟩
   have hcS:Chg S w w':=hc.wide (fun b hb=>by
    rcases hb with rfl | ⟨j,hj,hb⟩
    ·exact (h.own _).2 (Or.inl rfl)
    ·exact (h.own b).2 ((own_torn (x:=x) (q:=q) (fv:=fv) hi).1 (Or.inr (Or.inr (Or.inr ⟨j,hj,hb⟩)))))
   have hiT:i<(ds.set i (ds[i].torn m)).length:=by simpa using hi
   rcases hD with ⟨hD,_,hct⟩ | ⟨c',k,hk,hik,hr',hl',hct,rfl,hX⟩
   ·exfalso
    rcases hD with ⟨h1,_⟩ | ⟨k,_,h2,_⟩ | ⟨_,_,_,h2,_⟩ | ⟨_,k,hk,_,_,_,_,_,h2,_⟩
    ·exact h1 ⟨by omega,by simp;omega⟩
    ·rw[hr] at h2;cases h2
    ·rw[List.length_set,sumN_torn hi,h.sum] at h2;omega
    ·have:=hct i hiT rfl h2
     rw[hget i hiT,if_pos rfl] at this
     cases this
   ·have hki:k=i:=by omega
    subst hki
    have hcc:c'=c:=by rw[hr] at hr';exact (Sum.inr.inj hr').symm
    subst hcc
    have hkk:(ds.set k (ds[k].torn m))[k]=ds[k].torn m:=by rw[hget k hk,if_pos rfl]
    rw[hkk] at hX
    obtain ⟨rs,its,K,C,n,x1,x2,x3⟩:=hX m rfl
    obtain ⟨hnew,hK5,_,hev⟩:=h.doB hr hi hl
    have hkn:=(h.tie k hi).mine h.evd ev c' hch e5 k hK5 hnew
    have hn:=(h.clu.rep k hi).n
    have hs5:=sizeK_le (h.clu.rep k hi).k500
    have hlen:=torn_len (m:=ds[k].n+1) x1 hkn (hev ev hch) (fun e he=>by
     rcases List.mem_append.1 he with h1 | h1
     ·exact h.src e h1
     ·rw[List.mem_singleton] at h1;rw[h1];exact ⟨toL t,by rw[hch];exact hr⟩) (by simp;omega) (by omega)
    rw[List.length_append,List.length_singleton] at hlen
    have hpos:=slot_pos ((ds[k].torn m).n+1) (encS rs its)
    have hz2:w0.heap.size<=w'.heap.size:=Nat.le_trans hz hc.size
    rcases x2 with ⟨y1,y2,y3,y4⟩ | ⟨y1,y2,y3,y4⟩
    ·refine ⟨rfl,S,s,Or.inl rfl,fun _=>rfl,fun h9=>?_,⟨m,w0,q,cap,fv,ds,bs,D,P,s,K,C,n,hi,h,hz2,x3,Or.inl ⟨y2,y3,rfl⟩⟩,fun k hk=>Or.inl hk,hcS⟩
     exfalso
     have:(slotL ((ds[k].torn m).n+1) (encS rs its)).length=(slotL (ds[k].n+1) (encS rs its)).length:=rfl
     omega
    ·refine ⟨rfl,S,_,Or.inr rfl,fun h9=>?_,fun _=>rfl,⟨m,w0,q,cap,fv,ds,bs,D,P,s,K,C,n,hi,h,hz2,x3,Or.inr ⟨toL t,c',ev,hr,hch,e5,hl,y2,y3,rfl⟩⟩,fun k hk=>Or.inl hk,hcS⟩
     omega
 down:=by
  rintro w x S s i ⟨m,w0,q,cap,fv,ds,bs,D,P,s0,K,C,n,hi,h,hz,hC,hs⟩
  refine Calls.mono (CKnows_down hC) ?_
  rintro e w' ⟨rfl,hC2,hc⟩
  exact ⟨rfl,S,⟨m,w0,q,cap,fv,ds,bs,D,P,s0,K,C,n,hi,h,Nat.le_trans hz hc.size,hC2,hs⟩,fun k hk=>Or.inl hk,hc.wide (fun b hb=>(h.own b).2 (Or.inl hb))⟩
 wake:=by
  rintro w x S s i hG h4 ⟨m,w0,q,cap,fv,ds,bs,D,P,s0,K,C,n,hi,h,hz,hC,hs⟩
  have hiT:i<(ds.set i (ds[i].torn m)).length:=by simpa using hi
  have hkk:(ds.set i (ds[i].torn m))[i]=ds[i].torn m:=by rw[List.getElem_set,if_pos rfl]
  refine Calls.mono (CWake_any hG hC (h4 x ((h.own x).2 (Or.inl rfl))) (by rw[hkk];exact h4 ds[i].rb ((h.own _).2 (Or.inr (Or.inr (Or.inr ⟨i,hi,Or.inl rfl⟩)))))) ?_
  rintro e w' ⟨rfl,⟨io,co,lo,hio,hCw⟩,hc⟩
  have hcS:Chg S w w':=hc.wide (fun b hb=>by
   rcases hb with rfl | ⟨j,hj,hb⟩
   ·exact (h.own _).2 (Or.inl rfl)
   ·exact (h.own b).2 ((own_torn (x:=x) (q:=q) (fv:=fv) hi).1 (Or.inr (Or.inr (Or.inr ⟨j,hj,hb⟩)))))
  rw[hkk,List.set_set] at hCw
  rcases hs with ⟨rfl,rfl,rfl⟩ | ⟨t,c,ev,hr,hch,e5,hl,rfl,rfl,rfl⟩
  ·obtain ⟨S',hp,hS⟩:=wake_old h hi hio hCw
   exact ⟨rfl,S',hp,hS,hcS⟩
  ·obtain ⟨S',hp,hS⟩:=wake_new h hi hio hr hch e5 hl hCw
   exact ⟨rfl,S',hp,hS,hcS⟩
 up:=by
  rintro w x S s i ⟨q,cap,fv,ds,bs,D,P,h⟩ hi
  have hi':i<ds.length:=by rw[<- h.len];exact hi
  refine Calls.mono (CWake_up h.clu hi') ?_
  rintro e w' ⟨rfl,hC,hc⟩
  exact ⟨rfl,S,⟨q,cap,fv,ds,bs,D,P,h.keep hC⟩,fun k hk=>Or.inl hk,h.sx hc⟩
 stT:=by
  rintro M w w' x S s i m ⟨w0,q,cap,fv,ds,bs,D,P,hi,h,hz,hC⟩ hc hm
  refine ⟨w0,q,cap,fv,ds,bs,D,P,hi,h,Nat.le_trans hz hc.size, ?_⟩
  have ho:∀ b,ownS x q fv (ds.set i (ds[i].torn m)) b->¬M b:=fun b hb=>hm b ((h.own b).2 ((own_torn hi).1 hb))
  exact hC.chg hc (ho x (Or.inl rfl)) (ho q (Or.inr (Or.inl rfl))) (fun j hj b hb=>ho b (Or.inr (Or.inr (Or.inr ⟨j,hj,hb⟩)))) (fun g hg=>ho g (Or.inr (Or.inr (Or.inl hg))))
 stX:=by
  rintro M w w' x S s i ⟨m,w0,q,cap,fv,ds,bs,D,P,s0,K,C,n,hi,h,hz,hC,hs⟩ hc hm
  exact ⟨m,w0,q,cap,fv,ds,bs,D,P,s0,K,C,n,hi,h,Nat.le_trans hz hc.size,hC.chg hc (fun b hb=>hm b ((h.own b).2 ((own_torn hi).1 hb))),hs⟩
 ltT:=by
  rintro w x S s i m k ⟨w0,q,cap,fv,ds,bs,D,P,hi,h,hz,hC⟩ hk
  exact Nat.lt_of_lt_of_le (h.lt hk) hz
 ltX:=by
  rintro w x S s i k ⟨m,w0,q,cap,fv,ds,bs,D,P,s0,K,C,n,hi,h,hz,hC,hs⟩ hk
  exact Nat.lt_of_lt_of_le (h.lt hk) hz }
end Go.Proofs.YtfmmllpjgkgeaaaGreatDoor

