import Derived.Test.YtfmmllpjgkgeaaaGreatDoorPart45
import Derived.Test.YtfmmllpjgkgeaaaGreatDoorPart51
set_option linter.unusedVariables false
set_option linter.unusedSimpArgs false
namespace Go.Proofs.YtfmmllpjgkgeaaaGreatDoor
open Go.RowKit
variable {F:Stt} {G:List Nat->Stt} {wt:List Nat}

def boardTo (s:St) (wt:List Nat):Nat->Thk.Bs
 | 0=>[]
 | k+1=>boardTo s wt k ++ (tellsL s (k:Int) ++ (Thk.digits ((wt.getD k 0:Nat):Int) ++ [59]))
theorem tells_eq {s s':St} (h1:s'.es=s.es) (h2:s'.kn=s.kn) (i:Int):tellsL s' i=tellsL s i:=by
 have ht:∀ k,tellsTo s' i k=tellsTo s i k:=fun k=>by
  induction k with
  | zero=>rfl
  | succ k ih=>unfold tellsTo;rw[ih];unfold tellOne;rw[h1,h2]
 unfold tellsL
 rw[ht,h2]
theorem board_eq {s s':St} (h1:s'.es=s.es) (h2:s'.kn=s.kn) (wt:List Nat):∀ k,boardTo s' wt k=boardTo s wt k
 | 0=>rfl
 | k+1=>by unfold boardTo;rw[board_eq h1 h2 wt k,tells_eq h1 h2]

set_option maxHeartbeats 8000000 in
set_option maxRecDepth 100000 in
theorem board_any (hW:ProgWait F G) (hwt:∀ k,wt.getD k 0<=100) (T:Nat->Prop) (w w0:World) (x n:Nat) (s:St) (h:KAt (G wt) T w x s w0) (hE:EvsOk s) (hK:∀ l∈s.kn,l.length<=1000) (hn:s.kn.length=n) (hn4:n<=4) :
  Calls Tryz.prog 29 #[.pointer (some ⟨x,0,none⟩),.int .i64 (n:Int)] w0 fun e w'=>∃ u,e=.returned (.string u)/\toL u=boardTo s wt n/\KTo (G wt) T w x s w0 w':=by
 have H0:Hid (KTo (G wt) T w x s w0 w0):=⟨h,Chg.refl _ _⟩
 have Ht:Hid (∀ (k:Nat) wx,KTo (G wt) T w x s w0 wx->Calls Tryz.prog 21 #[.pointer (some ⟨x,0,none⟩),.int .i64 (k:Int)] wx fun e w'=>∃ u,e=.returned (.string u)/\Hid (toL u=tellsL s (k:Int))/\u.size<=200000/\Hid (KTo (G wt) T w x s w0 w')):=fun k wx hx=>by
  refine Calls.mono (tells_see (hW.see wt) (hW.frm wt) T w wx x s hx.1 hE hK (k:Int)) ?_
  rintro e w' ⟨u,rfl,hu,hs,hk⟩
  exact ⟨u,rfl,hu,hs,hx.trans hk⟩
 have Hw:Hid (∀ (k:Nat) wx,k<n->KTo (G wt) T w x s w0 wx->Calls Tryz.prog 37 #[.pointer (some ⟨x,0,none⟩),.int .i64 (k:Int)] wx fun e w'=>e=.returned (.tuple #[.int .i64 ((wt.getD k 0:Nat):Int),.int .i64 0])/\Hid (KTo (G wt) T w x s w0 w')):=fun k wx hk hx=>by
  refine Calls.mono (hx.1.waiting hW (by omega)) ?_
  rintro e w' ⟨rfl,hk⟩
  exact ⟨rfl,hx.trans hk⟩
 have Hd:Hid (∀ (k:Nat) wx,KTo (G wt) T w x s w0 wx->Calls Tryz.prog 26 #[.int .i64 ((wt.getD k 0:Nat):Int)] wx fun e w'=>∃ t,e=.returned (.string t)/\Hid (toL t=Thk.digits ((wt.getD k 0:Nat):Int))/\t.size<=200/\Hid (KTo (G wt) T w x s w0 w')):=fun k wx hx=>by
  have:=hwt k
  refine Calls.mono (kdigits_any _ wx (by omega)) ?_
  rintro e w' ⟨t,rfl,ht,hts,hb⟩
  exact ⟨t,rfl,ht,hts,hx.trans (hx.1.below (hW.frm wt) hb)⟩
 clear hW h hE hK hn
 go_enter Tryz.func29,Tryz.ntmps29
 go_wp2
 go_loopw [5,6] (fun v5 v6 wr=>∃ (k:Nat) (u:ByteArray),v6=.int .i64 (k:Int)/\v5=.string u/\k<=n/\u.size<=300000*k/\Hid (toL u=boardTo s wt k)/\Hid (KTo (G wt) T w x s w0 wr)) (fun _ v6 _=>n-(intOf v6).toNat)
 case atStart=>exact ⟨0,⟨#[]⟩,rfl,rfl,by omega,by decide,rfl,H0⟩
 case round =>
  clear H0
  obtain ⟨k,u,rfl,rfl,hk,hus,Hu,HK⟩:=hrel
  by_cases hk2:k<n
  ·have hkI:(k:Int)<(n:Int):=by omega
   have hwk:=hwt k
   have Htk:Hid (_):=Ht.out k wr HK.out
   have Hwk:Hid (∀ wx,_):=fun wx=>Hw.out k wx hk2
   have Hdk:Hid (∀ wx,_):=fun wx=>Hd.out k wx
   have HB:Hid (boardTo s wt (k+1)=boardTo s wt k ++ (tellsL s (k:Int) ++ (Thk.digits ((wt.getD k 0:Nat):Int) ++ [59]))):=rfl
   clear Ht Hw Hd hwt
   generalize wt.getD k 0=wk at *
   go_wp2_with fail
   refine Calls.mono Htk.out ?_
   rintro e w1 ⟨t,rfl,HT,hts,HK1⟩
   clear HK
   go_wp2_with fail
   refine Calls.mono (Hwk.out _ HK1.out) ?_
   rintro e w2 ⟨rfl,HK2⟩
   clear HK1
   go_wp2_with fail
   refine Calls.mono (Hdk.out _ HK2.out) ?_
   rintro e w3 ⟨d,rfl,Hdd,hds,HK3⟩
   clear HK2
   have Hn:Hid (toL (u ++ t ++ d ++ ⟨#[59]⟩)=boardTo s wt (k+1)):=by
    unfold Hid
    rw[HB.out,<- Hu.out,<- HT.out,<- Hdd.out]
    simp only[toL_append,List.append_assoc]
    rfl
   have Hsz:Hid ((u ++ t ++ d ++ ⟨#[59]⟩).size<=300000*(k+1)):=by
    unfold Hid
    simp only[ByteArray.size_append]
    have e1:(⟨#[59]⟩:ByteArray).size=1:=rfl
    omega
   clear Hu HT Hdd
   go_wp2
   go_roundw
   case rel=>exact ⟨k+1,_,by first | rfl | go_num,rfl,by omega,Hsz.out,Hn,HK3⟩
   case measure=>simp[intOf] <;> omega
  ·have hkI:¬(k:Int)<(n:Int):=by omega
   have hkn:k=n:=by omega
   have Hu2:Hid (toL u=boardTo s wt n):=by rw[<- hkn];exact Hu
   clear hkn Hu
   go_wp2
   go_ret
   exact ⟨u,rfl,Hu2.out,HK.out⟩

def natsV (l:List Nat):List Value:=ints (l.map fun (k:Nat)=>(k:Int))
theorem natsV_snoc (l:List Nat) (k:Nat):natsV (l ++ [k])=natsV l ++ [.int .i64 (k:Int)]:=by unfold natsV ints;simp
theorem natsV_get (l:List Nat) {k:Nat} (h:k<l.length):(natsV l)[k]? = some (.int .i64 (l[k]:Int)):=by unfold natsV ints;simp[h]
structure SI (F:Stt) (w:World) (x tb n i:Nat) (s:St) (l:List Nat) (ov:Value) (wr:World):Prop where
 a:AI F (rowT tb ov) w x tb n i s wr
 r:wr.ownsRow w.heap.size 3 1 ov l.length (natsV l)
 m:∀ f∈l,SentF s f
 len:l.length<=i
theorem SI.play (hF:ProgOK F) (hP:ProgFrame F) (hT:ProgTick F) {w wr:World} {x tb n i:Nat} {s:St} {l:List Nat} {ov:Value} (h:SI F w x tb n i s l ov wr) (hi:i<=400) {a:ActD} (ha:a.ok) :
  Calls Tryz.prog 19 #[.pointer (some ⟨tb,0,none⟩),.pointer (some ⟨x,0,none⟩),.int .i64 (n:Int),a.val] wr fun e w'=>e=.returned (.bool true)/\∃ s',((pickN a.kd 8=3\/pickN a.kd 8=4)->s.fs.length<s'.fs.length->SentF s' s'.fs.length)/\SI F w x tb n (i+1) s' l ov w':=by
 refine Calls.mono (h.a.play hF hP hT hi ha) ?_
 rintro e w' ⟨rfl,s',h1,h2,h3⟩
 obtain ⟨fl,hfl⟩:=h1.frs h.a.ok hi
 refine ⟨rfl,s',fun hk hl=>h1.sent h.a.ok hi hk hl,h2,ownsRow_chg h.r h3 (fun g hg e=>?_),fun f hf=>(h.m f hf).more hfl,by have:=h.len;omega⟩
 rcases e with e | e
 ·exact e.2 (Or.inr hg)
 ·subst e
  have ht:Tagged wr g 32:=⟨_,h.a.t⟩
  exact (row_tag h.r hg).1.ne ht (by decide) rfl
structure DI (F:Stt) (w:World) (x tb n c:Nat) (l:List Nat) (ov:Value) (j:Nat) (s:St) (wr:World):Prop where
 k:KAt F (rowT tb ov) w x s wr
 ok:KOk n c s
 r:wr.ownsRow w.heap.size 3 1 ov l.length (natsV l)
 m:∀ f∈l,SentF s f
 had:∀ q (h:q<l.length),q<j->HadF s l[q]
theorem DI.step (hF:ProgOK F) {w wr:World} {x tb n c:Nat} {l:List Nat} {ov:Value} {j:Nat} {s:St} (h:DI F w x tb n c l ov j s wr) (hc:c<=400) {q:Nat} (hq:q<l.length) (hj:q<=j) :
  Calls Tryz.prog 31 #[.pointer (some ⟨x,0,none⟩),.int .i64 (l[q]:Int)] wr fun e w'=>∃ a:Int,e=.returned (.tuple #[.int .i64 a,.int .i64 0])/\∃ s',(q<j->s'.es=s.es/\s'.kn=s.kn)/\DI F w x tb n (c+1) l ov j s' w'/\(q=j->DI F w x tb n (c+1) l ov (j+1) s' w'):=by
 have hm:=h.m l[q] (List.getElem_mem hq)
 refine Calls.mono (h.k.dels hF (l[q]:Int)) ?_
 rw[delR_sent h.ok hc hm]
 rintro e w' ⟨rfl,s',hd,hk,hch⟩
 obtain ⟨k1,k2,⟨fl,k3⟩,k4,k5,k6⟩:=h.ok.del hc hm hd
 have hr:=ownsRow_chg h.r hch (fun g hg e=>e.2 (Or.inr hg))
 have hm2:∀ f∈l,SentF s' f:=fun f hf=>(h.m f hf).more k3
 have hh2:∀ p (hp:p<l.length),p<j->HadF s' l[p]:=fun p hp hpj=>(h.had p hp hpj).more k3 k4
 refine ⟨_,rfl,s',fun hqj=>⟨k2,k6 (h.had q hq hqj)⟩,⟨hk,k1,hr,hm2,hh2⟩,fun e=>⟨hk,k1,hr,hm2,fun p hp hpj=>?_⟩⟩
 by_cases hpq:p=q
 ·subst hpq;exact k5
 ·exact hh2 p hp (by omega)
theorem SI.deliver {w wr:World} {x tb n i:Nat} {s:St} {l:List Nat} {ov:Value} (h:SI F w x tb n i s l ov wr):DI F w x tb n i l ov 0 s wr:=⟨h.a.k,h.a.ok,h.r,h.m,fun q hq h0=>by omega⟩
theorem DI.calls {w wr w':World} {x tb n c:Nat} {l:List Nat} {ov:Value} {j:Nat} {s:St} (h:DI F w x tb n c l ov j s wr) (hk:KTo F (rowT tb ov) w x s wr w'):DI F w x tb n c l ov j s w':=⟨hk.1,h.ok,ownsRow_chg h.r hk.2 (fun g hg e=>e.2 (Or.inr hg)),h.m,h.had⟩
theorem DI.board (hW:ProgWait F G) {w wr:World} {x tb n c:Nat} {l:List Nat} {ov:Value} {j:Nat} {s:St} (h:DI (G wt) w x tb n c l ov j s wr) (hc:c<=400) :
  Calls Tryz.prog 29 #[.pointer (some ⟨x,0,none⟩),.int .i64 (n:Int)] wr fun e w'=>e=.returned (.string ⟨(boardTo s wt n).toArray⟩)/\DI (G wt) w x tb n c l ov j s w':=by
 have hs:=h.ok.small hc
 have hwt:∀ k,wt.getD k 0<=100:=by
  obtain ⟨S,f1,_⟩:=h.k.f
  exact hW.bnd f1
 refine Calls.mono (board_any hW hwt (rowT tb ov) w wr x n s h.k hs.1 hs.2 h.ok.len h.ok.n4) ?_
 rintro e w' ⟨u,rfl,hu,hk⟩
 have:u=⟨(boardTo s wt n).toArray⟩:=toL_inj (by rw[hu];simp[toL])
 subst this
 exact ⟨rfl,h.calls hk⟩
theorem DI.lift (hW:ProgWait F G) {w wr:World} {x tb n c:Nat} {l:List Nat} {ov:Value} {j:Nat} {s:St} (h:DI F w x tb n c l ov j s wr):∃ wt,DI (G wt) w x tb n c l ov j s wr:=by
 obtain ⟨wt,hk⟩:=h.k.wt hW
 exact ⟨wt,hk,h.ok,h.r,h.m,h.had⟩
theorem DI.again (hW:ProgWait F G) {w wr:World} {x tb n c:Nat} {l:List Nat} {ov:Value} {j:Nat} {s:St} (h:DI (G wt) w x tb n c l ov j s wr) (hc:c<=400) {q:Nat} (hq:q<l.length) (hj:q<j) :
  Calls Tryz.prog 31 #[.pointer (some ⟨x,0,none⟩),.int .i64 (l[q]:Int)] wr fun e w'=>∃ a:Int,e=.returned (.tuple #[.int .i64 a,.int .i64 0])/\∃ s',(s'.es=s.es/\s'.kn=s.kn)/\DI (G wt) w x tb n (c+1) l ov j s' w':=by
 have hm:=h.m l[q] (List.getElem_mem hq)
 refine Calls.mono (h.k.delsW hW (l[q]:Int) (fun s' hd=>(h.ok.del hc hm hd).2.2.2.2.2 (h.had q hq hj))) ?_
 rw[delR_sent h.ok hc hm]
 rintro e w' ⟨rfl,s',hd,hk,hch⟩
 obtain ⟨k1,k2,⟨fl,k3⟩,k4,k5,k6⟩:=h.ok.del hc hm hd
 exact ⟨_,rfl,s',⟨k2,k6 (h.had q hq hj)⟩,hk,k1,ownsRow_chg h.r hch (fun g hg e=>e.2 (Or.inr hg)),fun f hf=>(h.m f hf).more k3,fun p hp hpj=>(h.had p hp hpj).more k3 k4⟩
theorem SI.note (hP:ProgFrame F) {w wr w2:World} {x tb n i:Nat} {s:St} {l:List Nat} {ov v2:Value} {o:Obj} {f:Nat} (h:SI F w x tb n i s l ov wr) (hl:l.length<i) (hf:SentF s f) (h2:w2.ownsRow w.heap.size 3 1 v2 (l.length+1) (natsV l ++ [.int .i64 (f:Int)])) (hg:(wr.alloc o).grownBy w2 ov.ownBlock):SI F w x tb n i s (l ++ [f]) v2 w2:=by
 refine ⟨h.a.row hP h.r h2 hg,by rw[natsV_snoc,List.length_append];exact h2,fun g hg=>?_,by simp;omega⟩
 rcases List.mem_append.1 hg with hg | hg
 ·exact h.m g hg
 ·simp at hg;subst hg;exact hf
end Go.Proofs.YtfmmllpjgkgeaaaGreatDoor

