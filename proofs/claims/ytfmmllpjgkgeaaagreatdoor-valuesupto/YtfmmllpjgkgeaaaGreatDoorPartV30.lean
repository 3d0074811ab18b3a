import Derived.Conc.MuLone
import Derived.Conc.MuData
import Derived.KernelRfl
import Derived.Test.YtfmmllpjgkgeaaaGreatDoorPartV19
import Derived.Test.YtfmmllpjgkgeaaaGreatDoorPartV29
set_option linter.unusedVariables false
set_option linter.unusedSimpArgs false
set_option maxHeartbeats 16000000
set_option maxRecDepth 100000
namespace Go.Proofs
abbrev YtfmmllpjgkgeaaaGreatDoor.muLink:Go.Conc.Locks.MuLink:={ lock:=43,unlock:=44,ilock:=77,iunlock:=78,lockSlow:=132,unlockSlow:=135,disable:=128,enable:=130,acquire:=131,relMerge:=133,cas32:=129,add32:=134,tMutex:=75,tIMutex:=73,tPMutex:=121,tPIMutex:=184,tPI32:=186,tUP:=188,tNoCopy:=70,tU32:=71 }
theorem YtfmmllpjgkgeaaaGreatDoor.muLib:Go.Conc.Locks.MuLib Tryz.prog YtfmmllpjgkgeaaaGreatDoor.muLink :=
 ⟨Tryz.func43,Tryz.func44,Tryz.func77,Tryz.func78,Tryz.func128,Tryz.func130,Tryz.func131,Tryz.func133,Tryz.func129,Tryz.func134,
  Tryz.underlying73,Tryz.runUnderlying73,Tryz.sizeOf73,Tryz.isAgg73,Tryz.zeroValue73,Tryz.underlying75,Tryz.runUnderlying75,Tryz.sizeOf75,Tryz.isAgg75,Tryz.zeroValue75,Tryz.underlying121,Tryz.runUnderlying121,Tryz.sizeOf121,Tryz.isAgg121,Tryz.zeroValue121,Tryz.underlying184,Tryz.runUnderlying184,Tryz.sizeOf184,Tryz.isAgg184,Tryz.zeroValue184,Tryz.underlying186,Tryz.runUnderlying186,Tryz.sizeOf186,Tryz.isAgg186,Tryz.zeroValue186,Tryz.underlying188,Tryz.runUnderlying188,Tryz.sizeOf188,Tryz.isAgg188,Tryz.zeroValue188,Tryz.underlying70,Tryz.runUnderlying70,Tryz.sizeOf70,Tryz.isAgg70,Tryz.zeroValue70,Tryz.underlying21,Tryz.runUnderlying21,Tryz.sizeOf21,Tryz.isAgg21,Tryz.zeroValue21,(by kernel_rfl)⟩
end Go.Proofs

namespace Go.Proofs.YtfmmllpjgkgeaaaGreatDoor
open Go.RowKit Go.Maps Go.WideMaps

abbrev RepD:=RD
def frV (bs:List (Nat × ByteArray)):List Value:=bs.flatMap fun b=>[.int .i64 (b.1:Int),.string b.2]
structure CluP (w:World) (x q cap:Nat) (fv:Value) (st:Int) (ds:List RepD) (bs:List (Nat × ByteArray)):Prop where
 blk:Blk w x #[.int .i32 st,.int .u32 0,.slice (some ⟨q,0,none⟩) ds.length cap,fv] 79
 row:∃ cs,Blk w q cs 81/\∀ j (h:j<ds.length),cs[j]? = some (.pointer (some ⟨ds[j].rb,0,none⟩))
 fr:w.ownsRow 0 109 2 fv bs.length (frV bs)
 rep:∀ j (h:j<ds.length),RepF w ds[j]
 ra:∀ j (h:j<ds.length),ds[j].a=j/\ds[j].cut=false/\∀ i,i∈ds[j].nb↔i<ds.length/\i≠j
 apart:∀ i j (hi:i<ds.length) (hj:j<ds.length),i≠j->∀ k,ds[i].own k->¬ds[j].own k
 xr:∀ j (h:j<ds.length),¬ds[j].own x
 qr:∀ j (h:j<ds.length),¬ds[j].own q
 len:ds.length<=6
 cap:ds.length<=cap
 x4:4<=x
 b500:bs.length<=500

section
variable {w w':World} {x q cap:Nat} {fv:Value} {st:Int} {ds:List RepD} {bs:List (Nat × ByteArray)}
theorem CluP.frT (h:CluP w x q cap fv st ds bs):∀ g,fv.ownBlock=some g->Tagged w g 109:=by
 intro g hg
 obtain ⟨_,h1 | ⟨g',cap,cur,rfl,_,hh,_⟩⟩:=h.fr
 ·rw[h1.1] at hg;cases hg
 ·cases hg;exact ⟨cur,hh⟩
theorem CluP.xq (h:CluP w x q cap fv st ds bs):x≠q:=by
 intro e
 obtain ⟨cs,h1,_⟩:=h.row
 have:=h.blk
 subst e
 have e2:some (Obj.cells _ _ _)=some (Obj.cells _ _ _):=(show w.heap[x]? = _ from this).symm.trans h1
 injection e2 with e2
 injection e2 with _ e3
 exact absurd e3 (by decide)
theorem CluP.chg {M:Nat->Prop} (h:CluP w x q cap fv st ds bs) (hc:Chg M w w') (h1:¬M x) (h2:¬M q) (h3:∀ j (h:j<ds.length) k,ds[j].own k->¬M k) (h4:∀ g,fv.ownBlock=some g->¬M g):CluP w' x q cap fv st ds bs:=by
 obtain ⟨cs,r1,r2⟩:=h.row
 exact ⟨h.blk.chg hc h1,⟨cs,r1.chg hc h2,r2⟩,ownsRow_chg h.fr hc h4,fun j hj=>(h.rep j hj).chg hc (h3 j hj),h.ra,h.apart,h.xr,h.qr,h.len,h.cap,h.x4,h.b500⟩
theorem CluP.below (h:CluP w x q cap fv st ds bs) (hb:Below w.heap.size w w'):CluP w' x q cap fv st ds bs:=h.chg (M:=fun _=>False) (Chg.of_below hb) (fun h=>h) (fun h=>h) (fun _ _ _ _ h=>h) (fun _ _ h=>h)
theorem CluP.cell (h:CluP w x q cap fv st ds bs) (j:Nat) (hj:j<ds.length):w.cell? ⟨q,j,none⟩=some (.pointer (some ⟨ds[j].rb,0,none⟩)):=by
 obtain ⟨cs,r1,r2⟩:=h.row
 exact (r1.cell j).trans (r2 j hj)
theorem CluP.turn (h:CluP w x q cap fv st ds bs) (st':Int):CluP (w.setCell ⟨x,0,none⟩ (.int .i32 st')) x q cap fv st' ds bs:=by
 have hc:Chg (fun k=>k=x) w (w.setCell ⟨x,0,none⟩ (.int .i32 st')):=Chg.setCell (M:=fun k=>k=x) (p:=⟨x,0,none⟩) (Chg.refl _ w) rfl _
 obtain ⟨cs,r1,r2⟩:=h.row
 refine ⟨?_,⟨cs,r1.chg hc (Ne.symm h.xq),r2⟩,ownsRow_chg h.fr hc (fun g hg e=>Tagged.ne (h.frT g hg) ⟨_,h.blk⟩ (by decide) e),fun j hj=>(h.rep j hj).chg hc (fun k hk e=>h.xr j hj (e ▸ hk)),h.ra,h.apart,h.xr,h.qr,h.len,h.cap,h.x4,h.b500⟩
 have hb:=h.blk
 unfold Blk at hb ⊢
 simp[World.setCell,Array.getElem?_modify,hb]
end

def namedL (n:Nat) (l:List Int):Int:=if ∀ i∈l,0<=i/\i<n then 0 else 2
def namedR (n:Nat) (i:Int):Int:=if 0<=i/\i<n then 0 else 2
theorem namedL_1 (n:Nat) (i:Int):namedL n [i]=namedR n i:=by unfold namedL namedR;simp
theorem CluP.repP {w:World} {x q cap:Nat} {fv:Value} {st:Int} {ds:List RepD} {bs:List (Nat × ByteArray)} (h:CluP w x q cap fv st ds bs) (j:Nat) (hj:j<ds.length):RepP w ds[j].rb j ds[j].io ds[j].co ds[j].lo ds[j].K ds[j].C:=by
 have:=(h.rep j hj).rep
 rw[(h.ra j hj).1] at this
 exact this

theorem isReplica_any (w:World) (x q cap L:Nat) (c2:w.cell? ⟨x,2,none⟩=some (.slice (some ⟨q,0,none⟩) L cap)) (i:Int) :
  Calls Tryz.prog 61 #[.pointer (some ⟨x,0,none⟩),.int .i64 i] w fun e w'=>e=.returned (.bool (decide (0<=i/\i<L)))/\w'=w:=by
 by_cases h0:0<=i
 ·by_cases h1:i<L
  ·have e:decide (0<=i/\i<L)=true:=by simp[h0,h1]
   rw[e]
   have hd:decide ((0:Int)<=i)=true:=by simpa using h0
   have hd1:decide (i<(L:Int))=true:=by simpa using h1
   clear e
   go_enter Tryz.func61,Tryz.ntmps61
   go_wp2
   go_ret
   exact ⟨rfl,rfl⟩
  ·have e:decide (0<=i/\i<L)=false:=by simp[h1]
   rw[e]
   have hd:decide ((0:Int)<=i)=true:=by simpa using h0
   have hd1:decide (i<(L:Int))=false:=by simpa using h1
   clear e
   go_enter Tryz.func61,Tryz.ntmps61
   go_wp2
   go_ret
   exact ⟨rfl,rfl⟩
 ·have e:decide (0<=i/\i<L)=false:=by simp[h0]
  rw[e]
  have hd:decide ((0:Int)<=i)=false:=by simpa using h0
  clear e
  go_enter Tryz.func61,Tryz.ntmps61
  go_wp2
  go_ret
  exact ⟨rfl,rfl⟩

theorem named_list (w:World) (x q cap:Nat) (fv:Value) (st:Int) (ds:List RepD) (bs:List (Nat × ByteArray)) (hC:CluP w x q cap fv st ds bs) (g:Nat) (l:List Int) (hl:l.length<=10) (hg:∀ j (h:j<l.length),w.cell? ⟨g,j,none⟩=some (.int .i64 l[j])) :
  Calls Tryz.prog 45 #[.pointer (some ⟨x,0,none⟩),.slice (some ⟨g,0,none⟩) l.length l.length] w fun e w'=>e=.returned (.int .i64 (namedL ds.length l))/\w'=w:=by
 have c2:w.cell? ⟨x,2,none⟩=some (.slice (some ⟨q,0,none⟩) ds.length cap):=(hC.blk.cell 2).trans rfl
 have hlen:=hC.len
 have Hcap:Hid (ds.length<=cap/\∀ (k:Nat) (h:k<ds.length),w.cell? ⟨q,k,none⟩=some (.pointer (some ⟨ds[k].rb,0,none⟩))/\Calls Tryz.prog 62 #[.pointer (some ⟨ds[k].rb,0,none⟩)] w fun e w'=>e=.returned (.bool false)/\w'=w):=⟨hC.cap,fun k h=>⟨hC.cell k h,IsDown_any w ds[k] (hC.rep k h)⟩⟩
 have HI:Hid (∀ i,Calls Tryz.prog 61 #[.pointer (some ⟨x,0,none⟩),.int .i64 i] w fun e w'=>e=.returned (.bool (decide (0<=i/\i<ds.length)))/\w'=w):=fun i=>isReplica_any w x q cap ds.length c2 i
 clear hC
 have Hr:Hid (namedL ds.length l=if ∀ i∈l,0<=i/\i<ds.length then 0 else 2):=rfl
 generalize namedL ds.length l=R at *
 have Hg:Hid (∀ j (h:j<l.length),w.cell? ⟨g,j,none⟩=some (.int .i64 l[j])):=hg
 clear hg
 go_enter Tryz.func45,Tryz.ntmps45
 go_wp2
 go_loopg [6,9] l.length (fun gh v6 v9 wx=>∃ i:Nat,i+gh=l.length/\v9=.int .i64 (i:Int)/\Hid (∀ j (h:j<l.length),j<i->0<=l[j]/\l[j]<ds.length)/\wx=w)
 case atStart=>exact ⟨0,by omega,rfl,fun j _ h=>absurd h (by omega),rfl⟩
 case round =>
  obtain ⟨i,hi,rfl,hin,rfl⟩:=hrel
  by_cases hlt:i<l.length
  ·have hc:=Hg.out i hlt
   have Hm:Hid (l[i]∈l):=List.getElem_mem hlt
   have He:Hid (∀ j (h:j<l.length),j<i+1->j<i\/l[j]=l[i]):=fun j h h2=>by
    by_cases e:j=i
    ·subst e;exact Or.inr rfl
    ·exact Or.inl (by omega)
   generalize l[i]=y at *
   by_cases h1:0<=y/\y<(ds.length:Int)
   ·have hz:Hid (0<=y/\y<(ds.length:Int)):=h1
    have hdec:decide (0<=y/\y<(ds.length:Int))=true:=by simpa using h1
    obtain ⟨k,rfl⟩:∃ k:Nat,y=(k:Int):=⟨y.toNat,by omega⟩
    have hk:k<ds.length:=by omega
    have hkc:=Hcap.out.1
    have hq:=(Hcap.out.2 k hk).1
    have HD:Hid (_):=(Hcap.out.2 k hk).2
    generalize ds[k].rb=rbk at *
    have hIk:=HI.out (k:Int)
    rw[hdec] at hIk
    clear hdec
    go_wp2_with fail
    refine Calls.mono hIk ?_
    rintro e w2 ⟨rfl,rfl⟩
    go_wp2_with fail
    refine Calls.mono HD.out ?_
    rintro e w3 ⟨rfl,rfl⟩
    go_wp2
    go_roundg (l.length-(i+1))
    case measure=>omega
    case rel=>exact ⟨i+1,by omega,by go_num,fun j h h2=>by
     rcases He.out j h h2 with h3 | h3
     ·exact hin.out j h h3
     ·rw[h3];exact hz.out,rfl⟩
   ·have hdec:decide (0<=y/\y<(ds.length:Int))=false:=by simpa using h1
    have Hno:Hid (¬(0<=y/\y<(ds.length:Int))):=h1
    have hIk:=HI.out y
    rw[hdec] at hIk
    clear hdec h1
    go_wp2_with fail
    refine Calls.mono hIk ?_
    rintro e w2 ⟨rfl,rfl⟩
    go_wp2
    go_ret
    exact ⟨by rw[Hr.out,if_neg (fun h=>Hno.out (h y Hm.out))];rfl,rfl⟩
  ·have hz:Hid (∀ y∈l,0<=y/\y<(ds.length:Int)):=fun y hy=>by
    obtain ⟨j,hj,rfl⟩:=List.getElem_of_mem hy
    exact hin.out j hj (by omega)
   go_wp2
   go_ret
   exact ⟨by rw[Hr.out,if_pos hz.out];rfl,rfl⟩
theorem named_any (w:World) (x q cap:Nat) (fv:Value) (st:Int) (ds:List RepD) (bs:List (Nat × ByteArray)) (hC:CluP w x q cap fv st ds bs) (g:Nat) (i:Int) (hg:w.cell? ⟨g,0,none⟩=some (.int .i64 i)) :
  Calls Tryz.prog 45 #[.pointer (some ⟨x,0,none⟩),.slice (some ⟨g,0,none⟩) 1 1] w fun e w'=>e=.returned (.int .i64 (namedR ds.length i))/\w'=w:=by
 rw[<- namedL_1]
 exact named_list w x q cap fv st ds bs hC g [i] (by simp) (fun j h=>by
  have:j=0:=by simpa using h
  subst this;exact hg)

def ownN (ds:List RepD) (j:Nat):Nat:=(ds[j]?.map fun d=>d.K j).getD 0
def sumN (ds:List RepD):Nat->Nat
 | 0=>0
 | k+1=>sumN ds k+ownN ds k
theorem ownN_eq (ds:List RepD) (k:Nat) (h:k<ds.length):ownN ds k=ds[k].K k:=by unfold ownN;simp[h]
theorem sumN_succ (ds:List RepD) (k:Nat) (h:k<ds.length):sumN ds (k+1)=sumN ds k+ds[k].K k:=by rw[sumN,ownN_eq ds k h]
theorem sumN_le (ds:List RepD) (hn:∀ j (h:j<ds.length),ds[j].K j<=500):∀ k,k<=ds.length->sumN ds k<=500*k
 | 0,_=>by simp[sumN]
 | k+1,h=>by rw[sumN_succ ds k (by omega)];have:=sumN_le ds hn k (by omega);have:=hn k (by omega);omega

theorem events_any (w:World) (x q cap:Nat) (fv:Value) (st:Int) (ds:List RepD) (bs:List (Nat × ByteArray)) (hC:CluP w x q cap fv st ds bs) :
  Calls Tryz.prog 48 #[.pointer (some ⟨x,0,none⟩)] w fun e w'=>e=.returned (.int .i64 (sumN ds ds.length:Int))/\Below w.heap.size w w':=by
 have c2:w.cell? ⟨x,2,none⟩=some (.slice (some ⟨q,0,none⟩) ds.length cap):=(hC.blk.cell 2).trans rfl
 have hlen:=hC.len
 have Hs:Hid (∀ k,k<=ds.length->sumN ds k<=500*k):=sumN_le ds (fun j h=>(hC.rep j h).k500 j)
 have Hm:Hid (∀ j (h:j<ds.length) wx,Below w.heap.size w wx->wx.cell? ⟨q,j,none⟩=some (.pointer (some ⟨ds[j].rb,0,none⟩))/\Calls Tryz.prog 86 #[.pointer (some ⟨ds[j].rb,0,none⟩)] wx fun e w'=>e=.returned (.int .i64 (ds[j].K j:Int))/\Below w.heap.size w w'):=fun j hj wx hb=>by
  refine ⟨(hC.below hb).cell j hj,Calls.mono (Made_any wx _ _ _ _ _ _ _ ((hC.below hb).repP j hj)) ?_⟩
  rintro e w' ⟨rfl,hb2⟩
  exact ⟨rfl,hb.trans (hb2.mono hb.size)⟩
 clear hC
 go_enter Tryz.func48,Tryz.ntmps48
 go_wp2
 go_loopg [3,11] ds.length (fun g v3 v11 wx=>∃ i:Nat,i+g=ds.length/\v3=.int .i64 (sumN ds i:Int)/\v11=.int .i64 (i:Int)/\Below w.heap.size w wx)
 case atStart=>exact ⟨0,by omega,rfl,rfl,Below.refl _ w⟩
 case round =>
  obtain ⟨i,hi,rfl,rfl,hb⟩:=hrel
  by_cases hlt:i<ds.length
  ·obtain ⟨hc,hm⟩:=Hm.out i hlt _ hb
   have HM:Hid (_):=hm
   have hs:=sumN_succ ds i hlt
   have hle:=Hs.out (i+1) (by omega)
   clear hm
   generalize ds[i].K i=ki at *
   go_wp2_with fail
   refine Calls.mono HM.out ?_
   rintro e w1 ⟨rfl,hb1⟩
   clear HM hc
   go_wp2_with fail
   go_roundg (ds.length-(i+1))
   case measure=>omega
   case rel=>exact ⟨i+1,by omega,by go_num,by go_num,hb1⟩
  ·have he:i=ds.length:=by omega
   subst he
   go_wp2_with fail
   go_ret
   exact ⟨rfl,hb⟩
end Go.Proofs.YtfmmllpjgkgeaaaGreatDoor
namespace Go.Proofs.YtfmmllpjgkgeaaaGreatDoor
open Go.RowKit Go.Maps Go.WideMaps Go.MuLone

theorem chg_turn {M:Nat->Prop} {w:World} {x:Nat} (h:M x) (v:Value):Chg M w (w.setCell ⟨x,0,none⟩ v):=Chg.setCell (M:=M) (p:=⟨x,0,none⟩) (Chg.refl _ w) h v

def knowsD (ds:List RepD) (i:Int):Int × Int:=if 0<=i/\i<ds.length then (((ds[i.toNat]?.map fun d=>sizeK d.K).getD 0:Nat),0) else (0,2)

theorem CKnows_any (w:World) (x q cap:Nat) (fv:Value) (ds:List RepD) (bs:List (Nat × ByteArray)) (hC:CluP w x q cap fv 0 ds bs) (i:Int) :
  Calls Tryz.prog 22 #[.pointer (some ⟨x,0,none⟩),.int .i64 i] w fun e w'=>e=.returned (.tuple #[.int .i64 (knowsD ds i).1,.int .i64 (knowsD ds i).2])/\CluP w' x q cap fv 0 ds bs/\Chg (fun k=>k=x) w w':=by
 have HC:Hid (CluP w x q cap fv 0 ds bs):=hC
 have k0:w.cell? ⟨x,0,none⟩=some (.int .i32 0):=(hC.blk.cell 0).trans rfl
 have z0:w.frozen? ⟨x,0,none⟩=false:=hC.blk.frozen 0
 have HC1:Hid (CluP (w.setCell ⟨x,0,none⟩ (.int .i32 1)) x q cap fv 1 ds bs):=hC.turn 1
 have hxl:=hC.blk.lt
 clear hC
 go_enter_defers Tryz.func22,Tryz.ntmps22
 go_wp2_with (go_at_call 43;refine (lock_free muLib ⟨x,0,none⟩ _ k0 z0).mono ?_;rintro e w' ⟨rfl,rfl⟩)
 have h1b:Below (w.setCell ⟨x,0,none⟩ (.int .i32 1)).heap.size (w.setCell ⟨x,0,none⟩ (.int .i32 1)) ((w.setCell ⟨x,0,none⟩ (.int .i32 1)).alloc (.cells #[.int .i64 i] 3)):=(Below.refl _ _).alloc (Nat.le_refl _) _
 have hgc:((w.setCell ⟨x,0,none⟩ (.int .i32 1)).alloc (.cells #[.int .i64 i] 3)).cell? ⟨w.heap.size,0,none⟩=some (.int .i64 i):=by
  have:=(Blk.new (w.setCell ⟨x,0,none⟩ (.int .i32 1)) #[.int .i64 i] 3).cell 0
  simpa using this
 have hch:Chg (fun k=>k=x) w ((w.setCell ⟨x,0,none⟩ (.int .i32 1)).alloc (.cells #[.int .i64 i] 3)):=(chg_turn (M:=fun k=>k=x) rfl _).below h1b
 have HB:=HC1.out.below h1b
 refine Calls.mono (named_any _ x q cap fv 1 ds bs HB w.heap.size i hgc) ?_
 rintro e w1 ⟨rfl,hw1⟩
 rw[<- hw1] at HB hch
 clear hgc h1b hw1 HC1 k0 z0 hxl
 have HC1:Hid (CluP w1 x q cap fv 1 ds bs):=HB
 have Hch:Hid (Chg (fun k=>k=x) w w1):=hch
 clear HB hch HC
 by_cases hi:0<=i/\i<ds.length
 ·obtain ⟨k,rfl⟩:=Int.eq_ofNat_of_zero_le hi.1
  have hk:k<ds.length:=by omega
  have hn:namedR ds.length (k:Int)=0:=by unfold namedR;rw[if_pos hi]
  have hkd:Hid (knowsD ds (k:Int)=((sizeK ds[k].K:Int),0)):=by unfold Hid knowsD;rw[if_pos hi];simp[hk]
  rw[hn]
  have c2:w1.cell? ⟨x,2,none⟩=some (.slice (some ⟨q,0,none⟩) ds.length cap):=(HC1.out.blk.cell 2).trans rfl
  have cq:=HC1.out.cell k hk
  have HK:Hid (_):=RepKnows_any w1 _ _ _ _ _ _ _ (HC1.out.repP k hk)
  clear hn hi
  go_wp2_with fail
  refine Calls.mono HK.out ?_
  rintro e w2 ⟨rfl,hb2⟩
  have HC2:Hid (CluP w2 x q cap fv 1 ds bs):=HC1.out.below hb2
  have Hch2:Hid (Chg (fun k=>k=x) w w2):=Hch.out.below hb2
  clear HK HC1 Hch hb2 c2 cq
  go_wp2_with fail
  refine leaves_cons (f:=44) (args:=#[.pointer (some ⟨x,0,none⟩)]) (by simp) (by simp[go_sem]) ?_
  refine (unlock_deferred muLib ⟨x,0,none⟩ .returning _ ((HC2.out.blk.cell 0).trans rfl) (HC2.out.blk.frozen 0)).mono ?_
  rintro e u' w3 ⟨rfl,rfl,rfl⟩
  exact ⟨_,results_tmp2 rfl _ _ _,by rw[hkd.out];rfl,HC2.out.turn 0,Chg.setCell (M:=fun k=>k=x) (p:=⟨x,0,none⟩) Hch2.out rfl _⟩
 ·have hn:namedR ds.length i=2:=by unfold namedR;rw[if_neg hi]
  have hkd:Hid (knowsD ds i=(0,2)):=by unfold Hid knowsD;rw[if_neg hi]
  rw[hn]
  clear hn hi
  go_wp2_with fail
  refine leaves_cons (f:=44) (args:=#[.pointer (some ⟨x,0,none⟩)]) (by simp) (by simp[go_sem]) ?_
  refine (unlock_deferred muLib ⟨x,0,none⟩ .returning _ ((HC1.out.blk.cell 0).trans rfl) (HC1.out.blk.frozen 0)).mono ?_
  rintro e u' w3 ⟨rfl,rfl,rfl⟩
  exact ⟨_,results_tmp2 rfl _ _ _,by rw[hkd.out];rfl,HC1.out.turn 0,Chg.setCell (M:=fun k=>k=x) (p:=⟨x,0,none⟩) Hch.out rfl _⟩

theorem Glob.chg4 {M:Nat->Prop} {w w':World} (h:Glob w) (hc:Chg M w w') (h4:∀ k,M k->4<=k):Glob w':=by
 obtain ⟨⟨m,g1⟩,⟨e1,g2,g2'⟩,⟨e2,g3,g3'⟩,g4,g5⟩:=h
 have hb4:Below 4 w w':=⟨hc.os,hc.tape,hc.output,hc.size,fun k hk=>hc.block k (by omega) (fun hk2=>by have:=h4 k hk2;omega)⟩
 refine ⟨⟨m,(hb4.cell (p:=⟨0,0,none⟩) (by decide)).trans g1⟩,⟨e1,(hb4.cell (p:=⟨1,0,none⟩) (by decide)).trans g2,g2'⟩,⟨e2,(hb4.cell (p:=⟨2,0,none⟩) (by decide)).trans g3,g3'⟩, ?_,Nat.lt_of_lt_of_le g5 hb4.size⟩
 exact var?_below (g:=3) hb4 (by kernel_rfl) (by decide) g4

def AskOut (ds:List RepD) (i:Int) (s t:ByteArray) (r:Int):Prop :=
 (¬(0<=i/\i<ds.length)/\t=⟨#[]⟩/\r=2)\/((0<=i/\i<ds.length)/\Thk.path (toL s)=false/\t=⟨#[]⟩/\r=4) \/
 ∃ k,∃ h:k<ds.length,i=(k:Int)/\Thk.path (toL s)=true/\r=0/\∃ xs,SAll (itOf ds[k].C) xs/\t=⟨(tellP (toL s) xs).toArray⟩

theorem CAsk_any (w:World) (hG:Glob w) (x q cap:Nat) (fv:Value) (ds:List RepD) (bs:List (Nat × ByteArray)) (hC:CluP w x q cap fv 0 ds bs) (hok:∀ j (h:j<ds.length),ItmsOK (SAll (itOf ds[j].C))) (i:Int) (s:ByteArray) (hs:s.size<=1048576) :
  Calls Tryz.prog 24 #[.pointer (some ⟨x,0,none⟩),.int .i64 i,.string s] w fun e w'=>∃ t r,e=.returned (.tuple #[.string t,.int .i64 r])/\AskOut ds i s t r/\CluP w' x q cap fv 0 ds bs/\Chg (fun k=>k=x) w w':=by
 have Hok:Hid (∀ j (h:j<ds.length),ItmsOK (SAll (itOf ds[j].C))):=hok
 clear hok
 have HC:Hid (CluP w x q cap fv 0 ds bs):=hC
 have k0:w.cell? ⟨x,0,none⟩=some (.int .i32 0):=(hC.blk.cell 0).trans rfl
 have z0:w.frozen? ⟨x,0,none⟩=false:=hC.blk.frozen 0
 have HC1:Hid (CluP (w.setCell ⟨x,0,none⟩ (.int .i32 1)) x q cap fv 1 ds bs):=hC.turn 1
 have HG:Hid (Glob w):=hG
 clear hC hG
 go_enter_defers Tryz.func24,Tryz.ntmps24
 go_wp2_with (go_at_call 43;refine (lock_free muLib ⟨x,0,none⟩ _ k0 z0).mono ?_;rintro e w' ⟨rfl,rfl⟩)
 have h1b:Below (w.setCell ⟨x,0,none⟩ (.int .i32 1)).heap.size (w.setCell ⟨x,0,none⟩ (.int .i32 1)) ((w.setCell ⟨x,0,none⟩ (.int .i32 1)).alloc (.cells #[.int .i64 i] 3)):=(Below.refl _ _).alloc (Nat.le_refl _) _
 have hgc:((w.setCell ⟨x,0,none⟩ (.int .i32 1)).alloc (.cells #[.int .i64 i] 3)).cell? ⟨w.heap.size,0,none⟩=some (.int .i64 i):=by
  have:=(Blk.new (w.setCell ⟨x,0,none⟩ (.int .i32 1)) #[.int .i64 i] 3).cell 0
  simpa using this
 have hch:Chg (fun k=>k=x) w ((w.setCell ⟨x,0,none⟩ (.int .i32 1)).alloc (.cells #[.int .i64 i] 3)):=(chg_turn (M:=fun k=>k=x) rfl _).below h1b
 have HB:=HC1.out.below h1b
 refine Calls.mono (named_any _ x q cap fv 1 ds bs HB w.heap.size i hgc) ?_
 rintro e w1 ⟨rfl,hw1⟩
 rw[<- hw1] at HB hch
 clear hgc h1b hw1 HC1 k0 z0
 have G1:Hid (Glob w1):=HG.out.chg4 hch (fun k e=>by subst e;exact HC.out.x4)
 have HC1:Hid (CluP w1 x q cap fv 1 ds bs):=HB
 have Hch:Hid (Chg (fun k=>k=x) w w1):=hch
 clear HB hch HC HG
 by_cases hi:0<=i/\i<ds.length
 ·obtain ⟨k,rfl⟩:=Int.eq_ofNat_of_zero_le hi.1
  have hk:k<ds.length:=by omega
  have Hi:Hid (_):=hi
  have hn:namedR ds.length (k:Int)=0:=by unfold namedR;rw[if_pos hi]
  rw[hn]
  clear hn hi
  obtain ⟨m,hm⟩:=G1.out.len
  have HP:Hid (_):=ReadPath_any s m w1 hs hm
  clear hm
  go_wp2_with fail
  refine Calls.mono HP.out ?_
  rintro e w2 ⟨rfl,hb2⟩
  have HC2:Hid (CluP w2 x q cap fv 1 ds bs):=HC1.out.below hb2
  have Hch2:Hid (Chg (fun k=>k=x) w w2):=Hch.out.below hb2
  have G2:Hid (Glob w2):=G1.out.mono hb2
  clear HP HC1 Hch G1 hb2
  cases hp:Thk.path (toL s) with
  | false =>
   have Hp:Hid (_):=hp
   clear hp
   go_wp2_with fail
   refine leaves_cons (f:=44) (args:=#[.pointer (some ⟨x,0,none⟩)]) (by simp) (by simp[go_sem]) ?_
   refine (unlock_deferred muLib ⟨x,0,none⟩ .returning _ ((HC2.out.blk.cell 0).trans rfl) (HC2.out.blk.frozen 0)).mono ?_
   rintro e u' w9 ⟨rfl,rfl,rfl⟩
   exact ⟨_,results_tmp2 rfl _ _ _,_,_,rfl,Or.inr (Or.inl ⟨Hi.out,Hp.out,rfl,rfl⟩),HC2.out.turn 0,Chg.setCell (M:=fun k=>k=x) (p:=⟨x,0,none⟩) Hch2.out rfl _⟩
  | true =>
   have HT:Hid (_):=RepTell_any w2 G2.out _ _ _ _ _ _ _ (HC2.out.repP k hk) (Hok.out k hk) s hs hp
   have Hp:Hid (_):=hp
   have c2:w2.cell? ⟨x,2,none⟩=some (.slice (some ⟨q,0,none⟩) ds.length cap):=(HC2.out.blk.cell 2).trans rfl
   have cq:=HC2.out.cell k hk
   clear hp G2
   go_wp2_with fail
   refine Calls.mono HT.out ?_
   rintro e w3 ⟨xs,hx,rfl,hb3⟩
   have HC3:Hid (CluP w3 x q cap fv 1 ds bs):=HC2.out.below hb3
   have Hch3:Hid (Chg (fun k=>k=x) w w3):=Hch2.out.below hb3
   have Hx:Hid (_):=hx
   clear HT HC2 Hch2 hb3 c2 cq hx
   generalize ht:(⟨(tellP (toL s) xs).toArray⟩:ByteArray)=tt at *
   have Ht:Hid (_):=ht.symm
   clear ht
   go_wp2_with fail
   refine leaves_cons (f:=44) (args:=#[.pointer (some ⟨x,0,none⟩)]) (by simp) (by simp[go_sem]) ?_
   refine (unlock_deferred muLib ⟨x,0,none⟩ .returning _ ((HC3.out.blk.cell 0).trans rfl) (HC3.out.blk.frozen 0)).mono ?_
   rintro e u' w9 ⟨rfl,rfl,rfl⟩
   exact ⟨_,results_tmp2 rfl _ _ _,_,_,rfl,Or.inr (Or.inr ⟨k,hk,rfl,Hp.out,rfl,xs,Hx.out,Ht.out⟩),HC3.out.turn 0,Chg.setCell (M:=fun k=>k=x) (p:=⟨x,0,none⟩) Hch3.out rfl _⟩
 ·have hn:namedR ds.length i=2:=by unfold namedR;rw[if_neg hi]
  have Hi:Hid (_):=hi
  rw[hn]
  clear hn hi
  go_wp2_with fail
  refine leaves_cons (f:=44) (args:=#[.pointer (some ⟨x,0,none⟩)]) (by simp) (by simp[go_sem]) ?_
  refine (unlock_deferred muLib ⟨x,0,none⟩ .returning _ ((HC1.out.blk.cell 0).trans rfl) (HC1.out.blk.frozen 0)).mono ?_
  rintro e u' w9 ⟨rfl,rfl,rfl⟩
  exact ⟨_,results_tmp2 rfl _ _ _,_,_,rfl,Or.inl ⟨Hi.out,rfl,rfl⟩,HC1.out.turn 0,Chg.setCell (M:=fun k=>k=x) (p:=⟨x,0,none⟩) Hch.out rfl _⟩

theorem Chg.wide {M M':Nat->Prop} {w w':World} (h:Chg M w w') (hm:∀ k,M k->M' k):Chg M' w w':=⟨h.os,h.tape,h.output,h.size,fun k hk hn=>h.block k hk (fun e=>hn (hm k e))⟩
theorem Chg.then {M:Nat->Prop} {w w1 w2:World} (h:Chg M w w1) (h2:Chg M w1 w2):Chg M w w2:=⟨h2.os.trans h.os,h2.tape.trans h.tape,h2.output.trans h.output,Nat.le_trans h.size h2.size,fun k hk hn=>(h2.block k (Nat.lt_of_lt_of_le hk h.size) hn).trans (h.block k hk hn)⟩

structure Renews (B:Nat) (r r':RD):Prop where
 rb:r'.rb=r.rb
 a:r'.a=r.a
 cut:r'.cut=r.cut
 nb:r'.nb=r.nb
 own:∀ b,r'.own b->r.own b\/B<=b
theorem CluP.renew {w w':World} {x q cap:Nat} {fv:Value} {st:Int} {ds:List RepD} {bs:List (Nat × ByteArray)} (h:CluP w x q cap fv st ds bs) (k:Nat) (hk:k<ds.length) {r':RD} (hr:RepF w' r') (hn:Renews w.heap.size ds[k] r') (hc:Chg ds[k].own w w') :
  CluP w' x q cap fv st (ds.set k r') bs:=by
 obtain ⟨cs,r1,r2⟩:=h.row
 have hx:¬ds[k].own x:=h.xr k hk
 have hq:¬ds[k].own q:=h.qr k hk
 have hrb:∀ j (hj:j<ds.length),(ds.set k r')[j]'(by simpa using hj)=if k=j then r' else ds[j]:=fun j hj=>by rw[List.getElem_set]
 have hlt:∀ j (hj:j<ds.length) b,ds[j].own b->b<w.heap.size:=fun j hj b hb=>(h.rep j hj).lt hb
 refine ⟨?_,⟨cs,r1.chg hc hq,fun j hj=>?_⟩,ownsRow_chg h.fr hc (fun g hg e=>by
  obtain ⟨cur,hcur⟩:=h.frT g hg
  exact (h.rep k hk).not_own (cs:=cur) (t:=109) hcur (by decide) (by decide) (by decide) (by decide) e),fun j hj=>?_,fun j hj=>?_,fun i j hi hj hij b hb hb2=>?_,fun j hj=>?_,fun j hj=>?_,by simpa using h.len,by simpa using h.cap,h.x4,h.b500⟩
 ·rw[List.length_set];exact h.blk.chg hc hx
 ·have hj':j<ds.length:=by simpa using hj
  rw[hrb j hj',r2 j hj']
  by_cases e:k=j
  ·subst e;rw[if_pos rfl,hn.rb]
  ·rw[if_neg e]
 ·have hj':j<ds.length:=by simpa using hj
  rw[hrb j hj']
  by_cases e:k=j
  ·subst e;rw[if_pos rfl];exact hr
  ·rw[if_neg e]
   exact (h.rep j hj').chg hc (fun b hb hb2=>h.apart k j hk hj' e b hb2 hb)
 ·have hj':j<ds.length:=by simpa using hj
  rw[hrb j hj',List.length_set]
  by_cases e:k=j
  ·subst e;rw[if_pos rfl,hn.a,hn.cut,hn.nb];exact h.ra k hk
  ·rw[if_neg e];exact h.ra j hj'
 ·have hi':i<ds.length:=by simpa using hi
  have hj':j<ds.length:=by simpa using hj
  rw[hrb i hi'] at hb
  rw[hrb j hj'] at hb2
  by_cases e:k=i
  ·subst e
   rw[if_pos rfl] at hb
   rw[if_neg hij] at hb2
   rcases hn.own b hb with h1 | h1
   ·exact h.apart k j hk hj' hij b h1 hb2
   ·have:=hlt j hj' b hb2;omega
  ·rw[if_neg e] at hb
   by_cases e2:k=j
   ·subst e2
    rw[if_pos rfl] at hb2
    rcases hn.own b hb2 with h1 | h1
    ·exact h.apart i k hi' hk hij b hb h1
    ·have:=hlt i hi' b hb;omega
   ·rw[if_neg e2] at hb2
    exact h.apart i j hi' hj' hij b hb hb2
 ·have hj':j<ds.length:=by simpa using hj
  rw[hrb j hj']
  by_cases e:k=j
  ·subst e;rw[if_pos rfl]
   intro ho
   rcases hn.own x ho with h1 | h1
   ·exact hx h1
   ·have:=h.blk.lt;omega
  ·rw[if_neg e];exact h.xr j hj'
 ·have hj':j<ds.length:=by simpa using hj
  rw[hrb j hj']
  by_cases e:k=j
  ·subst e;rw[if_pos rfl]
   intro ho
   rcases hn.own q ho with h1 | h1
   ·exact hq h1
   ·have:=r1.lt;omega
  ·rw[if_neg e];exact h.qr j hj'

def MoreD (B:Nat) (r:RD) (fr:Nat) (K:Nat->Nat) (C:Nat->Option Thk.Ch) (r':RD):Prop :=
 ∃ (io co lo:Nat) (st:StD) (pv:Value),r'=r.more io co lo pv fr st K C/\st.S=newD r K C/\st.It=itOf (newC r K C)/\(B<=io/\B<=co/\B<=lo)/\(∀ k,st.own k->B<=k)/\(pv.ownBlock=r.pv.ownBlock\/∃ k,pv.ownBlock=some k/\B<=k)
theorem MoreD.renews {B:Nat} {r r':RD} {fr:Nat} {K:Nat->Nat} {C:Nat->Option Thk.Ch} (h:MoreD B r fr K C r'):Renews B r r':=by
 obtain ⟨io,co,lo,st,pv,rfl,_,_,h3,h4,h5⟩:=h
 refine ⟨rfl,rfl,rfl,rfl,fun b hb=>?_⟩
 rcases hb with hb | hb | hb | hb
 ·exact Or.inl (Or.inl hb)
 ·refine Or.inr ?_
  rcases hb with e | e | e <;> (have e':=Option.some.inj e;omega)
 ·rcases hb with hb | hb | hb | ⟨p,hp,hb⟩
  ·exact Or.inl (Or.inr (Or.inr (Or.inl (Or.inl hb))))
  ·have hb':pv.ownBlock=some b:=hb
   rcases h5 with h5 | ⟨k,h5,h6⟩
   ·exact Or.inl (Or.inr (Or.inr (Or.inl (Or.inr (Or.inl (by rw[<- h5];exact hb'))))))
   ·rw[h5] at hb';cases hb';exact Or.inr h6
  ·exact Or.inl (Or.inr (Or.inr (Or.inl (Or.inr (Or.inr (Or.inl hb))))))
  ·have hp':p∈addP r.room r.ps ⟨sizeK K,fr,st⟩:=hp
   have:p∈r.ps ++ [⟨sizeK K,fr,st⟩]:=by
    unfold addP at hp'
    split at hp'
    ·exact List.mem_of_mem_tail hp'
    ·exact hp'
   rcases List.mem_append.1 this with h | h
   ·exact Or.inl (Or.inr (Or.inr (Or.inl (Or.inr (Or.inr (Or.inr ⟨p,h,hb⟩))))))
   ·rw[List.mem_singleton] at h;subst h;exact Or.inr (h4 b hb)
 ·exact Or.inl (Or.inr (Or.inr (Or.inr hb)))
theorem MoreD.mono {B B':Nat} {r r':RD} {fr:Nat} {K:Nat->Nat} {C:Nat->Option Thk.Ch} (h:MoreD B r fr K C r') (hb:B'<=B):MoreD B' r fr K C r':=by
 obtain ⟨io,co,lo,st,pv,h0,h1,h2,h3,h4,h5⟩:=h
 exact ⟨io,co,lo,st,pv,h0,h1,h2,by omega,fun k hk=>Nat.le_trans hb (h4 k hk),h5.imp id (fun ⟨k,h6,h7⟩=>⟨k,h6,Nat.le_trans hb h7⟩)⟩
theorem MoreTo.d {w w':World} {r r':RD} {fr:Nat} {K:Nat->Nat} {C:Nat->Option Thk.Ch} (h:MoreTo w w' r fr K C r'):MoreD w.heap.size r fr K C r':=h.eq
def cluOwn (x:Nat) (ds:List RepD) (k:Nat):Prop:=k=x\/∃ j,∃ h:j<ds.length,ds[j].own k

def DoD (w:World) (ds:List RepD) (i:Int) (s:ByteArray) (r:Int) (ds':List RepD):Prop :=
 (¬(0<=i/\i<ds.length)/\r=2/\ds'=ds) \/
 (∃ m:Nat,(0<=i/\i<ds.length)/\Thk.read (toL s)=.inl m/\r=(m:Int)/\ds'=ds) \/
 (∃ c:Thk.Ch,(0<=i/\i<ds.length)/\Thk.read (toL s)=.inr c/\500<=sumN ds ds.length/\r=7/\ds'=ds) \/
 ∃ (c:Thk.Ch) (k:Nat) (hk:k<ds.length) (r':RD),i=(k:Int)/\Thk.read (toL s)=.inr c/\sumN ds ds.length<500/\MoreD w.heap.size ds[k] k (inc ds[k].K k) (stepC ds[k].C c (mkD k (ds[k].K k+1))) r' /\
  r=0/\ds'=ds.set k r'
section
variable {w:World} {ds:List RepD} {i:Int} {s:ByteArray}
theorem DoD.rep (h:¬(0<=i/\i<ds.length)):DoD w ds i s 2 ds:=Or.inl ⟨h,rfl,rfl⟩
theorem DoD.bad (m:Nat) (h:0<=i/\i<ds.length) (hr:Thk.read (toL s)=.inl m):DoD w ds i s m ds:=Or.inr (Or.inl ⟨m,h,hr,rfl,rfl⟩)
theorem DoD.full (c:Thk.Ch) (h:0<=i/\i<ds.length) (hr:Thk.read (toL s)=.inr c) (hl:500<=sumN ds ds.length):DoD w ds i s 7 ds:=Or.inr (Or.inr (Or.inl ⟨c,h,hr,hl,rfl,rfl⟩))
theorem DoD.done (c:Thk.Ch) (k:Nat) (hk:k<ds.length) (r':RD) (h:i=(k:Int)) (hr:Thk.read (toL s)=.inr c) (hl:sumN ds ds.length<500) (hn:MoreD w.heap.size ds[k] k (inc ds[k].K k) (stepC ds[k].C c (mkD k (ds[k].K k+1))) r') :
  DoD w ds i s 0 (ds.set k r'):=Or.inr (Or.inr (Or.inr ⟨c,k,hk,r',h,hr,hl,hn,rfl,rfl⟩))
end
theorem sumN_part (ds:List RepD) (k:Nat) (hk:k<ds.length):∀ m,k<m->m<=ds.length->ds[k].K k<=sumN ds m
 | 0,h,_=>by omega
 | m+1,h,hm=>by
  rw[sumN_succ ds m (by omega)]
  by_cases e:k=m
  ·subst e;omega
  ·have:=sumN_part ds k hk m (by omega) (by omega);omega

theorem readV_inl (m:Nat):readV (.inl m)=.tuple #[.agg #[.string ⟨#[]⟩,.int .u8 0,.string ⟨#[]⟩,.int .i64 0],.int .i64 (m:Int)]:=rfl
theorem readV_inr (c:Thk.Ch):readV (.inr c)=.tuple #[.agg #[.string ⟨c.path.toArray⟩,.int .u8 (c.act.toNat:Int),.string (keptVal c.act ⟨c.val.toArray⟩),.int .i64 c.n],.int .i64 0]:=rfl

theorem CDo_any (w:World) (hG:Glob w) (x q cap:Nat) (fv:Value) (ds:List RepD) (bs:List (Nat × ByteArray)) (hC:CluP w x q cap fv 0 ds bs) (i:Int) (s:ByteArray) (hs:s.size<=1048576)
  (hB:∀ k (hk:k<ds.length) c,Thk.read (toL s)=.inr c->sumN ds ds.length<500->StoB (fst (inc ds[k].K k)) (stepC ds[k].C c (mkD k (ds[k].K k+1)))) :
  Calls Tryz.prog 23 #[.pointer (some ⟨x,0,none⟩),.int .i64 i,.string s] w fun e w'=>∃ r ds',e=.returned (.int .i64 r)/\DoD w ds i s r ds'/\CluP w' x q cap fv 0 ds' bs/\Chg (cluOwn x ds) w w':=by
 have HB0:Hid (∀ k (hk:k<ds.length) c,Thk.read (toL s)=.inr c->sumN ds ds.length<500->StoB (fst (inc ds[k].K k)) (stepC ds[k].C c (mkD k (ds[k].K k+1)))):=hB
 clear hB
 have HC:Hid (CluP w x q cap fv 0 ds bs):=hC
 have k0:w.cell? ⟨x,0,none⟩=some (.int .i32 0):=(hC.blk.cell 0).trans rfl
 have z0:w.frozen? ⟨x,0,none⟩=false:=hC.blk.frozen 0
 have HC1:Hid (CluP (w.setCell ⟨x,0,none⟩ (.int .i32 1)) x q cap fv 1 ds bs):=hC.turn 1
 have HG:Hid (Glob w):=hG
 clear hC hG
 go_enter_defers Tryz.func23,Tryz.ntmps23
 go_wp2_with (go_at_call 43;refine (lock_free muLib ⟨x,0,none⟩ _ k0 z0).mono ?_;rintro e w' ⟨rfl,rfl⟩)
 have h1b:Below (w.setCell ⟨x,0,none⟩ (.int .i32 1)).heap.size (w.setCell ⟨x,0,none⟩ (.int .i32 1)) ((w.setCell ⟨x,0,none⟩ (.int .i32 1)).alloc (.cells #[.int .i64 i] 3)):=(Below.refl _ _).alloc (Nat.le_refl _) _
 have hgc:((w.setCell ⟨x,0,none⟩ (.int .i32 1)).alloc (.cells #[.int .i64 i] 3)).cell? ⟨w.heap.size,0,none⟩=some (.int .i64 i):=by
  have:=(Blk.new (w.setCell ⟨x,0,none⟩ (.int .i32 1)) #[.int .i64 i] 3).cell 0
  simpa using this
 have hch:Chg (fun k=>k=x) w ((w.setCell ⟨x,0,none⟩ (.int .i32 1)).alloc (.cells #[.int .i64 i] 3)):=(chg_turn (M:=fun k=>k=x) rfl _).below h1b
 have HB:=HC1.out.below h1b
 refine Calls.mono (named_any _ x q cap fv 1 ds bs HB w.heap.size i hgc) ?_
 rintro e w1 ⟨rfl,hw1⟩
 rw[<- hw1] at HB hch
 clear hgc h1b hw1 HC1 k0 z0
 have G1:Hid (Glob w1):=HG.out.chg4 hch (fun k e=>by subst e;exact HC.out.x4)
 have HC1:Hid (CluP w1 x q cap fv 1 ds bs):=HB
 have Hch:Hid (Chg (fun k=>k=x) w w1):=hch
 clear HB hch HC HG
 by_cases hi:0<=i/\i<ds.length
 ·obtain ⟨k,rfl⟩:=Int.eq_ofNat_of_zero_le hi.1
  have hk:k<ds.length:=by omega
  have Hi:Hid (_):=hi
  have hn:namedR ds.length (k:Int)=0:=by unfold namedR;rw[if_pos hi]
  rw[hn]
  clear hn hi
  have HP:Hid (_):=ProgRead_any s w1 hs G1.out
  go_wp2_with fail
  refine Calls.mono HP.out ?_
  rintro e w2 ⟨rfl,hb2⟩
  have HC2:Hid (CluP w2 x q cap fv 1 ds bs):=HC1.out.below hb2
  have Hch2:Hid (Chg (fun k=>k=x) w w2):=Hch.out.below hb2
  have G2:Hid (Glob w2):=G1.out.mono hb2
  clear HP HC1 Hch G1 hb2
  cases hp:Thk.read (toL s) with
  | inl m =>
   have Hp:Hid (_):=hp
   have hm:=Thk.read_err _ _ hp
   clear hp G2
   rw[readV_inl]
   have HC3:Hid (CluP (w2.alloc (.cells #[.string ⟨#[]⟩,.int .u8 0,.string ⟨#[]⟩,.int .i64 0] 86)) x q cap fv 1 ds bs):=HC2.out.below ((Below.refl _ _).alloc (Nat.le_refl _) _)
   have Hch3:Hid (Chg (fun k=>k=x) w (w2.alloc (.cells #[.string ⟨#[]⟩,.int .u8 0,.string ⟨#[]⟩,.int .i64 0] 86))):=Hch2.out.below ((Below.refl _ _).alloc (Nat.le_refl _) _)
   go_wp2_with fail
   refine leaves_cons (f:=44) (args:=#[.pointer (some ⟨x,0,none⟩)]) (by simp) (by simp[go_sem]) ?_
   refine (unlock_deferred muLib ⟨x,0,none⟩ .returning _ ((HC3.out.blk.cell 0).trans rfl) (HC3.out.blk.frozen 0)).mono ?_
   rintro e u' w9 ⟨rfl,rfl,rfl⟩
   exact ⟨_,results_tmp rfl _ _ _,_,_,rfl,DoD.bad m Hi.out Hp.out,HC3.out.turn 0,Chg.setCell (M:=cluOwn x ds) (p:=⟨x,0,none⟩) (Hch3.out.wide (fun k e=>Or.inl e)) (Or.inl rfl) _⟩
  | inr c =>
   have Hp:Hid (_):=hp
   have Hcp:Hid (c.path.length<=1048576):=Nat.le_trans (Thk.read_ok _ _ hp).1 (by decide)
   clear hp
   rw[readV_inr]
   have hba:Below w2.heap.size w2 (w2.alloc (.cells #[.string ⟨c.path.toArray⟩,.int .u8 (c.act.toNat:Int),.string (keptVal c.act ⟨c.val.toArray⟩),.int .i64 c.n] 86)):=(Below.refl _ _).alloc (Nat.le_refl _) _
   have HC3:Hid (CluP (w2.alloc (.cells #[.string ⟨c.path.toArray⟩,.int .u8 (c.act.toNat:Int),.string (keptVal c.act ⟨c.val.toArray⟩),.int .i64 c.n] 86)) x q cap fv 1 ds bs):=HC2.out.below hba
   have Hch3:Hid (Chg (fun k=>k=x) w (w2.alloc (.cells #[.string ⟨c.path.toArray⟩,.int .u8 (c.act.toNat:Int),.string (keptVal c.act ⟨c.val.toArray⟩),.int .i64 c.n] 86))):=Hch2.out.below hba
   have G3:Hid (Glob (w2.alloc (.cells #[.string ⟨c.path.toArray⟩,.int .u8 (c.act.toNat:Int),.string (keptVal c.act ⟨c.val.toArray⟩),.int .i64 c.n] 86))):=G2.out.mono hba
   have Hch4:Hid (Blk (w2.alloc (.cells #[.string ⟨c.path.toArray⟩,.int .u8 (c.act.toNat:Int),.string (keptVal c.act ⟨c.val.toArray⟩),.int .i64 c.n] 86)) w2.heap.size #[.string ⟨c.path.toArray⟩,.int .u8 (c.act.toNat:Int),.string (keptVal c.act ⟨c.val.toArray⟩),.int .i64 c.n] 86):=Blk.new w2 _ _
   have HC2x:=HC2
   clear hba HC2 Hch2 G2
   go_wp2_with fail
   refine Calls.mono (events_any _ x q cap fv 1 ds bs HC3.out) ?_
   rintro e w3 ⟨rfl,hb3⟩
   have HC4:Hid (CluP w3 x q cap fv 1 ds bs):=HC3.out.below hb3
   have Hch5:Hid (Chg (fun k=>k=x) w w3):=Hch3.out.below hb3
   have G4:Hid (Glob w3):=G3.out.mono hb3
   have HK4:Hid (Blk w3 w2.heap.size #[.string ⟨c.path.toArray⟩,.int .u8 (c.act.toNat:Int),.string (keptVal c.act ⟨c.val.toArray⟩),.int .i64 c.n] 86):=Hch4.out.below hb3
   clear hb3 HC3 Hch3 G3 Hch4
   by_cases h5:500<=sumN ds ds.length
   ·have H5:Hid (_):=h5
    go_wp2_with fail
    refine leaves_cons (f:=44) (args:=#[.pointer (some ⟨x,0,none⟩)]) (by simp) (by simp[go_sem]) ?_
    refine (unlock_deferred muLib ⟨x,0,none⟩ .returning _ ((HC4.out.blk.cell 0).trans rfl) (HC4.out.blk.frozen 0)).mono ?_
    rintro e u' w9 ⟨rfl,rfl,rfl⟩
    exact ⟨_,results_tmp rfl _ _ _,_,_,rfl,DoD.full c Hi.out Hp.out H5.out,HC4.out.turn 0,Chg.setCell (M:=cluOwn x ds) (p:=⟨x,0,none⟩) (Hch5.out.wide (fun k e=>Or.inl e)) (Or.inl rfl) _⟩
   ·have H5:Hid (sumN ds ds.length<500):=by unfold Hid;omega
    have hn5:ds[k].K k+1<=500:=by have:=sumN_part ds k hk ds.length hk (Nat.le_refl _);omega
    have c2:w3.cell? ⟨x,2,none⟩=some (.slice (some ⟨q,0,none⟩) ds.length cap):=(HC4.out.blk.cell 2).trans rfl
    have cq:=HC4.out.cell k hk
    have v0:w3.cell? ⟨w2.heap.size,0,none⟩=some (.string ⟨c.path.toArray⟩):=(HK4.out.cell 0).trans rfl
    have v1:w3.cell? ⟨w2.heap.size,1,none⟩=some (.int .u8 (c.act.toNat:Int)):=(HK4.out.cell 1).trans rfl
    have v2:w3.cell? ⟨w2.heap.size,2,none⟩=some (.string (keptVal c.act ⟨c.val.toArray⟩)):=(HK4.out.cell 2).trans rfl
    have v3:w3.cell? ⟨w2.heap.size,3,none⟩=some (.int .i64 c.n):=(HK4.out.cell 3).trans rfl
    have hrne:¬ds[k].own w2.heap.size:=fun e=>by have:=(HC2x.out.rep k hk).lt e;omega
    have HA:Hid (Calls Tryz.prog 49 #[.pointer (some ⟨ds[k].rb,0,none⟩),.agg #[.string ⟨c.path.toArray⟩,.int .u8 (c.act.toNat:Int),.string (keptVal c.act ⟨c.val.toArray⟩),.int .i64 c.n]] w3.drew fun e w'=>e=.returned (.bool true)/\(∃ r',CluP w' x q cap fv 1 (ds.set k r') bs/\MoreD w.heap.size ds[k] k (inc ds[k].K k) (stepC ds[k].C c (mkD k (ds[k].K k+1))) r'/\Chg (cluOwn x ds) w w') /\
      w'.cell? ⟨x,2,none⟩=some (.slice (some ⟨q,0,none⟩) ds.length cap)/\w'.cell? ⟨q,k,none⟩=some (.pointer (some ⟨ds[k].rb,0,none⟩))/\w'.cell? ⟨w2.heap.size,0,none⟩=some (.string ⟨c.path.toArray⟩)/\w'.cell? ⟨w2.heap.size,1,none⟩=some (.int .u8 (c.act.toNat:Int))/\w'.cell? ⟨w2.heap.size,2,none⟩=some (.string (keptVal c.act ⟨c.val.toArray⟩))/\w'.cell? ⟨w2.heap.size,3,none⟩=some (.int .i64 c.n)):=by
     have hdr:Below w3.heap.size w3 w3.drew:=(Below.refl _ w3).drew
     have hcl:=HC4.out.below hdr
     have hra:=HC4.out.ra k hk
     have hacc:=Accept_any w3.drew (G4.out.mono hdr) ds[k] (hcl.rep k hk) hra.2.1 c (by rw[hra.1];exact hn5) Hcp.out (by rw[hra.1];exact HB0.out k hk c Hp.out H5.out)
     rw[hra.1] at hacc
     refine Calls.mono hacc ?_
     rintro e w' ⟨rfl,r',hM⟩
     have hc:=hM.chg
     have hcx:=hcl.renew k hk hM.rep hM.d.renews hc
     have hz:w.heap.size<=w3.drew.heap.size:=Nat.le_trans Hch5.out.size hdr.size
     have hK5:=(HK4.out.below hdr).chg hc hrne
     obtain ⟨cs,r1,r2⟩:=hcl.row
     refine ⟨rfl,⟨r',hcx,hM.d.mono hz,((Hch5.out.below hdr).wide (fun _ e=>Or.inl e)).then (hc.wide (fun _ e=>Or.inr ⟨k,hk,e⟩))⟩,((hcl.blk.chg hc (hcl.xr k hk)).cell 2).trans rfl,((r1.chg hc (hcl.qr k hk)).cell k).trans (r2 k hk),(hK5.cell 0).trans rfl,(hK5.cell 1).trans rfl,(hK5.cell 2).trans rfl,(hK5.cell 3).trans rfl⟩
    clear HC4 Hch5 G4 HK4 hrne HC2x
    go_wp2_with fail
    go_region_held3 (fun w'=>w'.cell? ⟨x,2,none⟩=some (.slice (some ⟨q,0,none⟩) ds.length cap)/\w'.cell? ⟨q,k,none⟩=some (.pointer (some ⟨ds[k].rb,0,none⟩))/\w'.cell? ⟨w2.heap.size,0,none⟩=some (.string ⟨c.path.toArray⟩)/\w'.cell? ⟨w2.heap.size,1,none⟩=some (.int .u8 (c.act.toNat:Int))/\w'.cell? ⟨w2.heap.size,2,none⟩=some (.string (keptVal c.act ⟨c.val.toArray⟩))/\w'.cell? ⟨w2.heap.size,3,none⟩=some (.int .i64 c.n)) ((refine ⟨?_, ?_, ?_, ?_, ?_, ?_⟩ <;> assumption)) (first | (go_at_call 49;refine Calls.mono HA.out ?_;rintro e w4 ⟨rfl,hE,d0,d1,d2,d3,d4,d5⟩))
    obtain ⟨r',hcx,hnw,hch⟩:=hE
    have HX:Hid (_):=hcx
    have HN:Hid (_):=hnw
    have HH:Hid (_):=hch
    clear hcx hnw hch HA c2 cq v0 v1 v2 v3 d0 d1 d2 d3 d4 d5
    go_wp2_with fail
    refine leaves_cons (f:=44) (args:=#[.pointer (some ⟨x,0,none⟩)]) (by simp) (by simp[go_sem]) ?_
    refine (unlock_deferred muLib ⟨x,0,none⟩ .returning _ ((HX.out.blk.cell 0).trans rfl) (HX.out.blk.frozen 0)).mono ?_
    rintro e u' w9 ⟨rfl,rfl,rfl⟩
    exact ⟨_,results_tmp rfl _ _ _,_,_,rfl,DoD.done c k hk r' rfl Hp.out H5.out HN.out,HX.out.turn 0,Chg.setCell (M:=cluOwn x ds) (p:=⟨x,0,none⟩) HH.out (Or.inl rfl) _⟩
 ·have hn:namedR ds.length i=2:=by unfold namedR;rw[if_neg hi]
  have Hi:Hid (_):=hi
  rw[hn]
  clear hn hi
  go_wp2_with fail
  refine leaves_cons (f:=44) (args:=#[.pointer (some ⟨x,0,none⟩)]) (by simp) (by simp[go_sem]) ?_
  refine (unlock_deferred muLib ⟨x,0,none⟩ .returning _ ((HC1.out.blk.cell 0).trans rfl) (HC1.out.blk.frozen 0)).mono ?_
  rintro e u' w9 ⟨rfl,rfl,rfl⟩
  exact ⟨_,results_tmp rfl _ _ _,_,_,rfl,DoD.rep Hi.out,HC1.out.turn 0,Chg.setCell (M:=cluOwn x ds) (p:=⟨x,0,none⟩) (Hch.out.wide (fun k e=>Or.inl e)) (Or.inl rfl) _⟩
end Go.Proofs.YtfmmllpjgkgeaaaGreatDoor
namespace Go.Proofs.YtfmmllpjgkgeaaaGreatDoor
open Go.RowKit Go.Maps Go.WideMaps Go.Deep

def ptrs (bs:List Nat):List Value:=bs.map fun b=>.pointer (some ⟨b,0,none⟩)
def others (i n:Nat):List Nat:=(List.range n).filter fun j=>decide (j≠i)
theorem others_mem {i n j:Nat} : j∈others i n↔j<n/\j≠i:=by unfold others;rw[List.mem_filter,List.mem_range];simp
theorem others_succ (i n:Nat):others i (n+1)=if n=i then others i n else others i n ++ [n]:=by
 unfold others
 rw[List.range_succ,List.filter_append]
 by_cases e:n=i
 ·subst e;simp
 ·simp[e]
theorem others_len (i n:Nat):(others i n).length<=n:=by unfold others;exact Nat.le_trans (List.length_filter_le _ _) (by simp)
def initR (rb kb db ab j room n:Nat):RD:=⟨rb,j,none,none,none,kb,db,room,.slice none 0 0,0,ab,others j n,fun _=>0,[],fun _=>0,fun _=>none,0,false,0⟩
theorem initR_own {rb kb db ab j room n k:Nat} (h:(initR rb kb db ab j room n).own k):k=rb\/k=kb\/k=db\/k=ab:=by
 rcases h with h | h | h | h
 ·exact Or.inl h
 ·rcases h with h | h | h <;> cases h
 ·rcases h with h | h | h | ⟨p,hp,_⟩
  ·exact Or.inr (Or.inl h)
  ·cases h
  ·exact Or.inr (Or.inr (Or.inr h))
  ·exact absurd hp (by show p ∉ ([]:List PcD);simp)
 ·exact Or.inr (Or.inr (Or.inl h))
structure NewP (w0:World) (w:World) (rv:Value) (n room:Nat) (ds:List RD):Prop where
 blk:Blk w w0.heap.size #[.int .i32 0,.int .u32 0,rv,.slice none 0 0] 79
 row:w.ownsRow w0.heap.size 81 1 rv ds.length (ptrs (ds.map RD.rb))
 rep:∀ j (h:j<ds.length),RepF w ds[j]/\(∃ rb kb db ab,ds[j]=initR rb kb db ab j room n)/\∀ k,ds[j].own k->w0.heap.size<=k
 apart:∀ i j (hi:i<ds.length) (hj:j<ds.length),i≠j->∀ k,ds[i].own k->¬ds[j].own k
 bel:Below w0.heap.size w0 w
theorem NewP.ne {w0 w:World} {rv:Value} {n room:Nat} {ds:List RD} (h:NewP w0 w rv n room ds) {b:Nat} {cs:Array Value} {t:TypeId} (hb:Blk w b cs t) (ht:t≠81):rv.ownBlock≠some b:=row_ne hb h.row ht
theorem NewP.more {w0 w w5 w6:World} {rv:Value} {n room:Nat} {ds:List RD} (h:NewP w0 w rv n room ds) (hb5:Below w.heap.size w w5) {r:RD} (hr:RepF w5 r) (hri:∃ rb kb db ab,r=initR rb kb db ab ds.length room n) (hro:∀ k,r.own k->w.heap.size<=k) {g c:Nat}
  (ho:w6.ownsRow w0.heap.size 81 1 (.slice (some ⟨g,0,none⟩) (ds.length+1) c) (ds.length+1) (ptrs (ds.map RD.rb) ++ [.pointer (some ⟨r.rb,0,none⟩)]))
  (hg:(w5.alloc (.cells #[.pointer (some ⟨r.rb,0,none⟩)] 81)).grownBy w6 rv.ownBlock) :
  NewP w0 (w6.setCell ⟨w0.heap.size,2,none⟩ (.slice (some ⟨g,0,none⟩) (ds.length+1) c)) (.slice (some ⟨g,0,none⟩) (ds.length+1) c) n room (ds ++ [r]):=by
 have hb5a:Below w.heap.size w (w5.alloc (.cells #[.pointer (some ⟨r.rb,0,none⟩)] 81)):=hb5.alloc hb5.size _
 have hcg:Chg (fun k=>rv.ownBlock=some k) (w5.alloc (.cells #[.pointer (some ⟨r.rb,0,none⟩)] 81)) w6:=(Chg.refl _ _).grown hg (fun k e=>Or.inl e)
 have h56:Chg (fun k=>rv.ownBlock=some k) w5 w6:=(Chg.of_below ((Below.refl _ w5).alloc (Nat.le_refl _) _)).trans hcg
 have hw6:Chg (fun k=>rv.ownBlock=some k) w w6:=(Chg.of_below hb5).trans h56
 have hB:Blk w6 w0.heap.size #[.int .i32 0,.int .u32 0,rv,.slice none 0 0] 79:=h.blk.chg hw6 (h.ne h.blk (by decide))
 have hcs:Chg (fun k=>k=w0.heap.size) w6 (w6.setCell ⟨w0.heap.size,2,none⟩ (.slice (some ⟨g,0,none⟩) (ds.length+1) c)):=(Chg.refl (fun k=>k=w0.heap.size) w6).setCell (p:=⟨w0.heap.size,2,none⟩) rfl _
 have hrl:∀ b,rv.ownBlock=some b->b<w.heap.size:=fun b e=>(h.row.lt b e).2
 have hpr:∃ cur,rv.ownBlock=none\/∃ g,rv.ownBlock=some g/\Blk w g cur 81:=by
  obtain ⟨_,⟨h1,_⟩ | ⟨g',cap',cur,h1,h2,h3,_⟩⟩:=h.row
  ·exact ⟨#[],Or.inl (by rw[h1];rfl)⟩
  ·exact ⟨cur,Or.inr ⟨g',by rw[h1];rfl,h3⟩⟩
 have hold:∀ j (hj:j<ds.length) k,ds[j].own k->¬rv.ownBlock=some k:=fun j hj k hk e=>by
  obtain ⟨cur,h1 | ⟨g',h1,h2⟩⟩:=hpr
  ·rw[h1] at e;cases e
  ·rw[h1] at e;cases e
   exact (h.rep j hj).1.not_own h2 (by decide) (by decide) (by decide) (by decide) hk
 have hx:∀ j (hj:j<ds.length) k,ds[j].own k->k≠w0.heap.size:=fun j hj k hk e=>(h.rep j hj).1.not_own h.blk (by decide) (by decide) (by decide) (by decide) (e ▸ hk)
 have hrx:∀ k,r.own k->k≠w0.heap.size:=fun k hk e=>hr.not_own (h.blk.below hb5) (by decide) (by decide) (by decide) (by decide) (e ▸ hk)
 have hgx:g≠w0.heap.size:=fun e=>by
  subst e
  exact row_ne hB ho (by decide) rfl
 have hget:∀ j (hj:j<(ds ++ [r]).length),(∃ hj':j<ds.length,(ds ++ [r])[j]=ds[j])\/(j=ds.length/\(ds ++ [r])[j]=r):=fun j hj=>by
  by_cases hlt:j<ds.length
  ·exact Or.inl ⟨hlt,List.getElem_append_left hlt⟩
  ·have e:j=ds.length:=by simp at hj;omega
   subst e
   exact Or.inr ⟨rfl,by simp⟩
 refine ⟨?_, ?_,fun j hj=>?_,fun i j hi hj hij k hk hk2=>?_, ?_⟩
 ·unfold Blk at hB ⊢
  simp[World.setCell,Array.getElem?_modify,hB]
 ·have e:ptrs ((ds ++ [r]).map RD.rb)=ptrs (ds.map RD.rb) ++ [.pointer (some ⟨r.rb,0,none⟩)]:=by simp[ptrs]
  rw[e,List.length_append]
  exact own_chg ho hcs (fun k hk e=>by cases hk;exact hgx e)
 ·rcases hget j hj with ⟨hj',e⟩ | ⟨e1,e⟩
  ·rw[e]
   obtain ⟨r1,r2,r3⟩:=h.rep j hj'
   exact ⟨(r1.chg hw6 (hold j hj')).chg hcs (hx j hj'),r2,r3⟩
  ·rw[e]
   subst e1
   refine ⟨(hr.chg h56 (fun k hk e2=>?_)).chg hcs hrx,hri,fun k hk=>Nat.le_trans h.bel.size (hro k hk)⟩
   have:=hro k hk
   have:=hrl k e2
   omega
 ·rcases hget i hi with ⟨hi',e⟩ | ⟨e1,e⟩
  ·rw[e] at hk
   rcases hget j hj with ⟨hj',e'⟩ | ⟨e1',e'⟩
   ·rw[e'] at hk2
    exact h.apart i j hi' hj' hij k hk hk2
   ·rw[e'] at hk2
    have:=hro k hk2
    have:=(h.rep i hi').1.lt hk
    omega
  ·rw[e] at hk
   rcases hget j hj with ⟨hj',e'⟩ | ⟨e1',e'⟩
   ·rw[e'] at hk2
    have:=hro k hk
    have:=(h.rep j hj').1.lt hk2
    omega
   ·omega
 ·have h1:Below w0.heap.size w0 (w5.alloc (.cells #[.pointer (some ⟨r.rb,0,none⟩)] 81)):=h.bel.trans (hb5a.mono h.bel.size)
  have h2:Below w0.heap.size w0 w6:=h1.grown hg h1.size (fun k hk=>(h.row.lt k hk).1)
  exact h2.setCell (p:=⟨w0.heap.size,2,none⟩) (Nat.le_refl _) _
theorem NewP.done {w0 w:World} {rv:Value} {n room:Nat} {ds:List RD} (h:NewP w0 w rv n room ds) (h4:4<=w0.heap.size) (h1:1<=ds.length) (h6:ds.length<=6) (hn:ds.length=n) :
  ∃ q cap,rv=.slice (some ⟨q,0,none⟩) ds.length cap/\w0.heap.size<=q/\CluP w w0.heap.size q cap (.slice none 0 0) 0 ds []:=by
 obtain ⟨hx,⟨e1,e2⟩ | ⟨q,cap,cur,rfl,hq,hh,hcap,_,hsz,htk⟩⟩:=h.row
 ·omega
 ·refine ⟨q,cap,rfl,hq,h.blk,⟨cur,hh,fun j hj=>?_⟩,World.ownsRow_nil _ _ _ _,fun j hj=>(h.rep j hj).1,fun j hj=>?_,h.apart,fun j hj=>?_,fun j hj=>?_,h6,hcap,h4,by simp⟩
  ·have e:cur.toList[j]? = (ptrs (ds.map RD.rb))[j]?:=by rw[<- htk,List.getElem?_take,if_pos (by omega)]
   rw[<- Array.getElem?_toList,e]
   simp[ptrs,hj]
  ·obtain ⟨rb,kb,db,ab,e⟩:=(h.rep j hj).2.1
   rw[e,hn]
   exact ⟨rfl,rfl,fun i=>others_mem⟩
  ·exact (h.rep j hj).1.not_own h.blk (by decide) (by decide) (by decide) (by decide)
  ·exact (h.rep j hj).1.not_own (cs:=cur) hh (by decide) (by decide) (by decide) (by decide)
end Go.Proofs.YtfmmllpjgkgeaaaGreatDoor

