import Derived.Conc.MuLone
import Derived.Conc.MuData
import Derived.KernelRfl
import Derived.Test.YtfmmllpjgkgeaaaGreatDoorPartM22
import Derived.Test.YtfmmllpjgkgeaaaGreatDoorPartM32
set_option linter.unusedVariables false
set_option linter.unusedSimpArgs false
set_option maxHeartbeats 16000000
set_option maxRecDepth 100000
namespace Go.Proofs
open Go.Proofs.Tryz
abbrev YtfmmllpjgkgeaaaGreatDoor.muLink:Go.Conc.Locks.MuLink:={ lock:=43,unlock:=44,ilock:=77,iunlock:=78,lockSlow:=132,unlockSlow:=135,disable:=128,enable:=130,acquire:=131,relMerge:=133,cas32:=129,add32:=134,tMutex:=75,tIMutex:=73,tPMutex:=121,tPIMutex:=184,tPI32:=186,tUP:=188,tNoCopy:=70,tU32:=71 }
theorem YtfmmllpjgkgeaaaGreatDoor.muLib:Go.Conc.Locks.MuLib prog YtfmmllpjgkgeaaaGreatDoor.muLink :=
 ⟨func43,func44,func77,func78,func128,func130,func131,func133,func129,func134,
  underlying73,runUnderlying73,sizeOf73,isAgg73,zeroValue73,underlying75,runUnderlying75,sizeOf75,isAgg75,zeroValue75,underlying121,runUnderlying121,sizeOf121,isAgg121,zeroValue121,underlying184,runUnderlying184,sizeOf184,isAgg184,zeroValue184,underlying186,runUnderlying186,sizeOf186,isAgg186,zeroValue186,underlying188,runUnderlying188,sizeOf188,isAgg188,zeroValue188,underlying70,runUnderlying70,sizeOf70,isAgg70,zeroValue70,underlying21,runUnderlying21,sizeOf21,isAgg21,zeroValue21,(by kernel_rfl)⟩
end Go.Proofs
namespace Go.Proofs.YtfmmllpjgkgeaaaGreatDoor
open Go.Proofs.Tryz Go.RowKit Go.Maps Go.WideMaps
abbrev dK:=RD
def Oc(bs:List (Nat×ByteArray)):List Value:=bs.flatMap λb=>[.int .i64 b.1,.string b.2]
theorem Rn(bs:List (Nat×ByteArray))(b:Nat×ByteArray):Oc (bs++[b])=Oc bs++[.int .i64 b.1,.string b.2]:=by simp[Oc]
theorem Ef:∀(bs:List (Nat×ByteArray))(i:Nat)(h:i<bs.length),(Oc bs)[i*2]?=some (.int .i64 (bs[i].1))/\(Oc bs)[i*2+1]?=some (.string bs[i].2)
 | [],i,h=>by simp at h
 | b::r,0,h=>by simp[Oc]
 | b::r,i+1,h=>by have:=Ef r i (by simpa using h);have e:Oc (b::r)=[.int .i64 b.1,.string b.2]++Oc r:=rfl;rw[e,List.getElem?_append_right (by simp;omega),List.getElem?_append_right (by simp;omega)];simp only[List.length_cons,List.length_nil,List.getElem_cons_succ];rw[show(i+1)*2-(0+1+1)=i*2 by omega,show(i+1)*2+1-(0+1+1)=i*2+1 by omega];exact this
structure aQ(w:World)(x q cap:Nat)(fv:Value)(st:Int)(ds:List dK)(bs:List (Nat×ByteArray)):Prop where
 blk:aA w x #[.int .i32 st,.int .u32 0,.slice (some ⟨q,0,none⟩) ds.length cap,fv] 79
 row:∃cs,aA w q cs 81/\∀j(h:j<ds.length),cs[j]?=some (.pointer (some ⟨ds[j].rb,0,none⟩))
 fr:w.ownsRow 0 109 2 fv bs.length (Oc bs)
 rep:∀j(h:j<ds.length),dQ w ds[j]
 ra:∀j(h:j<ds.length),ds[j].a=j/\ds[j].cut=false/\∀i,i∈ds[j].nb↔i<ds.length/\i≠j
 apart:∀i j(hi:i<ds.length)(hj:j<ds.length),i≠j->∀k,ds[i].own k->¬ds[j].own k
 xr:∀j(h:j<ds.length),¬ds[j].own x
 qr:∀j(h:j<ds.length),¬ds[j].own q
 len:ds.length<=6
 cap:ds.length<=cap
 x4:4<=x
 GR:bs.length<=500
section
variable{w w':World}{x q cap:Nat}{fv:Value}{st:Int}{ds:List dK}{bs:List (Nat×ByteArray)}
theorem aQ.VB(h:aQ w x q cap fv st ds bs):∀g,fv.ownBlock=some g->Tagged w g 109:=by
 intro g hg;obtain⟨_,h1|⟨g',cap,cur,rfl,_,hh,_⟩⟩:=h.fr
 ·rw[h1.1]at hg;cases hg
 ·cases hg;exact⟨cur,hh⟩
theorem aQ.xq(h:aQ w x q cap fv st ds bs):x≠q:=by
 intro e;obtain⟨cs,h1,_⟩:=h.row;have:=h.blk;subst e;have e2:some (Obj.cells _ _ _)=some (Obj.cells _ _ _):=(show w.heap[x]?=_ from this).symm.trans h1;injection e2 with e2
 injection e2 with _ e3;exact absurd e3 (by decide)
theorem aQ.aJ{M:Nat->Prop}(h:aQ w x q cap fv st ds bs)(hc:ay M w w')(h1:¬M x)(h2:¬M q)(h3:∀j(h:j<ds.length)k,ds[j].own k->¬M k)(h4:∀g,fv.ownBlock=some g->¬M g):aQ w' x q cap fv st ds bs:=by obtain⟨cs,r1,r2⟩:=h.row;exact⟨h.blk.aJ hc h1,⟨cs,r1.aJ hc h2,r2⟩,aZ h.fr hc h4,λj hj=>(h.rep j hj).aJ hc (h3 j hj),h.ra,h.apart,h.xr,h.qr,h.len,h.cap,h.x4,h.GR⟩
theorem aQ.below(h:aQ w x q cap fv st ds bs)(hb:Below w.heap.size w w'):aQ w' x q cap fv st ds bs:=h.aJ (M:=λ_=>False) (ay.of_below hb) (λh=>h) (λh=>h) (λ_ _ _ _ h=>h) (λ_ _ h=>h)
theorem aQ.cell(h:aQ w x q cap fv st ds bs)(j:Nat)(hj:j<ds.length):w.cell? ⟨q,j,none⟩=some (.pointer (some ⟨ds[j].rb,0,none⟩)):=by obtain⟨cs,r1,r2⟩:=h.row;exact(r1.cell j).trans (r2 j hj)
theorem aQ.turn(h:aQ w x q cap fv st ds bs)(st':Int):aQ (w.setCell ⟨x,0,none⟩ (.int .i32 st')) x q cap fv st' ds bs:=by have hc:ay (λk=>k=x) w (w.setCell ⟨x,0,none⟩ (.int .i32 st')):=ay.setCell (M:=λk=>k=x) (p:=⟨x,0,none⟩) (ay.refl _ w) rfl _;obtain⟨cs,r1,r2⟩:=h.row;refine⟨?_,⟨cs,r1.aJ hc (Ne.symm h.xq),r2⟩,aZ h.fr hc (λg hg e=>Tagged.ne (h.VB g hg) ⟨_,h.blk⟩ (by decide) e),λj hj=>(h.rep j hj).aJ hc (λk hk e=>h.xr j hj (e▸hk)),h.ra,h.apart,h.xr,h.qr,h.len,h.cap,h.x4,h.GR⟩;have hb:=h.blk;unfold aA at hb⊢;simp[World.setCell,Array.getElem?_modify,hb]
end
def qG(n:Nat)(l:List Int):Int:=if ∀i∈l,0<=i/\i<n then 0 else 2
def iF(n:Nat)(i:Int):Int:=if 0<=i/\i<n then 0 else 2
theorem Ro(n:Nat)(i:Int):qG n [i]=iF n i:=by unfold qG iF;simp
theorem Rq(n:Nat)(i j:Int):qG n [i,j]=if(0<=i/\i<n)/\(0<=j/\j<n)then 0 else 2:=by unfold qG;simp
theorem aQ.Xv{w:World}{x q cap:Nat}{fv:Value}{st:Int}{ds:List dK}{bs:List (Nat×ByteArray)}(h:aQ w x q cap fv st ds bs)(j:Nat)(hj:j<ds.length):qC w ds[j].rb j ds[j].io ds[j].co ds[j].lo ds[j].K ds[j].C:=by have:=(h.rep j hj).rep;rw[(h.ra j hj).1]at this;exact this
theorem AY(w:World)(x q cap L:Nat)(c2:w.cell? ⟨x,2,none⟩=some (.slice (some ⟨q,0,none⟩) L cap))(i:Int):Calls prog 61 #[.pointer (some ⟨x,0,none⟩),.int .i64 i] w λe w'=>e=.returned (.bool (decide (0<=i/\i<L)))/\w'=w:=by
 by_cases h0:0<=i
 ·by_cases h1:i<L
  ·have e:decide (0<=i/\i<L)=true:=by simp[h0,h1]
   rw[e];have hd:decide ((0:Int)<=i)=true:=by simpa using h0
   have hd1:decide (i<(L:Int))=true:=by simpa using h1
   clear e;go_enter func61,ntmps61;go_wp2;go_ret;exact⟨rfl,rfl⟩
  ·have e:decide (0<=i/\i<L)=false:=by simp[h1]
   rw[e];have hd:decide ((0:Int)<=i)=true:=by simpa using h0
   have hd1:decide (i<(L:Int))=false:=by simpa using h1
   clear e;go_enter func61,ntmps61;go_wp2;go_ret;exact⟨rfl,rfl⟩
 ·have e:decide (0<=i/\i<L)=false:=by simp[h0]
  rw[e];have hd:decide ((0:Int)<=i)=false:=by simpa using h0
  clear e;go_enter func61,ntmps61;go_wp2;go_ret;exact⟨rfl,rfl⟩
theorem zH(w:World)(x q cap:Nat)(fv:Value)(st:Int)(ds:List dK)(bs:List (Nat×ByteArray))(hC:aQ w x q cap fv st ds bs)(g:Nat)(l:List Int)(hl:l.length<=10)(hg:∀j(h:j<l.length),w.cell? ⟨g,j,none⟩=some (.int .i64 l[j])):Calls prog 45 #[.pointer (some ⟨x,0,none⟩),.slice (some ⟨g,0,none⟩) l.length l.length] w λe w'=>e=.returned (.int .i64 (qG ds.length l))/\w'=w:=by
 have c2:w.cell? ⟨x,2,none⟩=some (.slice (some ⟨q,0,none⟩) ds.length cap):=(hC.blk.cell 2).trans rfl;have hlen:=hC.len;have Xw:Hid (ds.length<=cap/\∀(k:Nat)(h:k<ds.length),w.cell? ⟨q,k,none⟩=some (.pointer (some ⟨ds[k].rb,0,none⟩))/\Calls prog 62 #[.pointer (some ⟨ds[k].rb,0,none⟩)] w λe w'=>e=.returned (.bool false)/\w'=w):=⟨hC.cap,λk h=>⟨hC.cell k h,JY w ds[k] (hC.rep k h)⟩⟩;have HI:Hid (∀i,Calls prog 61 #[.pointer (some ⟨x,0,none⟩),.int .i64 i] w λe w'=>e=.returned (.bool (decide (0<=i/\i<ds.length)))/\w'=w):=λi=>AY w x q cap ds.length c2 i;clear hC;have Hr:Hid (qG ds.length l=if ∀i∈l,0<=i/\i<ds.length then 0 else 2):=rfl;generalize qG ds.length l=R at *;have Hg:Hid (∀j(h:j<l.length),w.cell? ⟨g,j,none⟩=some (.int .i64 l[j])):=hg;clear hg;go_enter func45,ntmps45;go_wp2;go_loopg [6,9] l.length (λgh v6 v9 wx=>∃i:Nat,i+gh=l.length/\v9=.int .i64 i/\Hid (∀j(h:j<l.length),j<i->0<=l[j]/\l[j]<ds.length)/\wx=w);case atStart=>exact⟨0,by omega,rfl,λj _ h=>absurd h (by omega),rfl⟩
 case round =>
  obtain⟨i,hi,rfl,hin,rfl⟩:=hrel;by_cases hlt:i<l.length
  ·have hc:=Hg.out i hlt;have Hm:Hid (l[i]∈l):=List.getElem_mem hlt;have He:Hid (∀j(h:j<l.length),j<i+1->j<i\/l[j]=l[i]):=λj h h2=>by
    by_cases e:j=i
    ·subst e;exact Or.inr rfl
    ·exact Or.inl (by omega)
   generalize l[i]=y at *;by_cases h1:0<=y/\y<(ds.length:Int)
   ·have hz:Hid (0<=y/\y<(ds.length:Int)):=h1;have hdec:decide (0<=y/\y<(ds.length:Int))=true:=by simpa using h1
    obtain⟨k,rfl⟩:∃k:Nat,y=(k:Int):=⟨y.toNat,by omega⟩;have hk:k<ds.length:=by omega
    have hkc:=Xw.out.1;have hq:=(Xw.out.2 k hk).1;have HD:Hid (_):=(Xw.out.2 k hk).2;generalize ds[k].rb=rbk at *;have hIk:=HI.out (k:Int);rw[hdec]at hIk;clear hdec;go_wp2_with fail;refine Calls.mono hIk ?_;rintro e w2⟨rfl,rfl⟩;go_wp2_with fail;refine Calls.mono HD.out ?_;rintro e w3⟨rfl,rfl⟩;go_wp2;go_roundg (l.length-(i+1));case measure=>omega
    case rel=>exact⟨i+1,by omega,by go_num,λj h h2=>by
     rcases He.out j h h2 with h3|h3
     ·exact hin.out j h h3
     ·rw[h3];exact hz.out,rfl⟩
   ·have hdec:decide (0<=y/\y<(ds.length:Int))=false:=by simpa using h1
    have Hno:Hid (¬(0<=y/\y<(ds.length:Int))):=h1;have hIk:=HI.out y;rw[hdec]at hIk;clear hdec h1;go_wp2_with fail;refine Calls.mono hIk ?_;rintro e w2⟨rfl,rfl⟩;go_wp2;go_ret;exact⟨by rw[Hr.out,if_neg (λh=>Hno.out (h y Hm.out))];rfl,rfl⟩
  ·have hz:Hid (∀y∈l,0<=y/\y<(ds.length:Int)):=λy hy=>by obtain⟨j,hj,rfl⟩:=List.getElem_of_mem hy;exact hin.out j hj (by omega)
   go_wp2;go_ret;exact⟨by rw[Hr.out,if_pos hz.out];rfl,rfl⟩
theorem qW(w:World)(x q cap:Nat)(fv:Value)(st:Int)(ds:List dK)(bs:List (Nat×ByteArray))(hC:aQ w x q cap fv st ds bs)(g:Nat)(i:Int)(hg:w.cell? ⟨g,0,none⟩=some (.int .i64 i)):Calls prog 45 #[.pointer (some ⟨x,0,none⟩),.slice (some ⟨g,0,none⟩) 1 1] w λe w'=>e=.returned (.int .i64 (iF ds.length i))/\w'=w:=by
 rw[<- Ro];exact zH w x q cap fv st ds bs hC g [i] (by simp) (λj h=>by
  have:j=0:=by simpa using h
  subst this;exact hg)
theorem Oe(w:World)(x q cap:Nat)(fv:Value)(st:Int)(ds:List dK)(bs:List (Nat×ByteArray))(hC:aQ w x q cap fv st ds bs)(g:Nat)(i j:Int)(hg:w.cell? ⟨g,0,none⟩=some (.int .i64 i))(hg1:w.cell? ⟨g,1,none⟩=some (.int .i64 j)):Calls prog 45 #[.pointer (some ⟨x,0,none⟩),.slice (some ⟨g,0,none⟩) 2 2] w λe w'=>e=.returned (.int .i64 (qG ds.length [i,j]))/\w'=w:=by
 exact zH w x q cap fv st ds bs hC g [i,j] (by simp) (λk h=>by
  have h2:k<2:=by simpa using h
  match k,h2 with
  | 0,_=>exact hg
  | 1,_=>exact hg1)
def zI(ds:List dK)(j:Nat):Nat:=(ds[j]?.map λd=>d.K j).getD 0
def jM(ds:List dK):Nat->Nat
 | 0=>0
 | k+1=>jM ds k+zI ds k
theorem Lp(ds:List dK)(k:Nat)(h:k<ds.length):zI ds k=ds[k].K k:=by unfold zI;simp[h]
theorem vS(ds:List dK)(k:Nat)(h:k<ds.length):jM ds (k+1)=jM ds k+ds[k].K k:=by rw[jM,Lp ds k h]
theorem Lr(ds:List dK)(hn:∀j(h:j<ds.length),ds[j].K j<=500):∀k,k<=ds.length->jM ds k<=500*k
 | 0,_=>by simp[jM]
 | k+1,h=>by rw[vS ds k (by omega)];have:=Lr ds hn k (by omega);have:=hn k (by omega);omega
theorem J5(w:World)(x q cap:Nat)(fv:Value)(st:Int)(ds:List dK)(bs:List (Nat×ByteArray))(hC:aQ w x q cap fv st ds bs):Calls prog 48 #[.pointer (some ⟨x,0,none⟩)] w λe w'=>e=.returned (.int .i64 (jM ds ds.length))/\Below w.heap.size w w':=by
 have c2:w.cell? ⟨x,2,none⟩=some (.slice (some ⟨q,0,none⟩) ds.length cap):=(hC.blk.cell 2).trans rfl;have hlen:=hC.len;have Hs:Hid (∀k,k<=ds.length->jM ds k<=500*k):=Lr ds (λj h=>(hC.rep j h).xw j);have Hm:Hid (∀j(h:j<ds.length)wx,Below w.heap.size w wx->wx.cell? ⟨q,j,none⟩=some (.pointer (some ⟨ds[j].rb,0,none⟩))/\Calls prog 86 #[.pointer (some ⟨ds[j].rb,0,none⟩)] wx λe w'=>e=.returned (.int .i64 (ds[j].K j))/\Below w.heap.size w w'):=λj hj wx hb=>by refine⟨(hC.below hb).cell j hj,Calls.mono (QM wx _ _ _ _ _ _ _ ((hC.below hb).Xv j hj)) ?_⟩;rintro e w'⟨rfl,hb2⟩;exact⟨rfl,hb.trans (hb2.mono hb.size)⟩
 clear hC;go_enter func48,ntmps48;go_wp2;go_loopg [3,11] ds.length (λg v3 v11 wx=>∃i:Nat,i+g=ds.length/\v3=.int .i64 (jM ds i)/\v11=.int .i64 i/\Below w.heap.size w wx);case atStart=>exact⟨0,by omega,rfl,rfl,Below.refl _ w⟩
 case round =>
  obtain⟨i,hi,rfl,rfl,hb⟩:=hrel;by_cases hlt:i<ds.length
  ·obtain⟨hc,hm⟩:=Hm.out i hlt _ hb;have HM:Hid (_):=hm;have hs:=vS ds i hlt;have hle:=Hs.out (i+1) (by omega);clear hm;generalize ds[i].K i=ki at *;go_wp2_with fail;refine Calls.mono HM.out ?_;rintro e w1⟨rfl,hb1⟩;clear HM hc;go_wp2_with fail;go_roundg (ds.length-(i+1));case measure=>omega
   case rel=>exact⟨i+1,by omega,by go_num,by go_num,hb1⟩
  ·have he:i=ds.length:=by omega
   subst he;go_wp2_with fail;go_ret;exact⟨rfl,hb⟩
end Go.Proofs.YtfmmllpjgkgeaaaGreatDoor
namespace Go.Proofs.YtfmmllpjgkgeaaaGreatDoor
open Go.Proofs.Tryz Go.RowKit Go.Maps Go.WideMaps Go.MuLone
variable{B fr:Nat}{K:Nat->Nat}{M:Nat->Prop}{r r':RD}{w w':World}
theorem lF{x:Nat}(h:M x)(v:Value):ay M w (w.setCell ⟨x,0,none⟩ v):=ay.setCell (M:=M) (p:=⟨x,0,none⟩) (ay.refl _ w) h v
def qH(ds:List dK)(i:Int):Int×Int:=if 0<=i/\i<ds.length then(((ds[i.toNat]?.map λd=>aV d.K).getD 0:Nat),0) else(0,2)
theorem J6(w:World)(x q cap:Nat)(fv:Value)(ds:List dK)(bs:List (Nat×ByteArray))(hC:aQ w x q cap fv 0 ds bs)(i:Int):Calls prog 22 #[.pointer (some ⟨x,0,none⟩),.int .i64 i] w λe w'=>e=.returned (.tuple #[.int .i64 (qH ds i).1,.int .i64 (qH ds i).2])/\aQ w' x q cap fv 0 ds bs/\ay (λk=>k=x) w w':=by
 have HC:Hid (aQ w x q cap fv 0 ds bs):=hC;have k0:w.cell? ⟨x,0,none⟩=some (.int .i32 0):=(hC.blk.cell 0).trans rfl;have z0:w.frozen? ⟨x,0,none⟩=false:=hC.blk.frozen 0;have fU:Hid (aQ (w.setCell ⟨x,0,none⟩ (.int .i32 1)) x q cap fv 1 ds bs):=hC.turn 1;have hxl:=hC.blk.lt;clear hC;go_enter_defers func22,ntmps22;go_wp2_with (go_at_call 43;refine(lock_free muLib ⟨x,0,none⟩ _ k0 z0).mono ?_;rintro e w'⟨rfl,rfl⟩);have h1b:Below (w.setCell ⟨x,0,none⟩ (.int .i32 1)).heap.size (w.setCell ⟨x,0,none⟩ (.int .i32 1)) ((w.setCell ⟨x,0,none⟩ (.int .i32 1)).alloc (.cells #[.int .i64 i] 3)):=(Below.refl _ _).alloc (Nat.le_refl _) _;have hgc:((w.setCell ⟨x,0,none⟩ (.int .i32 1)).alloc (.cells #[.int .i64 i] 3)).cell? ⟨w.heap.size,0,none⟩=some (.int .i64 i):=by have:=(aA.new (w.setCell ⟨x,0,none⟩ (.int .i32 1)) #[.int .i64 i] 3).cell 0;simpa using this
 have hch:ay (λk=>k=x) w ((w.setCell ⟨x,0,none⟩ (.int .i32 1)).alloc (.cells #[.int .i64 i] 3)):=(lF (M:=λk=>k=x) rfl _).below h1b;have HB:=fU.out.below h1b;refine Calls.mono (qW _ x q cap fv 1 ds bs HB w.heap.size i hgc) ?_;rintro e w1⟨rfl,hw1⟩;rw[<- hw1]at HB hch;clear hgc h1b hw1 fU k0 z0 hxl;have fU:Hid (aQ w1 x q cap fv 1 ds bs):=HB;have xO:Hid (ay (λk=>k=x) w w1):=hch;clear HB hch HC;by_cases hi:0<=i/\i<ds.length
 ·obtain⟨k,rfl⟩:=Int.eq_ofNat_of_zero_le hi.1;have hk:k<ds.length:=by omega
  have hn:iF ds.length (k:Int)=0:=by unfold iF;rw[if_pos hi]
  have hkd:Hid (qH ds (k:Int)=((aV ds[k].K:Int),0)):=by unfold Hid qH;rw[if_pos hi];simp[hk]
  rw[hn];have c2:w1.cell? ⟨x,2,none⟩=some (.slice (some ⟨q,0,none⟩) ds.length cap):=(fU.out.blk.cell 2).trans rfl;have cq:=fU.out.cell k hk;have HK:Hid (_):=og w1 _ _ _ _ _ _ _ (fU.out.Xv k hk);clear hn hi;go_wp2_with fail;refine Calls.mono HK.out ?_;rintro e w2⟨rfl,hb2⟩;have HC2:Hid (aQ w2 x q cap fv 1 ds bs):=fU.out.below hb2;have xk:Hid (ay (λk=>k=x) w w2):=xO.out.below hb2;clear HK fU xO hb2 c2 cq;go_wp2_with fail;refine leaves_cons (f:=44) (args:=#[.pointer (some ⟨x,0,none⟩)]) (by simp) (by simp[go_sem]) ?_;refine(unlock_deferred muLib ⟨x,0,none⟩ .returning _ ((HC2.out.blk.cell 0).trans rfl) (HC2.out.blk.frozen 0)).mono ?_;rintro e u' w3⟨rfl,rfl,rfl⟩;exact⟨_,results_tmp2 rfl _ _ _,by rw[hkd.out];rfl,HC2.out.turn 0,ay.setCell (M:=λk=>k=x) (p:=⟨x,0,none⟩) xk.out rfl _⟩
 ·have hn:iF ds.length i=2:=by unfold iF;rw[if_neg hi]
  have hkd:Hid (qH ds i=(0,2)):=by unfold Hid qH;rw[if_neg hi]
  rw[hn];clear hn hi;go_wp2_with fail;refine leaves_cons (f:=44) (args:=#[.pointer (some ⟨x,0,none⟩)]) (by simp) (by simp[go_sem]) ?_;refine(unlock_deferred muLib ⟨x,0,none⟩ .returning _ ((fU.out.blk.cell 0).trans rfl) (fU.out.blk.frozen 0)).mono ?_;rintro e u' w3⟨rfl,rfl,rfl⟩;exact⟨_,results_tmp2 rfl _ _ _,by rw[hkd.out];rfl,fU.out.turn 0,ay.setCell (M:=λk=>k=x) (p:=⟨x,0,none⟩) xO.out rfl _⟩
theorem Glob.J7(h:Glob w)(hc:ay M w w')(h4:∀k,M k->4<=k):Glob w':=by obtain⟨⟨m,g1⟩,⟨e1,g2,g2'⟩,⟨e2,g3,g3'⟩,g4,g5⟩:=h;have hb4:Below 4 w w':=⟨hc.os,hc.tape,hc.output,hc.size,λk hk=>hc.block k (by omega) (λhk2=>by have:=h4 k hk2;omega)⟩;refine⟨⟨m,(hb4.cell (p:=⟨0,0,none⟩) (by decide)).trans g1⟩,⟨e1,(hb4.cell (p:=⟨1,0,none⟩) (by decide)).trans g2,g2'⟩,⟨e2,(hb4.cell (p:=⟨2,0,none⟩) (by decide)).trans g3,g3'⟩, ?_,Nat.lt_of_lt_of_le g5 hb4.size⟩;exact var?_below (g:=3) hb4 (by kernel_rfl) (by decide) g4
def Xx(ds:List dK)(i:Int)(s t:ByteArray)(r:Int):Prop :=
 (¬(0<=i/\i<ds.length)/\t=⟨#[]⟩/\r=2)\/((0<=i/\i<ds.length)/\Thk.path (ah s)=false/\t=⟨#[]⟩/\r=4) \/
 ∃k,∃h:k<ds.length,i=(k:Int)/\Thk.path (ah s)=true/\r=0/\∃xs,jU (aO ds[k].C) xs/\t=⟨(oJ (ah s) xs).toArray⟩
theorem Rt(w:World)(hG:Glob w)(x q cap:Nat)(fv:Value)(ds:List dK)(bs:List (Nat×ByteArray))(hC:aQ w x q cap fv 0 ds bs)(hok:∀j(h:j<ds.length),sQ (jU (aO ds[j].C)))(i:Int)(s:ByteArray)(hs:s.size<=1048576):Calls prog 24 #[.pointer (some ⟨x,0,none⟩),.int .i64 i,.string s] w λe w'=>∃t r,e=.returned (.tuple #[.string t,.int .i64 r])/\Xx ds i s t r/\aQ w' x q cap fv 0 ds bs/\ay (λk=>k=x) w w':=by
 have Ai:Hid (∀j(h:j<ds.length),sQ (jU (aO ds[j].C))):=hok;clear hok;have HC:Hid (aQ w x q cap fv 0 ds bs):=hC;have k0:w.cell? ⟨x,0,none⟩=some (.int .i32 0):=(hC.blk.cell 0).trans rfl;have z0:w.frozen? ⟨x,0,none⟩=false:=hC.blk.frozen 0;have fU:Hid (aQ (w.setCell ⟨x,0,none⟩ (.int .i32 1)) x q cap fv 1 ds bs):=hC.turn 1;have HG:Hid (Glob w):=hG;clear hC hG;go_enter_defers func24,ntmps24;go_wp2_with (go_at_call 43;refine(lock_free muLib ⟨x,0,none⟩ _ k0 z0).mono ?_;rintro e w'⟨rfl,rfl⟩);have h1b:Below (w.setCell ⟨x,0,none⟩ (.int .i32 1)).heap.size (w.setCell ⟨x,0,none⟩ (.int .i32 1)) ((w.setCell ⟨x,0,none⟩ (.int .i32 1)).alloc (.cells #[.int .i64 i] 3)):=(Below.refl _ _).alloc (Nat.le_refl _) _;have hgc:((w.setCell ⟨x,0,none⟩ (.int .i32 1)).alloc (.cells #[.int .i64 i] 3)).cell? ⟨w.heap.size,0,none⟩=some (.int .i64 i):=by have:=(aA.new (w.setCell ⟨x,0,none⟩ (.int .i32 1)) #[.int .i64 i] 3).cell 0;simpa using this
 have hch:ay (λk=>k=x) w ((w.setCell ⟨x,0,none⟩ (.int .i32 1)).alloc (.cells #[.int .i64 i] 3)):=(lF (M:=λk=>k=x) rfl _).below h1b;have HB:=fU.out.below h1b;refine Calls.mono (qW _ x q cap fv 1 ds bs HB w.heap.size i hgc) ?_;rintro e w1⟨rfl,hw1⟩;rw[<- hw1]at HB hch;clear hgc h1b hw1 fU k0 z0;have G1:Hid (Glob w1):=HG.out.J7 hch (λk e=>by subst e;exact HC.out.x4);have fU:Hid (aQ w1 x q cap fv 1 ds bs):=HB;have xO:Hid (ay (λk=>k=x) w w1):=hch;clear HB hch HC HG;by_cases hi:0<=i/\i<ds.length
 ·obtain⟨k,rfl⟩:=Int.eq_ofNat_of_zero_le hi.1;have hk:k<ds.length:=by omega
  have Hi:Hid (_):=hi;have hn:iF ds.length (k:Int)=0:=by unfold iF;rw[if_pos hi]
  rw[hn];clear hn hi;obtain⟨m,hm⟩:=G1.out.len;have HP:Hid (_):=tX s m w1 hs hm;clear hm;go_wp2_with fail;refine Calls.mono HP.out ?_;rintro e w2⟨rfl,hb2⟩;have HC2:Hid (aQ w2 x q cap fv 1 ds bs):=fU.out.below hb2;have xk:Hid (ay (λk=>k=x) w w2):=xO.out.below hb2;have G2:Hid (Glob w2):=G1.out.mono hb2;clear HP fU xO G1 hb2;cases hp:Thk.path (ah s) with
  | false =>have Hp:Hid (_):=hp;clear hp;go_wp2_with fail;refine leaves_cons (f:=44) (args:=#[.pointer (some ⟨x,0,none⟩)]) (by simp) (by simp[go_sem]) ?_;refine(unlock_deferred muLib ⟨x,0,none⟩ .returning _ ((HC2.out.blk.cell 0).trans rfl) (HC2.out.blk.frozen 0)).mono ?_;rintro e u' w9⟨rfl,rfl,rfl⟩;exact⟨_,results_tmp2 rfl _ _ _,_,_,rfl,Or.inr (Or.inl ⟨Hi.out,Hp.out,rfl,rfl⟩),HC2.out.turn 0,ay.setCell (M:=λk=>k=x) (p:=⟨x,0,none⟩) xk.out rfl _⟩
  | true =>have HT:Hid (_):=Gv w2 G2.out _ _ _ _ _ _ _ (HC2.out.Xv k hk) (Ai.out k hk) s hs hp;have Hp:Hid (_):=hp;have c2:w2.cell? ⟨x,2,none⟩=some (.slice (some ⟨q,0,none⟩) ds.length cap):=(HC2.out.blk.cell 2).trans rfl;have cq:=HC2.out.cell k hk;clear hp G2;go_wp2_with fail;refine Calls.mono HT.out ?_;rintro e w3⟨xs,hx,rfl,hb3⟩;have tC:Hid (aQ w3 x q cap fv 1 ds bs):=HC2.out.below hb3;have xA:Hid (ay (λk=>k=x) w w3):=xk.out.below hb3;have Hx:Hid (_):=hx;clear HT HC2 xk hb3 c2 cq hx;generalize ht:(⟨(oJ (ah s) xs).toArray⟩:ByteArray)=tt at *;have Ht:Hid (_):=ht.symm;clear ht;go_wp2_with fail;refine leaves_cons (f:=44) (args:=#[.pointer (some ⟨x,0,none⟩)]) (by simp) (by simp[go_sem]) ?_;refine(unlock_deferred muLib ⟨x,0,none⟩ .returning _ ((tC.out.blk.cell 0).trans rfl) (tC.out.blk.frozen 0)).mono ?_;rintro e u' w9⟨rfl,rfl,rfl⟩;exact⟨_,results_tmp2 rfl _ _ _,_,_,rfl,Or.inr (Or.inr ⟨k,hk,rfl,Hp.out,rfl,xs,Hx.out,Ht.out⟩),tC.out.turn 0,ay.setCell (M:=λk=>k=x) (p:=⟨x,0,none⟩) xA.out rfl _⟩
 ·have hn:iF ds.length i=2:=by unfold iF;rw[if_neg hi]
  have Hi:Hid (_):=hi;rw[hn];clear hn hi;go_wp2_with fail;refine leaves_cons (f:=44) (args:=#[.pointer (some ⟨x,0,none⟩)]) (by simp) (by simp[go_sem]) ?_;refine(unlock_deferred muLib ⟨x,0,none⟩ .returning _ ((fU.out.blk.cell 0).trans rfl) (fU.out.blk.frozen 0)).mono ?_;rintro e u' w9⟨rfl,rfl,rfl⟩;exact⟨_,results_tmp2 rfl _ _ _,_,_,rfl,Or.inl ⟨Hi.out,rfl,rfl⟩,fU.out.turn 0,ay.setCell (M:=λk=>k=x) (p:=⟨x,0,none⟩) xO.out rfl _⟩
theorem ay.wide{M':Nat->Prop}(h:ay M w w')(hm:∀k,M k->M' k):ay M' w w':=⟨h.os,h.tape,h.output,h.size,λk hk hn=>h.block k hk (λe=>hn (hm k e))⟩
theorem ay.then{w1 w2:World}(h:ay M w w1)(h2:ay M w1 w2):ay M w w2:=⟨h2.os.trans h.os,h2.tape.trans h.tape,h2.output.trans h.output,Nat.le_trans h.size h2.size,λk hk hn=>(h2.block k (Nat.lt_of_lt_of_le hk h.size) hn).trans (h.block k hk hn)⟩
structure sV(B:Nat)(r r':RD):Prop where
 rb:r'.rb=r.rb
 a:r'.a=r.a
 cut:r'.cut=r.cut
 nb:r'.nb=r.nb
 own:∀b,r'.own b->r.own b\/B<=b
theorem sV.mono{B':Nat}(h:sV B r r')(hb:B'<=B):sV B' r r':=⟨h.rb,h.a,h.cut,h.nb,λb ho=>(h.own b ho).imp id (λh=>Nat.le_trans hb h)⟩
theorem aQ.renew{x q cap:Nat}{fv:Value}{st:Int}{ds:List dK}{bs:List (Nat×ByteArray)}(h:aQ w x q cap fv st ds bs)(k:Nat)(hk:k<ds.length)(hr:dQ w' r')(hn:sV w.heap.size ds[k] r')(hc:ay ds[k].own w w'):aQ w' x q cap fv st (ds.set k r') bs:=by
 obtain⟨cs,r1,r2⟩:=h.row;have hx:¬ds[k].own x:=h.xr k hk;have hq:¬ds[k].own q:=h.qr k hk;have hrb:∀j(hj:j<ds.length),(ds.set k r')[j]'(by simpa using hj)=if k=j then r' else ds[j]:=λj hj=>by rw[List.getElem_set]
 have hlt:∀j(hj:j<ds.length)b,ds[j].own b->b<w.heap.size:=λj hj b hb=>(h.rep j hj).lt hb;refine⟨?_,⟨cs,r1.aJ hc hq,λj hj=>?_⟩,aZ h.fr hc (λg hg e=>by obtain⟨cur,hcur⟩:=h.VB g hg;exact(h.rep k hk).kT (cs:=cur) (t:=109) hcur (by decide) (by decide) (by decide) (by decide) e),λj hj=>?_,λj hj=>?_,λi j hi hj hij b hb hb2=>?_,λj hj=>?_,λj hj=>?_,by simpa using h.len,by simpa using h.cap,h.x4,h.GR⟩
 ·rw[List.length_set];exact h.blk.aJ hc hx
 ·have hj':j<ds.length:=by simpa using hj
  rw[hrb j hj',r2 j hj'];by_cases e:k=j
  ·subst e;rw[if_pos rfl,hn.rb]
  ·rw[if_neg e]
 ·have hj':j<ds.length:=by simpa using hj
  rw[hrb j hj'];by_cases e:k=j
  ·subst e;rw[if_pos rfl];exact hr
  ·rw[if_neg e];exact(h.rep j hj').aJ hc (λb hb hb2=>h.apart k j hk hj' e b hb2 hb)
 ·have hj':j<ds.length:=by simpa using hj
  rw[hrb j hj',List.length_set];by_cases e:k=j
  ·subst e;rw[if_pos rfl,hn.a,hn.cut,hn.nb];exact h.ra k hk
  ·rw[if_neg e];exact h.ra j hj'
 ·have hi':i<ds.length:=by simpa using hi
  have hj':j<ds.length:=by simpa using hj
  rw[hrb i hi']at hb;rw[hrb j hj']at hb2;by_cases e:k=i
  ·subst e;rw[if_pos rfl]at hb;rw[if_neg hij]at hb2;rcases hn.own b hb with h1|h1
   ·exact h.apart k j hk hj' hij b h1 hb2
   ·have:=hlt j hj' b hb2;omega
  ·rw[if_neg e]at hb;by_cases e2:k=j
   ·subst e2;rw[if_pos rfl]at hb2;rcases hn.own b hb2 with h1|h1
    ·exact h.apart i k hi' hk hij b hb h1
    ·have:=hlt i hi' b hb;omega
   ·rw[if_neg e2]at hb2;exact h.apart i j hi' hj' hij b hb hb2
 ·have hj':j<ds.length:=by simpa using hj
  rw[hrb j hj'];by_cases e:k=j
  ·subst e;rw[if_pos rfl];intro ho;rcases hn.own x ho with h1|h1
   ·exact hx h1
   ·have:=h.blk.lt;omega
  ·rw[if_neg e];exact h.xr j hj'
 ·have hj':j<ds.length:=by simpa using hj
  rw[hrb j hj'];by_cases e:k=j
  ·subst e;rw[if_pos rfl];intro ho;rcases hn.own q ho with h1|h1
   ·exact hq h1
   ·have:=r1.lt;omega
  ·rw[if_neg e];exact h.qr j hj'
def qI(B:Nat)(r:RD)(fr:Nat)(K:Nat->Nat)(C:Nat->Option Thk.Ch)(r':RD):Prop :=
 ∃(io co lo:Nat)(st:jh)(pv:Value),r'=r.more io co lo pv fr st K C/\st.S=fD r K C/\st.It=aO (newC r K C)/\(B<=io/\B<=co/\B<=lo)/\(∀k,st.own k->B<=k)/\(pv.ownBlock=r.pv.ownBlock\/∃k,pv.ownBlock=some k/\B<=k)
theorem qI.Eh{C:Nat->Option Thk.Ch}(h:qI B r fr K C r'):sV B r r':=by
 obtain⟨io,co,lo,st,pv,rfl,_,_,h3,h4,h5⟩:=h;refine⟨rfl,rfl,rfl,rfl,λb hb=>?_⟩;rcases hb with hb|hb|hb|hb
 ·exact Or.inl (Or.inl hb)
 ·refine Or.inr ?_;rcases hb with e|e|e<;>(have e':=Option.some.inj e;omega)
 ·rcases hb with hb|hb|hb|⟨p,hp,hb⟩
  ·exact Or.inl (Or.inr (Or.inr (Or.inl (Or.inl hb))))
  ·have hb':pv.ownBlock=some b:=hb;rcases h5 with h5|⟨k,h5,h6⟩
   ·exact Or.inl (Or.inr (Or.inr (Or.inl (Or.inr (Or.inl (by rw[<- h5];exact hb'))))))
   ·rw[h5]at hb';cases hb';exact Or.inr h6
  ·exact Or.inl (Or.inr (Or.inr (Or.inl (Or.inr (Or.inr (Or.inl hb))))))
  ·have hp':p∈uF r.room r.ps ⟨aV K,fr,st⟩:=hp;have:p∈r.ps++[⟨aV K,fr,st⟩]:=by
    unfold uF at hp';split at hp'
    ·exact List.mem_of_mem_tail hp'
    ·exact hp'
   rcases List.mem_append.1 this with h|h
   ·exact Or.inl (Or.inr (Or.inr (Or.inl (Or.inr (Or.inr (Or.inr ⟨p,h,hb⟩))))))
   ·rw[List.mem_singleton]at h;subst h;exact Or.inr (h4 b hb)
 ·exact Or.inl (Or.inr (Or.inr (Or.inr hb)))
theorem qI.mono{B':Nat}{C:Nat->Option Thk.Ch}(h:qI B r fr K C r')(hb:B'<=B):qI B' r fr K C r':=by obtain⟨io,co,lo,st,pv,h0,h1,h2,h3,h4,h5⟩:=h;exact⟨io,co,lo,st,pv,h0,h1,h2,by omega,λk hk=>Nat.le_trans hb (h4 k hk),h5.imp id (λ⟨k,h6,h7⟩=>⟨k,h6,Nat.le_trans hb h7⟩)⟩
theorem vP.d{C:Nat->Option Thk.Ch}(h:vP w w' r fr K C r'):qI w.heap.size r fr K C r':=h.eq
def sW(x:Nat)(ds:List dK)(k:Nat):Prop:=k=x\/∃j,∃h:j<ds.length,ds[j].own k
def Og(w:World)(ds:List dK)(i:Int)(s:ByteArray)(r:Int)(ds':List dK):Prop :=
 (¬(0<=i/\i<ds.length)/\r=2/\ds'=ds) \/
 (∃m:Nat,(0<=i/\i<ds.length)/\Thk.read (ah s)=.inl m/\r=(m:Int)/\ds'=ds) \/
 (∃c:Thk.Ch,(0<=i/\i<ds.length)/\Thk.read (ah s)=.inr c/\500<=jM ds ds.length/\r=7/\ds'=ds) \/
 ∃(c:Thk.Ch)(k:Nat)(hk:k<ds.length)(r':RD),i=(k:Int)/\Thk.read (ah s)=.inr c/\jM ds ds.length<500/\qI w.heap.size ds[k] k (inc ds[k].K k) (gK ds[k].C c (dV k (ds[k].K k+1))) r' /\
  r=0/\ds'=ds.set k r'
section
variable{w:World}{ds:List dK}{i:Int}{s:ByteArray}
theorem Og.rep(h:¬(0<=i/\i<ds.length)):Og w ds i s 2 ds:=Or.inl ⟨h,rfl,rfl⟩
theorem Og.bad(m:Nat)(h:0<=i/\i<ds.length)(hr:Thk.read (ah s)=.inl m):Og w ds i s m ds:=Or.inr (Or.inl ⟨m,h,hr,rfl,rfl⟩)
theorem Og.full(c:Thk.Ch)(h:0<=i/\i<ds.length)(hr:Thk.read (ah s)=.inr c)(hl:500<=jM ds ds.length):Og w ds i s 7 ds:=Or.inr (Or.inr (Or.inl ⟨c,h,hr,hl,rfl,rfl⟩))
theorem Og.done(c:Thk.Ch)(k:Nat)(hk:k<ds.length)(r':RD)(h:i=(k:Int))(hr:Thk.read (ah s)=.inr c)(hl:jM ds ds.length<500)(hn:qI w.heap.size ds[k] k (inc ds[k].K k) (gK ds[k].C c (dV k (ds[k].K k+1))) r'):Og w ds i s 0 (ds.set k r'):=Or.inr (Or.inr (Or.inr ⟨c,k,hk,r',h,hr,hl,hn,rfl,rfl⟩))
end
theorem BZ(ds:List dK)(k:Nat)(hk:k<ds.length):∀m,k<m->m<=ds.length->ds[k].K k<=jM ds m
 | 0,h,_=>by omega
 | m+1,h,hm=>by
  rw[vS ds m (by omega)];by_cases e:k=m
  ·subst e;omega
  ·have:=BZ ds k hk m (by omega) (by omega);omega
theorem Oh(m:Nat):KW (.inl m)=.tuple #[.agg #[.string ⟨#[]⟩,.int .u8 0,.string ⟨#[]⟩,.int .i64 0],.int .i64 m]:=rfl
theorem Oi(c:Thk.Ch):KW (.inr c)=.tuple #[.agg #[.string ⟨c.path.toArray⟩,.int .u8 (c.act.toNat:Int),.string (aC c.act ⟨c.val.toArray⟩),.int .i64 c.n],.int .i64 0]:=rfl
theorem UH(w:World)(hG:Glob w)(x q cap:Nat)(fv:Value)(ds:List dK)(bs:List (Nat×ByteArray))(hC:aQ w x q cap fv 0 ds bs)(i:Int)(s:ByteArray)(hs:s.size<=1048576)(hB:∀k(hk:k<ds.length)c,Thk.read (ah s)=.inr c->jM ds ds.length<500->kR (fst (inc ds[k].K k)) (gK ds[k].C c (dV k (ds[k].K k+1)))):Calls prog 23 #[.pointer (some ⟨x,0,none⟩),.int .i64 i,.string s] w λe w'=>∃r ds',e=.returned (.int .i64 r)/\Og w ds i s r ds'/\aQ w' x q cap fv 0 ds' bs/\ay (sW x ds) w w':=by
 have HB0:Hid (∀k(hk:k<ds.length)c,Thk.read (ah s)=.inr c->jM ds ds.length<500->kR (fst (inc ds[k].K k)) (gK ds[k].C c (dV k (ds[k].K k+1)))):=hB;clear hB;have HC:Hid (aQ w x q cap fv 0 ds bs):=hC;have k0:w.cell? ⟨x,0,none⟩=some (.int .i32 0):=(hC.blk.cell 0).trans rfl;have z0:w.frozen? ⟨x,0,none⟩=false:=hC.blk.frozen 0;have fU:Hid (aQ (w.setCell ⟨x,0,none⟩ (.int .i32 1)) x q cap fv 1 ds bs):=hC.turn 1;have HG:Hid (Glob w):=hG;clear hC hG;go_enter_defers func23,ntmps23;go_wp2_with (go_at_call 43;refine(lock_free muLib ⟨x,0,none⟩ _ k0 z0).mono ?_;rintro e w'⟨rfl,rfl⟩);have h1b:Below (w.setCell ⟨x,0,none⟩ (.int .i32 1)).heap.size (w.setCell ⟨x,0,none⟩ (.int .i32 1)) ((w.setCell ⟨x,0,none⟩ (.int .i32 1)).alloc (.cells #[.int .i64 i] 3)):=(Below.refl _ _).alloc (Nat.le_refl _) _;have hgc:((w.setCell ⟨x,0,none⟩ (.int .i32 1)).alloc (.cells #[.int .i64 i] 3)).cell? ⟨w.heap.size,0,none⟩=some (.int .i64 i):=by have:=(aA.new (w.setCell ⟨x,0,none⟩ (.int .i32 1)) #[.int .i64 i] 3).cell 0;simpa using this
 have hch:ay (λk=>k=x) w ((w.setCell ⟨x,0,none⟩ (.int .i32 1)).alloc (.cells #[.int .i64 i] 3)):=(lF (M:=λk=>k=x) rfl _).below h1b;have HB:=fU.out.below h1b;refine Calls.mono (qW _ x q cap fv 1 ds bs HB w.heap.size i hgc) ?_;rintro e w1⟨rfl,hw1⟩;rw[<- hw1]at HB hch;clear hgc h1b hw1 fU k0 z0;have G1:Hid (Glob w1):=HG.out.J7 hch (λk e=>by subst e;exact HC.out.x4);have fU:Hid (aQ w1 x q cap fv 1 ds bs):=HB;have xO:Hid (ay (λk=>k=x) w w1):=hch;clear HB hch HC HG;by_cases hi:0<=i/\i<ds.length
 ·obtain⟨k,rfl⟩:=Int.eq_ofNat_of_zero_le hi.1;have hk:k<ds.length:=by omega
  have Hi:Hid (_):=hi;have hn:iF ds.length (k:Int)=0:=by unfold iF;rw[if_pos hi]
  rw[hn];clear hn hi;have HP:Hid (_):=um s w1 hs G1.out;go_wp2_with fail;refine Calls.mono HP.out ?_;rintro e w2⟨rfl,hb2⟩;have HC2:Hid (aQ w2 x q cap fv 1 ds bs):=fU.out.below hb2;have xk:Hid (ay (λk=>k=x) w w2):=xO.out.below hb2;have G2:Hid (Glob w2):=G1.out.mono hb2;clear HP fU xO G1 hb2;cases hp:Thk.read (ah s) with
  | inl m =>have Hp:Hid (_):=hp;have hm:=Thk.EK _ _ hp;clear hp G2;rw[Oh];have tC:Hid (aQ (w2.alloc (.cells #[.string ⟨#[]⟩,.int .u8 0,.string ⟨#[]⟩,.int .i64 0] 86)) x q cap fv 1 ds bs):=HC2.out.below ((Below.refl _ _).alloc (Nat.le_refl _) _);have xA:Hid (ay (λk=>k=x) w (w2.alloc (.cells #[.string ⟨#[]⟩,.int .u8 0,.string ⟨#[]⟩,.int .i64 0] 86))):=xk.out.below ((Below.refl _ _).alloc (Nat.le_refl _) _);go_wp2_with fail;refine leaves_cons (f:=44) (args:=#[.pointer (some ⟨x,0,none⟩)]) (by simp) (by simp[go_sem]) ?_;refine(unlock_deferred muLib ⟨x,0,none⟩ .returning _ ((tC.out.blk.cell 0).trans rfl) (tC.out.blk.frozen 0)).mono ?_;rintro e u' w9⟨rfl,rfl,rfl⟩;exact⟨_,results_tmp rfl _ _ _,_,_,rfl,Og.bad m Hi.out Hp.out,tC.out.turn 0,ay.setCell (M:=sW x ds) (p:=⟨x,0,none⟩) (xA.out.wide (λk e=>Or.inl e)) (Or.inl rfl) _⟩
  | inr c =>
   have Hp:Hid (_):=hp;have Hcp:Hid (c.path.length<=1048576):=Nat.le_trans (Thk.xG _ _ hp).1 (by decide);clear hp;rw[Oi];have hba:Below w2.heap.size w2 (w2.alloc (.cells #[.string ⟨c.path.toArray⟩,.int .u8 (c.act.toNat:Int),.string (aC c.act ⟨c.val.toArray⟩),.int .i64 c.n] 86)):=(Below.refl _ _).alloc (Nat.le_refl _) _;have tC:Hid (aQ (w2.alloc (.cells #[.string ⟨c.path.toArray⟩,.int .u8 (c.act.toNat:Int),.string (aC c.act ⟨c.val.toArray⟩),.int .i64 c.n] 86)) x q cap fv 1 ds bs):=HC2.out.below hba;have xA:Hid (ay (λk=>k=x) w (w2.alloc (.cells #[.string ⟨c.path.toArray⟩,.int .u8 (c.act.toNat:Int),.string (aC c.act ⟨c.val.toArray⟩),.int .i64 c.n] 86))):=xk.out.below hba;have G3:Hid (Glob (w2.alloc (.cells #[.string ⟨c.path.toArray⟩,.int .u8 (c.act.toNat:Int),.string (aC c.act ⟨c.val.toArray⟩),.int .i64 c.n] 86))):=G2.out.mono hba;have ab3:Hid (aA (w2.alloc (.cells #[.string ⟨c.path.toArray⟩,.int .u8 (c.act.toNat:Int),.string (aC c.act ⟨c.val.toArray⟩),.int .i64 c.n] 86)) w2.heap.size #[.string ⟨c.path.toArray⟩,.int .u8 (c.act.toNat:Int),.string (aC c.act ⟨c.val.toArray⟩),.int .i64 c.n] 86):=aA.new w2 _ _;have ab4:=HC2;clear hba HC2 xk G2;go_wp2_with fail;refine Calls.mono (J5 _ x q cap fv 1 ds bs tC.out) ?_;rintro e w3⟨rfl,hb3⟩;have uP:Hid (aQ w3 x q cap fv 1 ds bs):=tC.out.below hb3;have UJ:Hid (ay (λk=>k=x) w w3):=xA.out.below hb3;have G4:Hid (Glob w3):=G3.out.mono hb3;have DJ:Hid (aA w3 w2.heap.size #[.string ⟨c.path.toArray⟩,.int .u8 (c.act.toNat:Int),.string (aC c.act ⟨c.val.toArray⟩),.int .i64 c.n] 86):=ab3.out.below hb3;clear hb3 tC xA G3 ab3;by_cases h5:500<=jM ds ds.length
   ·have H5:Hid (_):=h5;go_wp2_with fail;refine leaves_cons (f:=44) (args:=#[.pointer (some ⟨x,0,none⟩)]) (by simp) (by simp[go_sem]) ?_;refine(unlock_deferred muLib ⟨x,0,none⟩ .returning _ ((uP.out.blk.cell 0).trans rfl) (uP.out.blk.frozen 0)).mono ?_;rintro e u' w9⟨rfl,rfl,rfl⟩;exact⟨_,results_tmp rfl _ _ _,_,_,rfl,Og.full c Hi.out Hp.out H5.out,uP.out.turn 0,ay.setCell (M:=sW x ds) (p:=⟨x,0,none⟩) (UJ.out.wide (λk e=>Or.inl e)) (Or.inl rfl) _⟩
   ·have H5:Hid (jM ds ds.length<500):=by unfold Hid;omega
    have KI:ds[k].K k+1<=500:=by have:=BZ ds k hk ds.length hk (Nat.le_refl _);omega
    have c2:w3.cell? ⟨x,2,none⟩=some (.slice (some ⟨q,0,none⟩) ds.length cap):=(uP.out.blk.cell 2).trans rfl;have cq:=uP.out.cell k hk;have v0:w3.cell? ⟨w2.heap.size,0,none⟩=some (.string ⟨c.path.toArray⟩):=(DJ.out.cell 0).trans rfl;have v1:w3.cell? ⟨w2.heap.size,1,none⟩=some (.int .u8 (c.act.toNat:Int)):=(DJ.out.cell 1).trans rfl;have v2:w3.cell? ⟨w2.heap.size,2,none⟩=some (.string (aC c.act ⟨c.val.toArray⟩)):=(DJ.out.cell 2).trans rfl;have v3:w3.cell? ⟨w2.heap.size,3,none⟩=some (.int .i64 c.n):=(DJ.out.cell 3).trans rfl;have ab5:¬ds[k].own w2.heap.size:=λe=>by have:=(ab4.out.rep k hk).lt e;omega
    have HA:Hid (Calls prog 49 #[.pointer (some ⟨ds[k].rb,0,none⟩),.agg #[.string ⟨c.path.toArray⟩,.int .u8 (c.act.toNat:Int),.string (aC c.act ⟨c.val.toArray⟩),.int .i64 c.n]] w3.drew λe w'=>e=.returned (.bool true)/\(∃r',aQ w' x q cap fv 1 (ds.set k r') bs/\qI w.heap.size ds[k] k (inc ds[k].K k) (gK ds[k].C c (dV k (ds[k].K k+1))) r'/\ay (sW x ds) w w') /\
      w'.cell? ⟨x,2,none⟩=some (.slice (some ⟨q,0,none⟩) ds.length cap)/\w'.cell? ⟨q,k,none⟩=some (.pointer (some ⟨ds[k].rb,0,none⟩))/\w'.cell? ⟨w2.heap.size,0,none⟩=some (.string ⟨c.path.toArray⟩)/\w'.cell? ⟨w2.heap.size,1,none⟩=some (.int .u8 (c.act.toNat:Int))/\w'.cell? ⟨w2.heap.size,2,none⟩=some (.string (aC c.act ⟨c.val.toArray⟩))/\w'.cell? ⟨w2.heap.size,3,none⟩=some (.int .i64 c.n)):=by
     have hdr:Below w3.heap.size w3 w3.drew:=(Below.refl _ w3).drew;have hcl:=uP.out.below hdr;have hra:=uP.out.ra k hk;have hacc:=JZ w3.drew (G4.out.mono hdr) ds[k] (hcl.rep k hk) hra.2.1 c (by rw[hra.1];exact KI) Hcp.out (by rw[hra.1];exact HB0.out k hk c Hp.out H5.out);rw[hra.1]at hacc;refine Calls.mono hacc ?_;rintro e w'⟨rfl,r',hM⟩;have hc:=hM.aJ;have hcx:=hcl.renew k hk hM.rep hM.d.Eh hc;have hz:w.heap.size<=w3.drew.heap.size:=Nat.le_trans UJ.out.size hdr.size;have hK5:=(DJ.out.below hdr).aJ hc ab5;obtain⟨cs,r1,r2⟩:=hcl.row;refine⟨rfl,⟨r',hcx,hM.d.mono hz,((UJ.out.below hdr).wide (λ_ e=>Or.inl e)).then (hc.wide (λ_ e=>Or.inr ⟨k,hk,e⟩))⟩,((hcl.blk.aJ hc (hcl.xr k hk)).cell 2).trans rfl,((r1.aJ hc (hcl.qr k hk)).cell k).trans (r2 k hk),(hK5.cell 0).trans rfl,(hK5.cell 1).trans rfl,(hK5.cell 2).trans rfl,(hK5.cell 3).trans rfl⟩
    clear uP UJ G4 DJ ab5 ab4;go_wp2_with fail;go_region_held3 (λw'=>w'.cell? ⟨x,2,none⟩=some (.slice (some ⟨q,0,none⟩) ds.length cap)/\w'.cell? ⟨q,k,none⟩=some (.pointer (some ⟨ds[k].rb,0,none⟩))/\w'.cell? ⟨w2.heap.size,0,none⟩=some (.string ⟨c.path.toArray⟩)/\w'.cell? ⟨w2.heap.size,1,none⟩=some (.int .u8 (c.act.toNat:Int))/\w'.cell? ⟨w2.heap.size,2,none⟩=some (.string (aC c.act ⟨c.val.toArray⟩))/\w'.cell? ⟨w2.heap.size,3,none⟩=some (.int .i64 c.n)) ((refine⟨?_, ?_, ?_, ?_, ?_, ?_⟩<;>assumption)) (first|(go_at_call 49;refine Calls.mono HA.out ?_;rintro e w4⟨rfl,hE,d0,d1,d2,d3,d4,d5⟩));obtain⟨r',hcx,hnw,hch⟩:=hE;have HX:Hid (_):=hcx;have HN:Hid (_):=hnw;have HH:Hid (_):=hch;clear hcx hnw hch HA c2 cq v0 v1 v2 v3 d0 d1 d2 d3 d4 d5;go_wp2_with fail;refine leaves_cons (f:=44) (args:=#[.pointer (some ⟨x,0,none⟩)]) (by simp) (by simp[go_sem]) ?_;refine(unlock_deferred muLib ⟨x,0,none⟩ .returning _ ((HX.out.blk.cell 0).trans rfl) (HX.out.blk.frozen 0)).mono ?_;rintro e u' w9⟨rfl,rfl,rfl⟩;exact⟨_,results_tmp rfl _ _ _,_,_,rfl,Og.done c k hk r' rfl Hp.out H5.out HN.out,HX.out.turn 0,ay.setCell (M:=sW x ds) (p:=⟨x,0,none⟩) HH.out (Or.inl rfl) _⟩
 ·have hn:iF ds.length i=2:=by unfold iF;rw[if_neg hi]
  have Hi:Hid (_):=hi;rw[hn];clear hn hi;go_wp2_with fail;refine leaves_cons (f:=44) (args:=#[.pointer (some ⟨x,0,none⟩)]) (by simp) (by simp[go_sem]) ?_;refine(unlock_deferred muLib ⟨x,0,none⟩ .returning _ ((fU.out.blk.cell 0).trans rfl) (fU.out.blk.frozen 0)).mono ?_;rintro e u' w9⟨rfl,rfl,rfl⟩;exact⟨_,results_tmp rfl _ _ _,_,_,rfl,Og.rep Hi.out,fU.out.turn 0,ay.setCell (M:=sW x ds) (p:=⟨x,0,none⟩) (xO.out.wide (λk e=>Or.inl e)) (Or.inl rfl) _⟩
end Go.Proofs.YtfmmllpjgkgeaaaGreatDoor
namespace Go.Proofs.YtfmmllpjgkgeaaaGreatDoor
open Go.Proofs.Tryz Go.RowKit Go.Maps Go.WideMaps Go.Deep
variable{ds:List RD}{n room:Nat}{rv:Value}{w w0:World}
def ptrs(bs:List Nat):List Value:=bs.map λb=>.pointer (some ⟨b,0,none⟩)
def others(i n:Nat):List Nat:=(List.range n).filter λj=>decide (j≠i)
theorem zJ{i j:Nat}:j∈others i n↔j<n/\j≠i:=by unfold others;rw[List.mem_filter,List.mem_range];simp
theorem GU(i n:Nat):others i (n+1)=if n=i then others i n else others i n++[n]:=by
 unfold others;rw[List.range_succ,List.filter_append];by_cases e:n=i
 ·subst e;simp
 ·simp[e]
theorem zK(i n:Nat):(others i n).length<=n:=by unfold others;exact Nat.le_trans (List.length_filter_le _ _) (by simp)
def Cb(rb kb db ab j room n:Nat):RD:=⟨rb,j,none,none,none,kb,db,room,.slice none 0 0,0,ab,others j n,λ_=>0,[],λ_=>0,λ_=>none,0,false,0⟩
theorem Oj{rb kb db ab j k:Nat}(h:(Cb rb kb db ab j room n).own k):k=rb\/k=kb\/k=db\/k=ab:=by
 rcases h with h|h|h|h
 ·exact Or.inl h
 ·rcases h with h|h|h<;>cases h
 ·rcases h with h|h|h|⟨p,hp,_⟩
  ·exact Or.inr (Or.inl h)
  ·cases h
  ·exact Or.inr (Or.inr (Or.inr h))
  ·exact absurd hp (by show p ∉ ([]:List jA);simp)
 ·exact Or.inr (Or.inr (Or.inl h))
structure zL(w0:World)(w:World)(rv:Value)(n room:Nat)(ds:List RD):Prop where
 blk:aA w w0.heap.size #[.int .i32 0,.int .u32 0,rv,.slice none 0 0] 79
 row:w.ownsRow w0.heap.size 81 1 rv ds.length (ptrs (ds.map RD.rb))
 rep:∀j(h:j<ds.length),dQ w ds[j]/\(∃rb kb db ab,ds[j]=Cb rb kb db ab j room n)/\∀k,ds[j].own k->w0.heap.size<=k
 apart:∀i j(hi:i<ds.length)(hj:j<ds.length),i≠j->∀k,ds[i].own k->¬ds[j].own k
 bel:Below w0.heap.size w0 w
theorem zL.ne(h:zL w0 w rv n room ds){b:Nat}{cs:Array Value}{t:TypeId}(hb:aA w b cs t)(ht:t≠81):rv.ownBlock≠some b:=row_ne hb h.row ht
theorem zL.more{w5 w6:World}(h:zL w0 w rv n room ds)(hb5:Below w.heap.size w w5){r:RD}(hr:dQ w5 r)(XW:∃rb kb db ab,r=Cb rb kb db ab ds.length room n)(hro:∀k,r.own k->w.heap.size<=k){g c:Nat}(ho:w6.ownsRow w0.heap.size 81 1 (.slice (some ⟨g,0,none⟩) (ds.length+1) c) (ds.length+1) (ptrs (ds.map RD.rb)++[.pointer (some ⟨r.rb,0,none⟩)]))(hg:(w5.alloc (.cells #[.pointer (some ⟨r.rb,0,none⟩)] 81)).grownBy w6 rv.ownBlock):zL w0 (w6.setCell ⟨w0.heap.size,2,none⟩ (.slice (some ⟨g,0,none⟩) (ds.length+1) c)) (.slice (some ⟨g,0,none⟩) (ds.length+1) c) n room (ds++[r]):=by
 have ai3:Below w.heap.size w (w5.alloc (.cells #[.pointer (some ⟨r.rb,0,none⟩)] 81)):=hb5.alloc hb5.size _;have hcg:ay (λk=>rv.ownBlock=some k) (w5.alloc (.cells #[.pointer (some ⟨r.rb,0,none⟩)] 81)) w6:=(ay.refl _ _).grown hg (λk e=>Or.inl e);have h56:ay (λk=>rv.ownBlock=some k) w5 w6:=(ay.of_below ((Below.refl _ w5).alloc (Nat.le_refl _) _)).trans hcg;have hw6:ay (λk=>rv.ownBlock=some k) w w6:=(ay.of_below hb5).trans h56;have hB:aA w6 w0.heap.size #[.int .i32 0,.int .u32 0,rv,.slice none 0 0] 79:=h.blk.aJ hw6 (h.ne h.blk (by decide));have hcs:ay (λk=>k=w0.heap.size) w6 (w6.setCell ⟨w0.heap.size,2,none⟩ (.slice (some ⟨g,0,none⟩) (ds.length+1) c)):=(ay.refl (λk=>k=w0.heap.size) w6).setCell (p:=⟨w0.heap.size,2,none⟩) rfl _;have hrl:∀b,rv.ownBlock=some b->b<w.heap.size:=λb e=>(h.row.lt b e).2;have hpr:∃cur,rv.ownBlock=none\/∃g,rv.ownBlock=some g/\aA w g cur 81:=by
  obtain⟨_,⟨h1,_⟩|⟨g',cap',cur,h1,h2,h3,_⟩⟩:=h.row
  ·exact⟨#[],Or.inl (by rw[h1];rfl)⟩
  ·exact⟨cur,Or.inr ⟨g',by rw[h1];rfl,h3⟩⟩
 have hold:∀j(hj:j<ds.length)k,ds[j].own k->¬rv.ownBlock=some k:=λj hj k hk e=>by
  obtain⟨cur,h1|⟨g',h1,h2⟩⟩:=hpr
  ·rw[h1]at e;cases e
  ·rw[h1]at e;cases e
   exact(h.rep j hj).1.kT h2 (by decide) (by decide) (by decide) (by decide) hk
 have hx:∀j(hj:j<ds.length)k,ds[j].own k->k≠w0.heap.size:=λj hj k hk e=>(h.rep j hj).1.kT h.blk (by decide) (by decide) (by decide) (by decide) (e▸hk);have hrx:∀k,r.own k->k≠w0.heap.size:=λk hk e=>hr.kT (h.blk.below hb5) (by decide) (by decide) (by decide) (by decide) (e▸hk);have hgx:g≠w0.heap.size:=λe=>by subst e;exact row_ne hB ho (by decide) rfl
 have hget:∀j(hj:j<(ds++[r]).length),(∃hj':j<ds.length,(ds++[r])[j]=ds[j])\/(j=ds.length/\(ds++[r])[j]=r):=λj hj=>by
  by_cases hlt:j<ds.length
  ·exact Or.inl ⟨hlt,List.getElem_append_left hlt⟩
  ·have e:j=ds.length:=by simp at hj;omega
   subst e;exact Or.inr ⟨rfl,by simp⟩
 refine⟨?_, ?_,λj hj=>?_,λi j hi hj hij k hk hk2=>?_, ?_⟩
 ·unfold aA at hB⊢;simp[World.setCell,Array.getElem?_modify,hB]
 ·have e:ptrs ((ds++[r]).map RD.rb)=ptrs (ds.map RD.rb)++[.pointer (some ⟨r.rb,0,none⟩)]:=by simp[ptrs]
  rw[e,List.length_append];exact qU ho hcs (λk hk e=>by cases hk;exact hgx e)
 ·rcases hget j hj with⟨hj',e⟩|⟨e1,e⟩
  ·rw[e];obtain⟨r1,r2,r3⟩:=h.rep j hj';exact⟨(r1.aJ hw6 (hold j hj')).aJ hcs (hx j hj'),r2,r3⟩
  ·rw[e];subst e1;refine⟨(hr.aJ h56 (λk hk e2=>?_)).aJ hcs hrx,XW,λk hk=>Nat.le_trans h.bel.size (hro k hk)⟩;have:=hro k hk;have:=hrl k e2;omega
 ·rcases hget i hi with⟨hi',e⟩|⟨e1,e⟩
  ·rw[e]at hk;rcases hget j hj with⟨hj',e'⟩|⟨e1',e'⟩
   ·rw[e']at hk2;exact h.apart i j hi' hj' hij k hk hk2
   ·rw[e']at hk2;have:=hro k hk2;have:=(h.rep i hi').1.lt hk;omega
  ·rw[e]at hk;rcases hget j hj with⟨hj',e'⟩|⟨e1',e'⟩
   ·rw[e']at hk2;have:=hro k hk;have:=(h.rep j hj').1.lt hk2;omega
   ·omega
 ·have h1:Below w0.heap.size w0 (w5.alloc (.cells #[.pointer (some ⟨r.rb,0,none⟩)] 81)):=h.bel.trans (ai3.mono h.bel.size);have h2:Below w0.heap.size w0 w6:=h1.grown hg h1.size (λk hk=>(h.row.lt k hk).1);exact h2.setCell (p:=⟨w0.heap.size,2,none⟩) (Nat.le_refl _) _
theorem zL.done(h:zL w0 w rv n room ds)(h4:4<=w0.heap.size)(h1:1<=ds.length)(h6:ds.length<=6)(hn:ds.length=n):∃q cap,rv=.slice (some ⟨q,0,none⟩) ds.length cap/\w0.heap.size<=q/\aQ w w0.heap.size q cap (.slice none 0 0) 0 ds []:=by
 obtain⟨hx,⟨e1,e2⟩|⟨q,cap,cur,rfl,hq,hh,hcap,_,hsz,htk⟩⟩:=h.row
 ·omega
 ·refine⟨q,cap,rfl,hq,h.blk,⟨cur,hh,λj hj=>?_⟩,World.ownsRow_nil _ _ _ _,λj hj=>(h.rep j hj).1,λj hj=>?_,h.apart,λj hj=>?_,λj hj=>?_,h6,hcap,h4,by simp⟩
  ·have e:cur.toList[j]?=(ptrs (ds.map RD.rb))[j]?:=by rw[<- htk,List.getElem?_take,if_pos (by omega)]
   rw[<- Array.getElem?_toList,e];simp[ptrs,hj]
  ·obtain⟨rb,kb,db,ab,e⟩:=(h.rep j hj).2.1;rw[e,hn];exact⟨rfl,rfl,λi=>zJ⟩
  ·exact(h.rep j hj).1.kT h.blk (by decide) (by decide) (by decide) (by decide)
  ·exact(h.rep j hj).1.kT (cs:=cur) hh (by decide) (by decide) (by decide) (by decide)
