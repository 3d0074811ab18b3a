import Derived.WalkSmall
import Derived.Lib.LaidTab
import Derived.Lib.ItoaNum
import Derived.Lib.ItoaLen
import Derived.Lib.ParseIntB
import Derived.Test.YtfmmllpjgkgeaaaGreatDoorPart01
set_option linter.unusedVariables false
set_option linter.unusedSimpArgs false
set_option maxHeartbeats 16000000
set_option maxRecDepth 100000
namespace Go.Proofs.YtfmmllpjgkgeaaaGreatDoor
open Go.RowKit

structure TSt where
 l:List Thk.Bs
 sum:Int
 some:Bool
def tstep (k:UInt8) (path:Thk.Bs) (st:TSt) (e:Ev):TSt :=
 if ((k.toNat:Int) == 109) && Thk.begins (toL e.p) path && !(toL e.p == path) then ⟨withL st.l ((Thk.split 47 ((toL e.p).drop (path.length+1))).headD []),st.sum,st.some⟩
 else if toL e.p == path then ⟨withL st.l (toL e.v),st.sum+e.n,true⟩ else st
def tellB (k:UInt8) (st:TSt):Thk.Bs :=
 if (k.toNat:Int)=102 then (if st.some then [49] else [48]) else if (k.toNat:Int)=99 then Thk.digits st.sum else Thk.joinTo st.l st.l.length
def tellR (es:List Ev) (al:List Nat) (path:Thk.Bs):Thk.Bs :=
 tellB (Thk.kindOf path) (al.foldl (fun st j=>match es[j]? with | some e=>tstep (Thk.kindOf path) path st e | none=>st) ⟨[],0,false⟩)

structure EvOk (e:Ev):Prop where
 p:e.p.size<=20
 v:e.v.size<=20
 n1:e.n<=1000000000
 n2:-1000000000<=e.n
 s:e.saw.length<=1000


structure Chg (M:Nat->Prop) (w w':World):Prop where
 os:w'.os=w.os
 tape:w'.tape=w.tape
 output:w'.output=w.output
 size:w.heap.size<=w'.heap.size
 block:∀ k,k<w.heap.size->¬M k->w'.heap[k]? = w.heap[k]?

theorem Chg.refl (M:Nat->Prop) (w:World):Chg M w w:=⟨rfl,rfl,rfl,Nat.le_refl _,fun _ _ _=>rfl⟩
theorem Chg.trans {M:Nat->Prop} {a b c:World} (h:Chg M a b) (k:Chg M b c):Chg M a c :=
 ⟨k.os.trans h.os,k.tape.trans h.tape,k.output.trans h.output,Nat.le_trans h.size k.size,fun i hi hm=>(k.block i (Nat.lt_of_lt_of_le hi h.size) hm).trans (h.block i hi hm)⟩
theorem Chg.mono {M N:Nat->Prop} {a b:World} (h:Chg M a b) (hN:∀ k,k<a.heap.size->M k->N k):Chg N a b:=⟨h.os,h.tape,h.output,h.size,fun k hk hn=>h.block k hk fun hm=>hn (hN k hk hm)⟩
theorem Chg.of_below {M:Nat->Prop} {a b:World} (h:Below a.heap.size a b):Chg M a b:=⟨h.os,h.tape,h.output,h.size,fun k hk _=>h.block k hk⟩
theorem Chg.setCell {M:Nat->Prop} {a w:World} (h:Chg M a w) {p:Addr} (hp:M p.block) (u:Value):Chg M a (w.setCell p u) :=
 ⟨h.os,h.tape,h.output,by simpa[World.setCell] using h.size,fun k hk hm=>(Below.heap_setCell w p u k (fun e=>hm (by rw[e];exact hp))).trans (h.block k hk hm)⟩
theorem Chg.below {M:Nat->Prop} {a b c:World} (h:Chg M a b) (hb:Below b.heap.size b c):Chg M a c:=h.trans (Chg.of_below hb)
theorem Chg.grown {M:Nat->Prop} {a b c:World} {row:Option Nat} (h:Chg M a b) (hg:b.grownBy c row) (hr:∀ k,row=some k->M k\/a.heap.size<=k):Chg M a c :=
 ⟨hg.os.trans h.os,hg.tape.trans h.tape,hg.output.trans h.output,Nat.le_trans h.size hg.size,fun k hk hm=>(hg.block k (Nat.lt_of_lt_of_le hk h.size) (fun e=>by rcases hr k e.symm with h1 | h1;exact hm h1;omega)).trans (h.block k hk hm)⟩

def Tagged (w:World) (b:Nat) (t:TypeId):Prop:=∃ cur,w.heap[b]? = some (.cells cur t (0,0))
theorem Tagged.lt {w:World} {b:Nat} {t:TypeId} (h:Tagged w b t):b<w.heap.size:=by
 obtain ⟨cur,h⟩:=h
 rcases Nat.lt_or_ge b w.heap.size with h1 | h1
 ·exact h1
 ·rw[Array.getElem?_eq_none h1] at h;cases h
theorem Tagged.ne {w:World} {b c:Nat} {s t:TypeId} (h:Tagged w b s) (k:Tagged w c t) (hst:s≠t):b≠c:=by
 rintro rfl
 obtain ⟨x,h⟩:=h;obtain ⟨y,k⟩:=k
 rw[h] at k;cases k;exact hst rfl
theorem Tagged.chg {M:Nat->Prop} {w w':World} {b:Nat} {t:TypeId} (h:Tagged w b t) (hc:Chg M w w') (hm:¬M b):Tagged w' b t:=by
 obtain ⟨x,hx⟩:=h;exact ⟨x,(hc.block b (Tagged.lt ⟨x,hx⟩) hm).trans hx⟩
theorem Tagged.frozen {w:World} {b:Nat} {t:TypeId} (h:Tagged w b t) (j:Nat):w.frozen? ⟨b,j,none⟩=false:=by
 obtain ⟨x,hx⟩:=h;simp[World.frozen?,hx]
theorem Tagged.setCell {w:World} {b:Nat} {t:TypeId} (h:Tagged w b t) (p:Addr) (u:Value):Tagged (w.setCell p u) b t:=by
 obtain ⟨x,hx⟩:=h
 by_cases e:b=p.block
 ·subst e;simp only[Tagged,World.setCell,Array.getElem?_modify,hx];simp
 ·exact ⟨x,by rw[Below.heap_setCell _ _ _ _ e];exact hx⟩
theorem cs_same {w:World} {b o:Nat} {v u:Value} (h:w.cell? ⟨b,o,none⟩=some u):(w.setCell ⟨b,o,none⟩ v).cell? ⟨b,o,none⟩=some v:=by
 apply World.cell?_setCell_same';rw[h];(first | done | rfl)
theorem cs_oth {w:World} {b o b' o':Nat} {v:Value} (h:b≠b'\/o≠o'):(w.setCell ⟨b,o,none⟩ v).cell? ⟨b',o',none⟩=w.cell? ⟨b',o',none⟩:=by
 apply World.cell?_setCell_other;intro e;cases e;rcases h with h | h <;> exact h rfl
theorem ownsRow_chg {M:Nat->Prop} {w w':World} {B:Nat} {e:TypeId} {v:Value} {n size:Nat} {xs:List Value} (h:w.ownsRow B e size v n xs) (hc:Chg M w w') (hm:∀ g,v.ownBlock=some g->¬M g):w'.ownsRow B e size v n xs:=by
 have h0:=h
 obtain ⟨hx,h1 | ⟨g,cap,cur,rfl,hg,hh,r⟩⟩:=h
 ·exact ⟨hx,Or.inl h1⟩
 ·exact ⟨hx,Or.inr ⟨g,cap,cur,rfl,hg,(hc.block g (h0.lt g rfl).2 (hm g rfl)).trans hh,r⟩⟩

end Go.Proofs.YtfmmllpjgkgeaaaGreatDoor
namespace Go.Proofs.YtfmmllpjgkgeaaaGreatDoor

structure FrD where
 src:Nat
 dst:Nat
 ack:Nat
 known:List Bool
 bytes:ByteArray
def bothL (a b:List Bool):List Bool:=(List.range (max a.length b.length)).map fun k=>a.getD k false || b.getD k false
theorem getD_len {known:List Bool} {j:Nat} (hj:known.length<=j):known.getD j false=false:=by rw[List.getD_eq_getElem?_getD,List.getElem?_eq_none hj];(first | done | rfl)
theorem bothL_getD (a b:List Bool) (i:Nat):(bothL a b).getD i false=(a.getD i false || b.getD i false):=by
 unfold bothL
 by_cases h:i<max a.length b.length
 ·rw[List.getD_eq_getElem?_getD,List.getElem?_map,List.getElem?_range h]
  rfl
 ·rw[getD_len (by simp;omega),getD_len (known:=a) (by omega),getD_len (known:=b) (by omega)];(first | done | rfl)
theorem bothL_len (a b:List Bool):(bothL a b).length=max a.length b.length:=by unfold bothL;simp
end Go.Proofs.YtfmmllpjgkgeaaaGreatDoor

namespace Go.Proofs.YtfmmllpjgkgeaaaGreatDoor.Thk

def fits (k a:UInt8):Bool :=
 if k.toNat=115 then a.toNat == 43 || a.toNat == 45 || a.toNat == 33
 else if k.toNat=102 then a.toNat == 94 || a.toNat == 95 || a.toNat == 33
 else if k.toNat=114 then a.toNat == 61 || a.toNat == 33
 else if k.toNat=99 then a.toNat == 62 || a.toNat == 33
 else a.toNat == 33

structure Ch where
 path:Bs
 act:UInt8
 val:Bs
 n:Int

def operand (p:Bs) (a:UInt8) (v:Bs):Nat ⊕ Ch :=
 if a.toNat=43\/a.toNat=45\/a.toNat=61 then (if val v then .inr ⟨p,a,v,0⟩ else .inl 5)
 else if a.toNat=62 then (match num v with | some n=>.inr ⟨p,a,v,n⟩ | none=>.inl 5)
 else if v=[] then .inr ⟨p,a,v,0⟩ else .inl 5
def readAt (l:Bs) (k:Nat):Nat ⊕ Ch :=
 if path (l.take k)=false then .inl 4
 else if fits (kindOf (l.take k)) (l.getD k 0)=false then .inl 6
 else operand (l.take k) (l.getD k 0) (l.drop (k+1))
def read (l:Bs):Nat ⊕ Ch:=if l.findIdx isAct=l.length then .inl 4 else readAt l (l.findIdx isAct)

end Go.Proofs.YtfmmllpjgkgeaaaGreatDoor.Thk

namespace Go.Proofs.YtfmmllpjgkgeaaaGreatDoor.Thk

theorem splitAcc_len (c:UInt8):∀ (l cur:Bs),((splitAcc c cur l).map List.length).sum+(splitAcc c cur l).length=cur.length+l.length+1:=by
 intro l
 induction l with
 | nil=>intro cur;simp[splitAcc]
 | cons x r ih =>
  intro cur
  unfold splitAcc
  split
  ·have:=ih []
   simp at this ⊢;omega
  ·have:=ih (cur ++ [x])
   simp at this ⊢;omega
theorem sum_le (l:List Nat) (b:Nat) (h:∀ x∈l,x<=b):l.sum<=b*l.length:=by
 induction l with
 | nil=>simp
 | cons a r ih =>
  have h1:=h a (by simp)
  have h2:=ih (fun x hx=>h x (by simp[hx]))
  simp only[List.sum_cons,List.length_cons,Nat.mul_succ];omega
theorem path_len (l:Bs) (h:path l=true):l.length<=17:=by
 unfold path pathL at h
 simp only[Bool.and_eq_true,decide_eq_true_eq] at h
 have h3:=h.1.1
 have h5:∀ x∈(split 47 l).map List.length,x<=5:=by
  intro x hx
  obtain ⟨y,hy,rfl⟩:=List.mem_map.1 hx
  have:=List.all_eq_true.1 h.1.2 y hy
  unfold seg at this;simp at this;omega
 have hs:=sum_le _ 5 h5
 have hl:=splitAcc_len 47 l []
 rw[List.length_map] at hs
 unfold split at *
 simp at hl;omega
theorem numAbs_ok (neg:Bool) (l:Bs) (n:Int) (h:numAbs neg l=some n):l.length<=10/\n<=1000000000/\-1000000000<=n:=by
 unfold numAbs at h
 by_cases hb:numBad neg l
 ·rw[if_pos hb] at h;cases h
 ·rw[if_neg hb] at h
  unfold numBad at hb
  simp only[Bool.or_eq_true,not_or,decide_eq_true_eq] at hb
  by_cases hc:(l.all isDig && decide (numv l<=1000000000))=true
  ·rw[if_pos hc] at h
   simp only[Bool.and_eq_true,decide_eq_true_eq] at hc
   cases h
   refine ⟨by omega, ?_, ?_⟩ <;> (cases neg <;> simp <;> omega)
  ·rw[if_neg hc] at h;cases h
theorem num_ok (l:Bs) (n:Int) (h:num l=some n):l.length<=11/\n<=1000000000/\-1000000000<=n:=by
 unfold num at h
 by_cases hc:l.head? = some 45
 ·rw[if_pos hc] at h
  have:=numAbs_ok _ _ _ h
  simp at this;omega
 ·rw[if_neg hc] at h
  have:=numAbs_ok _ _ _ h
  omega
theorem read_ok (l:Bs) (c:Ch) (h:read l=.inr c):c.path.length<=17/\c.val.length<=11/\c.n<=1000000000/\-1000000000<=c.n/\path c.path=true:=by
 unfold read at h
 by_cases h1:l.findIdx isAct=l.length
 ·rw[if_pos h1] at h;cases h
 ·rw[if_neg h1] at h
  unfold readAt at h
  by_cases h2:path (l.take (l.findIdx isAct))=false
  ·rw[if_pos h2] at h;cases h
  ·rw[if_neg h2] at h
   have h2':path (l.take (l.findIdx isAct))=true:=by simpa using h2
   by_cases h3:fits (kindOf (l.take (l.findIdx isAct))) (l.getD (l.findIdx isAct) 0)=false
   ·rw[if_pos h3] at h;cases h
   ·rw[if_neg h3] at h
    have hp:=path_len _ h2'
    generalize l.take (l.findIdx isAct)=p at *
    generalize l.drop (l.findIdx isAct+1)=v at *
    generalize l.getD (l.findIdx isAct) 0=a at *
    unfold operand at h
    split at h
    ·split at h
     ·rename_i hv
      cases h
      unfold val at hv;simp at hv
      exact ⟨hp,by simp;omega,by simp,by simp,h2'⟩
     ·cases h
    ·split at h
     ·split at h
      ·rename_i n hn
       cases h
       have:=num_ok _ _ hn
       exact ⟨hp,by simp;omega,by simp;omega,by simp;omega,h2'⟩
      ·cases h
     ·split at h
      ·rename_i hv
       cases h
       exact ⟨hp,by simp[hv],by simp,by simp,h2'⟩
      ·cases h

theorem read_err (l:Bs) (m:Nat) (h:read l=.inl m):0<m/\m<=6:=by
 unfold read readAt operand at h
 repeat' split at h
 all_goals first | (cases h;omega) | (cases h;done)

end Go.Proofs.YtfmmllpjgkgeaaaGreatDoor.Thk

namespace Go.Proofs.YtfmmllpjgkgeaaaGreatDoor
open Go.RowKit
theorem wrap_in (n:Int) (h0:-9223372036854775808<=n) (h1:n<=9223372036854775807):IntKind.i64.wrap n=n:=by
 unfold IntKind.wrap
 simp[IntKind.bits,IntKind.signed]
 omega

def Blk (w:World) (b:Nat) (cs:Array Value) (t:TypeId):Prop:=w.heap[b]? = some (.cells cs t (0,0))
theorem Blk.cell {w:World} {b:Nat} {cs:Array Value} {t:TypeId} (h:Blk w b cs t) (j:Nat):w.cell? ⟨b,j,none⟩=cs[j]?:=by simp[World.cell?,show w.heap[b]? = _ from h]
theorem Blk.frozen {w:World} {b:Nat} {cs:Array Value} {t:TypeId} (h:Blk w b cs t) (j:Nat):w.frozen? ⟨b,j,none⟩=false:=by simp[World.frozen?,show w.heap[b]? = _ from h]
theorem Blk.lt {w:World} {b:Nat} {cs:Array Value} {t:TypeId} (h:Blk w b cs t):b<w.heap.size:=(Array.getElem?_eq_some_iff.1 h).1
theorem Blk.chg {M:Nat->Prop} {w w':World} {b:Nat} {cs:Array Value} {t:TypeId} (h:Blk w b cs t) (hc:Chg M w w') (hm:¬M b):Blk w' b cs t:=(hc.block b h.lt hm).trans h
theorem Blk.below {w w':World} {b:Nat} {cs:Array Value} {t:TypeId} (h:Blk w b cs t) (hb:Below w.heap.size w w'):Blk w' b cs t:=(hb.block b h.lt).trans h
theorem Blk.alloc {w:World} {b:Nat} {cs:Array Value} {t:TypeId} (h:Blk w b cs t) (o:Obj):Blk (w.alloc o) b cs t:=h.below ((Below.refl _ w).alloc (Nat.le_refl _) o)
theorem Blk.grown {w w':World} {k b:Nat} {cs:Array Value} {t:TypeId} (h:Blk w b cs t) (hg:w.grownBy w' (some k)) (hm:b≠k):Blk w' b cs t:=(hg.block b h.lt (fun e=>hm (by cases e;rfl))).trans h
theorem Blk.new (w:World) (cs:Array Value) (t:TypeId):Blk (w.alloc (.cells cs t)) w.heap.size cs t:=heap_alloc_new w _

structure Glob (w:World):Prop where
 len:∃ m,w.cell? ⟨0,0,none⟩=some (.int .i64 m)
 syn:∃ ev,w.cell? ⟨1,0,none⟩=some ev/\(ev=.nilIface\/∃ te pe,ev=.iface te pe)
 rng:∃ ev,w.cell? ⟨2,0,none⟩=some ev/\(ev=.nilIface\/∃ te pe,ev=.iface te pe)
 tab:Lib.TabIs Tryz.prog w "internal/strconv.uint64pow10" .u64 Lib.pow10Tab
 size:3<w.heap.size

theorem Glob.mono {w w':World} (h:Glob w) (hb:Below w.heap.size w w'):Glob w':=by
 obtain ⟨⟨m,h1⟩,⟨e1,h2,h2'⟩,⟨e2,h3,h3'⟩,h4,h5⟩:=h
 refine ⟨⟨m,(hb.cell (p:=⟨0,0,none⟩) (block_lt_of_cell h1)).trans h1⟩,⟨e1,(hb.cell (p:=⟨1,0,none⟩) (block_lt_of_cell h2)).trans h2,h2'⟩,⟨e2,(hb.cell (p:=⟨2,0,none⟩) (block_lt_of_cell h3)).trans h3,h3'⟩, ?_,Nat.lt_of_lt_of_le h5 hb.size⟩
 exact var?_below (g:=3) hb (by kernel_rfl) h5 h4

def askR (es:List Ev) (knowns:List (List Bool)) (i:Int) (path:Thk.Bs):Thk.Bs × Int :=
 if 0<=i/\i<knowns.length then (if Thk.path path then (tellR es (aliveTo es (knowns.getD i.toNat []) es.length) path,0) else ([],4)) else ([],2)

def moreOf (known:List Bool) (n:Nat):List Bool:=known ++ List.replicate (n-known.length) false ++ [true]
theorem moreOf_length (known:List Bool) (n:Nat) (h:known.length<=n):(moreOf known n).length=n+1:=by unfold moreOf;simp;omega

def DoOut (es:List Ev) (knowns:List (List Bool)) (i:Int) (s:Thk.Bs) (r:Int) (es':List Ev) (kn':List (List Bool)):Prop :=
 (¬(0<=i/\i<knowns.length)/\r=2/\es'=es/\kn'=knowns) \/
 (∃ k:Nat,(0<=i/\i<knowns.length)/\Thk.read s=.inl k/\r=(k:Int)/\es'=es/\kn'=knowns) \/
 (∃ c:Thk.Ch,(0<=i/\i<knowns.length)/\Thk.read s=.inr c/\500<=es.length/\r=7/\es'=es/\kn'=knowns) \/
 ∃ (c:Thk.Ch) (e:Ev),(0<=i/\i<knowns.length)/\Thk.read s=.inr c/\es.length<500/\toL e.p=c.path/\e.a=c.act/\toL e.v=c.val/\e.n=c.n/\e.saw=knowns.getD i.toNat [] /\
  r=0/\es'=es ++ [e]/\kn'=knowns.set i.toNat (moreOf (knowns.getD i.toNat []) es.length)
section
variable {es:List Ev} {knowns:List (List Bool)} {i:Int} {s:Thk.Bs}
theorem DoOut.done (c:Thk.Ch) (e:Ev) (h:0<=i/\i<knowns.length) (hr:Thk.read s=.inr c) (hl:es.length<500) (h1:toL e.p=c.path) (h2:e.a=c.act) (h3:toL e.v=c.val) (h4:e.n=c.n) (h5:e.saw=knowns.getD i.toNat []) :
  DoOut es knowns i s 0 (es ++ [e]) (knowns.set i.toNat (moreOf (knowns.getD i.toNat []) es.length)):=Or.inr (Or.inr (Or.inr ⟨c,e,h,hr,hl,h1,h2,h3,h4,h5,rfl,rfl,rfl⟩))
end
theorem getD_app {l:List Bool} {r:List Bool} (i:Nat) (h:i<l.length):(l ++ r).getD i false=l.getD i false:=by
 rw[List.getD_eq_getElem?_getD,List.getD_eq_getElem?_getD,List.getElem?_append_left h]
theorem moreOf_getD (known:List Bool) (n:Nat) (h:known.length<=n) (i:Nat):(moreOf known n).getD i false=(known.getD i false || decide (i=n)):=by
 unfold moreOf
 have hz:∀ j,known.length<=j->known.getD j false=false:=fun j hj=>by rw[List.getD_eq_getElem?_getD,List.getElem?_eq_none hj];(first | done | rfl)
 by_cases h1:i<known.length
 ·rw[List.append_assoc,getD_app i h1]
  have:¬i=n:=by omega
  simp[this]
 ·rw[hz i (by omega)]
  by_cases h2:i<n
  ·rw[getD_app i (by simp;omega),List.getD_eq_getElem?_getD,List.getElem?_append_right (by omega),List.getElem?_replicate,if_pos (by omega)]
   have:¬i=n:=by omega
   simp[this]
  ·by_cases h3:i=n
   ·subst h3
    rw[List.getD_eq_getElem?_getD,List.getElem?_append_right (by simp;omega)]
    have:i-(known ++ List.replicate (i-known.length) false).length=0:=by simp;omega
    rw[this];simp
   ·rw[List.getD_eq_getElem?_getD,List.getElem?_eq_none (by simp;omega)]
    simp[h3]
theorem cnt_more (known:List Bool) (n:Nat):cnt (moreOf known n)=cnt known+1:=by
 unfold cnt moreOf
 rw[List.filter_append,List.filter_append,List.length_append,List.length_append]
 have:(List.replicate (n-known.length) false).filter id=[]:=by rw[List.filter_eq_nil_iff];intro a ha;simp[List.eq_of_mem_replicate ha]
 rw[this];(first | done | rfl)

theorem cnt_range:∀ (l:List Bool) (N:Nat),l.length<=N->((List.range N).filter (fun k=>l.getD k false)).length=cnt l
 | [],N,_=>by simp[cnt]
 | b :: l,0,h=>by simp at h
 | b :: l,N+1,h=>by
  have ih:=cnt_range l N (by simpa using h)
  rw[List.range_succ_eq_map,List.filter_cons,List.filter_map]
  have e:((fun k=>(b :: l).getD k false) ∘ Nat.succ)=fun k=>l.getD k false:=by funext k;simp
  rw[e]
  unfold cnt at ih ⊢
  cases b <;> simpa using ih

def knowsR (kn:List (List Bool)) (i:Int):Int × Int:=if 0<=i/\i<kn.length then ((cnt (kn.getD i.toNat []):Int),0) else (0,2)

structure St where
 es:List Ev
 kn:List (List Bool)
 fs:List FrD
def sendR (s:St) (i j:Int):Int × Int :=
 if (0<=i/\i<s.kn.length)/\(0<=j/\j<s.kn.length) then (if i=j then (0,1) else if 500<=s.fs.length then (0,7) else ((s.fs.length:Int)+1,0)) else (0,2)
def SendTo (s:St) (i j:Int) (s':St):Prop:=s'.es=s.es/\s'.kn=s.kn/\(if (sendR s i j).2=0 then ∃ b,s'.fs=s.fs ++ [⟨i.toNat,j.toNat,0,s.kn.getD i.toNat [],b⟩] else s'.fs=s.fs)
def frNo (s:St) (f:Int):Option FrD:=if 1<=f/\f<=s.fs.length then s.fs[f.toNat-1]? else none
def delR (s:St) (f:Int):Int × Int :=
 match frNo s f with
 | none=>(0,9)
 | some g=>if 0<g.ack then (0,0) else if 500<=s.fs.length then (0,7) else ((s.fs.length:Int)+1,0)
def delK (a b:List Bool):List Bool:=if cnt a<cnt (bothL a b) then bothL a b else a
def DelTo (s:St) (f:Int) (s':St):Prop :=
 s'.es=s.es /\
 match frNo s f with
 | none=>s'.kn=s.kn/\s'.fs=s.fs
 | some g=>if 0<g.ack\/500<=s.fs.length then s'.kn=s.kn/\s'.fs=s.fs else s'.kn=s.kn.set g.dst (delK (s.kn.getD g.dst []) g.known)/\∃ b,s'.fs=s.fs ++ [⟨g.dst,g.src,f.toNat,[],b⟩]
def frameR (s:St) (f:Int):ByteArray × Int :=
 match frNo s f with
 | none=>(⟨#[]⟩,9)
 | some g=>(g.bytes,0)

abbrev Stt:Type:=World->Nat->(Nat->Prop)->St->Prop

structure ProgOK (F:Stt) (R:Nat->Prop:=fun _=>True):Prop where
 bad:∀ w (r room:Int),Glob w->(r<1\/6<r\/room<0\/50<room) ->
  Calls Tryz.prog 40 #[.int .i64 r,.int .i64 room] w fun e w'=>e=.returned (.tuple #[.pointer none,.int .i64 1])/\Below w.heap.size w w'
 good:∀ w (r room:Nat),Glob w->1<=r->r<=6->room<=50->R room ->
  Calls Tryz.prog 40 #[.int .i64 (r:Int),.int .i64 (room:Int)] w fun e w'=>∃ x S,e=.returned (.tuple #[.pointer (some ⟨x,0,none⟩),.int .i64 0])/\F w' x S ⟨[],List.replicate r [],[]⟩/\(∀ k,S k->w.heap.size<=k)/\Below w.heap.size w w'
 does:∀ w x S s i t r es' kn',Glob w->F w x S s->t.size<=1048576->DoOut s.es s.kn i (toL t) r es' kn' ->
  Calls Tryz.prog 23 #[.pointer (some ⟨x,0,none⟩),.int .i64 i,.string t] w fun e w'=>e=.returned (.int .i64 r)/\∃ S',F w' x S' ⟨es',kn',s.fs⟩/\(∀ k,S' k->S k\/w.heap.size<=k)/\Chg S w w'
 asks:∀ w x S s i t,Glob w->F w x S s->t.size<=1048576 ->
  Calls Tryz.prog 24 #[.pointer (some ⟨x,0,none⟩),.int .i64 i,.string t] w fun e w'=>∃ u,e=.returned (.tuple #[.string u,.int .i64 (askR s.es s.kn i (toL t)).2])/\toL u=(askR s.es s.kn i (toL t)).1/\∃ S',F w' x S' s/\(∀ k,S' k->S k\/w.heap.size<=k)/\Chg S w w'
 knows:∀ w x S s i,Glob w->F w x S s ->
  Calls Tryz.prog 22 #[.pointer (some ⟨x,0,none⟩),.int .i64 i] w fun e w'=>e=.returned (.tuple #[.int .i64 (knowsR s.kn i).1,.int .i64 (knowsR s.kn i).2])/\∃ S',F w' x S' s/\(∀ k,S' k->S k\/w.heap.size<=k)/\Chg S w w'
 sends:∀ w x S s i j,Glob w->F w x S s ->
  Calls Tryz.prog 27 #[.pointer (some ⟨x,0,none⟩),.int .i64 i,.int .i64 j] w fun e w'=>e=.returned (.tuple #[.int .i64 (sendR s i j).1,.int .i64 (sendR s i j).2])/\∃ S' s',SendTo s i j s'/\F w' x S' s'/\(∀ k,S' k->S k\/w.heap.size<=k)/\Chg S w w'
 frame:∀ w x S s f,Glob w->F w x S s ->
  Calls Tryz.prog 28 #[.pointer (some ⟨x,0,none⟩),.int .i64 f] w fun e w'=>e=.returned (.tuple #[.string (frameR s f).1,.int .i64 (frameR s f).2])/\∃ S',F w' x S' s/\(∀ k,S' k->S k\/w.heap.size<=k)/\Chg S w w'
 dels:∀ w x S s f,Glob w->F w x S s ->
  Calls Tryz.prog 31 #[.pointer (some ⟨x,0,none⟩),.int .i64 f] w fun e w'=>e=.returned (.tuple #[.int .i64 (delR s f).1,.int .i64 (delR s f).2])/\∃ S' s',DelTo s f s'/\F w' x S' s'/\(∀ k,S' k->S k\/w.heap.size<=k)/\Chg S w w'
 fsz:∀ w x S s f g,F w x S s->frNo s f=some g->g.bytes.size<=1000000000
 flen:∀ w x S s,F w x S s->s.fs.length<=1000000

theorem chgS_below {B:Nat} {S:Nat->Prop} {a c:World} (h:Chg S a c) (hS:∀ k,S k->B<=k) (hs:B<=a.heap.size):Below B a c :=
 ⟨h.os,h.tape,h.output,h.size,fun k hk=>h.block k (by omega) (fun hk2=>by have:=hS k hk2;omega)⟩

theorem cnt_lt_or:∀ (a b:List Bool) (N:Nat),(∀ i,a.getD i false=true->b.getD i false=true)->a.length<=N->b.length<=N->cnt a<=cnt b/\(¬cnt a<cnt b->∀ i,b.getD i false=a.getD i false):=by
 intro a b N h ha hb
 rw[<- cnt_range a N ha,<- cnt_range b N hb]
 have hsub:∀ (l:List Nat),(l.filter fun k=>a.getD k false).length<=(l.filter fun k=>b.getD k false).length/\(¬(l.filter fun k=>a.getD k false).length<(l.filter fun k=>b.getD k false).length->∀ i∈l,b.getD i false=a.getD i false):=by
  intro l
  induction l with
  | nil=>simp
  | cons x r ih =>
   obtain ⟨i1,i2⟩:=ih
   cases hax:a.getD x false with
   | true =>
    have hbx:=h x hax
    rw[List.filter_cons_of_pos (by simpa using hax),List.filter_cons_of_pos (by simpa using hbx),List.length_cons,List.length_cons]
    refine ⟨by omega,fun h3 i hi=>?_⟩
    rcases List.mem_cons.1 hi with rfl | hi
    ·rw[hax,hbx]
    ·exact i2 (by omega) i hi
   | false =>
    rw[List.filter_cons_of_neg (by rw[hax];simp)]
    cases hbx:b.getD x false with
    | true =>
     rw[List.filter_cons_of_pos (by simpa using hbx),List.length_cons]
     exact ⟨by omega,fun h3=>by omega⟩
    | false =>
     rw[List.filter_cons_of_neg (by rw[hbx];simp)]
     refine ⟨i1,fun h3 i hi=>?_⟩
     rcases List.mem_cons.1 hi with rfl | hi
     ·rw[hax,hbx]
     ·exact i2 h3 i hi
 obtain ⟨s1,s2⟩:=hsub (List.range N)
 refine ⟨s1,fun h3 i=>?_⟩
 by_cases hi:i<N
 ·exact s2 h3 i (List.mem_range.2 hi)
 ·rw[getD_len (by omega),getD_len (known:=a) (by omega)]
theorem delK_getD (a b:List Bool) (i:Nat):(delK a b).getD i false=(bothL a b).getD i false:=by
 unfold delK
 by_cases h:cnt a<cnt (bothL a b)
 ·rw[if_pos h]
 ·rw[if_neg h]
  have:=(cnt_lt_or a (bothL a b) (max a.length b.length) (fun i hi=>by rw[bothL_getD,hi];rfl) (by omega) (by rw[bothL_len];omega)).2 h i
  exact this.symm
theorem delK_len (a b:List Bool) (N:Nat) (ha:a.length<=N) (hb:b.length<=N):(delK a b).length<=N:=by
 unfold delK
 split
 ·rw[bothL_len];omega
 ·exact ha
def isRef (t:TypeId):Prop:=t=170\/t=165\/t=239\/t=233\/t=3
structure ProgFrame (F:Stt):Prop where
 stable:∀ {M:Nat->Prop} {w w':World} {x:Nat} {S:Nat->Prop} {s:St},F w x S s->Chg M w w'->(∀ k,S k->¬M k)->F w' x S s
 tags:∀ {w:World} {x:Nat} {S:Nat->Prop} {s:St} {k:Nat} {t:TypeId},F w x S s->S k->Tagged w k t->¬isRef t/\t≠4/\t≠159/\t≠63/\t≠116
 lt:∀ {w:World} {x:Nat} {S:Nat->Prop} {s:St} {k:Nat},F w x S s->S k->k<w.heap.size
theorem ProgFrame.below {F:Stt} (hP:ProgFrame F) {w w':World} {x:Nat} {S:Nat->Prop} {s:St} (hf:F w x S s) (hb:Below w.heap.size w w'):F w' x S s:=hP.stable hf (Chg.of_below (M:=fun _=>False) hb) (fun _ _ h=>h)
theorem digs_dec:∀ n,Thk.digs n=Lib.decDigits n:=by
 intro n
 induction n using Nat.strongRecOn with
 | _ n ih =>
  rw[Thk.digs,Lib.decDigits]
  split
  ·rfl
  ·rw[ih (n / 10) (by omega)]
theorem digits_itoa (n:Int):Thk.digits n=Lib.itoa n:=by
 unfold Thk.digits Lib.itoa
 rw[digs_dec]
 split
 ·rfl
 ·rw[show n.natAbs=n.toNat by omega]
theorem tag_same {w:World} {k:Nat} {t t':TypeId} (h:Tagged w k t) (h':Tagged w k t'):t=t':=Classical.byContradiction fun e=>h.ne h' e rfl

theorem toL_get (t:ByteArray) (k:Nat) (h:k<t.size):(toL t)[k]'(by rw[toL_length];exact h)=t[k]:=byte_at t k h

def NumEnd (neg:Bool) (t:ByteArray) (e:Ending):Prop:=∃ m:Int,e=.returned (.tuple #[.int .i64 m,.bool (Thk.numAbs neg (toL t)).isSome])/\∀ x,Thk.numAbs neg (toL t)=some x->m=x

end Go.Proofs.YtfmmllpjgkgeaaaGreatDoor
namespace Go.Proofs.YtfmmllpjgkgeaaaGreatDoor
namespace Thk
open Go

theorem foldl_ge (r:Bs):∀ n,n<=r.foldl (fun n c=>10*n+dgt c) n:=by
 induction r with
 | nil=>intro n;exact Nat.le_refl _
 | cons x r ih=>intro n;simp only[List.foldl_cons];have:=ih (10*n+dgt x);omega

theorem parse_ok (M:Nat) (hM:1000000000<=M):∀ (r:Bs) (acc:Nat),r.all isDig=true->r.foldl (fun n c=>10*n+dgt c) acc<=1000000000 ->
  Lib.parseUintM M acc r=.ok (r.foldl (fun n c=>10*n+dgt c) acc):=by
 intro r
 induction r with
 | nil=>intro acc _ _;rfl
 | cons x r ih =>
  intro acc hd hf
  simp only[List.all_cons,Bool.and_eq_true] at hd
  simp only[List.foldl_cons] at hf ⊢
  have hg:=foldl_ge r (10*acc+dgt x)
  have hx:=hd.1
  unfold isDig at hx
  simp only[Bool.and_eq_true,decide_eq_true_eq] at hx
  have e:acc*10+(x.toNat-48)=10*acc+dgt x:=by unfold dgt;omega
  rw[Lib.parseUintM,if_pos hx,if_neg (by omega),e,if_neg (by omega)]
  exact ih _ hd.2 hf

theorem numv_pos (l:Bs) (h0:l≠[]) (hd:l.all isDig=true) (hh:l.head?≠some 48):1<=numv l:=by
 cases l with
 | nil=>exact absurd rfl h0
 | cons x r =>
  unfold numv
  simp only[List.foldl_cons]
  have hg:=foldl_ge r (10*0+dgt x)
  simp only[List.all_cons,Bool.and_eq_true] at hd
  have hx:=hd.1
  unfold isDig at hx
  simp only[Bool.and_eq_true,decide_eq_true_eq] at hx
  have h48:x.toNat≠48:=by
   intro h;apply hh;simp only[List.head?_cons,Option.some.injEq]
   exact UInt8.toNat_inj.1 h
  unfold dgt at hg ⊢
  omega

theorem ofNat_dgt (c:UInt8) (h:isDig c=true):UInt8.ofNat (48+dgt c)=c:=by
 unfold isDig at h
 simp only[Bool.and_eq_true,decide_eq_true_eq] at h
 apply UInt8.toNat_inj.1
 unfold dgt
 rw[show 48+(c.toNat-48)=c.toNat by omega]
 simp

theorem dgt_le (c:UInt8) (h:isDig c=true):dgt c<=9:=by
 unfold isDig at h
 simp only[Bool.and_eq_true,decide_eq_true_eq] at h
 unfold dgt;omega

theorem dec_numv:∀ (n:Nat) (l:Bs),l.length=n->l≠[]->l.all isDig=true->(l.head?≠some 48\/l.length=1)->Lib.decDigits (numv l)=l:=by
 intro n
 induction n with
 | zero=>intro l h0 h1;cases l with
  | nil=>exact absurd rfl h1
  | cons=>simp at h0
 | succ n ih =>
  intro l hl h1 hd hh
  obtain ⟨i,c,rfl⟩:∃ i c,l=i ++ [c]:=⟨l.dropLast,l.getLast h1,(List.dropLast_concat_getLast h1).symm⟩
  simp only[List.all_append,List.all_cons,List.all_nil,Bool.and_true,Bool.and_eq_true] at hd
  simp only[List.length_append,List.length_cons,List.length_nil] at hl hh
  have hc:=dgt_le c hd.2
  rw[numv_snoc]
  by_cases hi:i=[]
  ·subst hi
   have:numv []=0:=rfl
   rw[this,Lib.decDigits,dif_pos (by omega),show 48+(10*0+dgt c)=48+dgt c by omega,ofNat_dgt c hd.2];(first | done | rfl)
  ·have hil:0<i.length:=List.length_pos_iff.2 hi
   have hih:i.head?≠some 48:=by
    rcases hh with hh | hh
    ·cases i with
     | nil=>exact absurd rfl hi
     | cons=>simpa using hh
    ·omega
   have hp:=numv_pos i hi hd.1 hih
   rw[Lib.decDigits,dif_neg (by omega),show (10*numv i+dgt c) / 10=numv i by omega,show (10*numv i+dgt c) % 10=dgt c by omega,ofNat_dgt c hd.2,
    ih i (by omega) hi hd.1 (.inl hih)]

theorem dig_of (d:Nat) (h:d<10):isDig (UInt8.ofNat (48+d))=true/\dgt (UInt8.ofNat (48+d))=d:=by
 have:(UInt8.ofNat (48+d)).toNat=48+d:=by simp;omega
 unfold isDig dgt
 rw[this]
 simp;omega

theorem dec_facts (u:Nat):(Lib.decDigits u).all isDig=true/\numv (Lib.decDigits u)=u/\Lib.decDigits u≠[]/\(1<=u->(Lib.decDigits u).head?≠some 48):=by
 induction u using Nat.strongRecOn with
 | ind u ih =>
  rw[Lib.decDigits]
  by_cases h:u<10
  ·rw[dif_pos h]
   have hd:=dig_of u h
   refine ⟨by rw[List.all_cons,hd.1];rfl,by unfold numv;rw[List.foldl_cons,hd.2];simp,by simp, ?_⟩
   intro h1 h2
   simp only[List.head?_cons,Option.some.injEq] at h2
   have:=hd.2
   rw[h2] at this
   have h3:dgt 48=0:=rfl
   omega
  ·rw[dif_neg h]
   obtain ⟨h1,h2,h3,h4⟩:=ih (u / 10) (by omega)
   have hd:=dig_of (u % 10) (by omega)
   refine ⟨by rw[List.all_append,h1,List.all_cons,hd.1];rfl,by rw[numv_snoc,h2,hd.2];omega,by simp, ?_⟩
   intro _
   have h5:=h4 (by omega)
   cases hi:Lib.decDigits (u / 10) with
   | nil=>exact absurd hi h3
   | cons=>rw[hi] at h5;simpa using h5

theorem nD_le:∀ (k u:Nat),u<10 ^ (k+1)->Lib.nDigits u<=k+1:=by
 intro k
 induction k with
 | zero=>intro u h;rw[Lib.nDigits_small (by simpa using h)];omega
 | succ k ih =>
  intro u h
  by_cases h1:u<10
  ·rw[Lib.nDigits_small h1];omega
  ·rw[Lib.nDigits_big h1]
   have:=ih (u / 10) (by rw[Nat.pow_succ] at h;omega)
   omega

theorem dec_len (u:Nat) (h:u<=1000000000):(Lib.decDigits u).length<=10:=by
 rw[Lib.decDigits_length];exact nD_le 9 u (by omega)

theorem numAbs_dec (neg:Bool) (u:Nat) (h:u<=1000000000) (hn:neg=true->1<=u) :
  numAbs neg (Lib.decDigits u)=some (if neg then -(u:Int) else (u:Int)):=by
 obtain ⟨h1,h2,h3,h4⟩:=dec_facts u
 have hl:=dec_len u h
 have hl0:0<(Lib.decDigits u).length:=List.length_pos_iff.2 h3
 have hb:numBad neg (Lib.decDigits u)=false:=by
  unfold numBad
  by_cases hu:1<=u
  ·have:=h4 hu
   have e1:((Lib.decDigits u).head? == some 48)=false:=by simpa using this
   rw[e1,Bool.false_and,Bool.or_false];simp only[Bool.or_eq_false_iff,decide_eq_false_iff_not];omega
  ·have hneg:neg=false:=by cases neg <;> simp_all
   have hu0:u=0:=by omega
   subst hu0 hneg
   rw[Lib.decDigits,dif_pos (by omega)];simp
 unfold numAbs
 rw[hb,h1,h2]
 simp[h]

def progNum (l:Bs):Option Int:=match Lib.parseIntB 64 l with
 | .ok v=>if Lib.itoa v=l/\-1000000000<=v/\v<=1000000000 then some v else none
 | _=>none

theorem num_itoa (v:Int) (h1:-1000000000<=v) (h2:v<=1000000000):num (Lib.itoa v)=some v:=by
 unfold num Lib.itoa
 by_cases h:v<0
 ·rw[if_pos h]
  simp only[List.head?_cons,List.tail_cons,if_true]
  rw[numAbs_dec true v.natAbs (by omega) (by omega)]
  simp;omega
 ·rw[if_neg h]
  obtain ⟨e1,e2,e3,e4⟩:=dec_facts v.toNat
  have:(Lib.decDigits v.toNat).head?≠some 45:=by
   cases hd:Lib.decDigits v.toNat with
   | nil=>exact absurd hd e3
   | cons x r =>
    rw[hd] at e1
    simp only[List.all_cons,Bool.and_eq_true] at e1
    intro hx
    simp only[List.head?_cons,Option.some.injEq] at hx
    rw[hx] at e1
    exact absurd e1.1 (by decide)
  rw[if_neg this,numAbs_dec false v.toNat (by omega) (by simp)]
  simp;omega

theorem numAbs_inv (neg:Bool) (l:Bs) (v:Int) (h:numAbs neg l=some v) :
  l≠[]/\l.all isDig=true/\(l.head?≠some 48\/(l.length=1/\neg=false))/\numv l<=1000000000/\v=(if neg then -(numv l:Int) else (numv l:Int)):=by
 unfold numAbs at h
 split at h
 ·cases h
 ·rename_i hb
  split at h
  ·rename_i hd
   simp only[Bool.and_eq_true,decide_eq_true_eq] at hd
   simp only[Option.some.injEq] at h
   unfold numBad at hb
   simp only[Bool.or_eq_true,Bool.and_eq_true,decide_eq_true_eq,beq_iff_eq,not_or,not_and] at hb
   refine ⟨?_,hd.1, ?_,hd.2,h.symm⟩
   ·intro h0;rw[h0] at hb;simp at hb
   ·by_cases hh:l.head? = some 48
    ·right
     have:=hb.2 hh
     refine ⟨by omega,by simpa using this.2⟩
    ·exact .inl hh
  ·cases h

theorem prog_of_num (l:Bs) (v:Int) (h:num l=some v):Lib.parseIntB 64 l=.ok v/\Lib.itoa v=l/\-1000000000<=v/\v<=1000000000:=by
 unfold num at h
 split at h
 ·rename_i h45
  cases l with
  | nil=>simp at h45
  | cons x r =>
   simp only[List.head?_cons,Option.some.injEq] at h45
   subst h45
   simp only[List.tail_cons] at h
   obtain ⟨e1,e2,e3,e4,e5⟩:=numAbs_inv _ _ _ h
   have e3':r.head?≠some 48:=by rcases e3 with e3 | e3;exact e3;simp at e3
   have hp:=numv_pos r e1 e2 e3'
   have hpar:Lib.parseUintB 64 r=.ok (numv r):=by
    unfold Lib.parseUintB;rw[if_neg e1,parse_ok _ (by decide) r 0 e2 e4];(first | done | rfl)
   simp only[if_true] at e5
   refine ⟨?_, ?_,by omega,by omega⟩
   ·unfold Lib.parseIntB
    have c45:(45:UInt8).toNat=45:=rfl
    simp only[c45]
    rw[if_pos (Or.inr trivial),hpar]
    simp only[not_true,false_and,if_false,true_and]
    rw[if_neg (by omega),if_pos trivial,e5]
   ·unfold Lib.itoa
    rw[if_pos (by omega),e5,show (-(numv r:Int)).natAbs=numv r by omega,dec_numv _ r rfl e1 e2 (.inl e3')]
 ·rename_i h45
  obtain ⟨e1,e2,e3,e4,e5⟩:=numAbs_inv _ _ _ h
  have hpar:Lib.parseUintB 64 l=.ok (numv l):=by
   unfold Lib.parseUintB;rw[if_neg e1,parse_ok _ (by decide) l 0 e2 e4];(first | done | rfl)
  simp only[Bool.false_eq_true,if_false] at e5
  refine ⟨?_, ?_,by omega,by omega⟩
  ·cases l with
   | nil=>exact absurd rfl e1
   | cons x r =>
    simp only[List.all_cons,Bool.and_eq_true] at e2
    have hx:=e2.1
    unfold isDig at hx
    simp only[Bool.and_eq_true,decide_eq_true_eq] at hx
    have n45:¬(x.toNat=45):=by omega
    unfold Lib.parseIntB
    have n43:¬(x.toNat=43):=by omega
    simp only[n45,n43,or_self,if_false,hpar,not_false_eq_true,true_and,false_and]
    rw[if_neg (by omega),e5]
  ·unfold Lib.itoa
   rw[if_neg (by omega),e5,show (numv l:Int).toNat=numv l by omega,dec_numv _ l rfl e1 e2 ?_]
   rcases e3 with e3 | e3
   ·exact .inl e3
   ·exact .inr e3.1

theorem progNum_eq (l:Bs):progNum l=num l:=by
 cases hn:num l with
 | some v =>
  obtain ⟨h1,h2,h3,h4⟩:=prog_of_num l v hn
  unfold progNum;rw[h1];simp[h2,h3,h4]
 | none =>
  unfold progNum
  cases hp:Lib.parseIntB 64 l with
  | ok v =>
   simp only
   by_cases hc:Lib.itoa v=l/\-1000000000<=v/\v<=1000000000
   ·have:=num_itoa v hc.2.1 hc.2.2
    rw[hc.1,hn] at this
    cases this
   ·rw[if_neg hc]
  | range=>rfl
  | _=>rfl

end Thk
end Go.Proofs.YtfmmllpjgkgeaaaGreatDoor

