import Derived.Below
import Derived.Test.YtfmmllpjgkgeaaaGreatDoorProg
import Derived.WalkKit
import Derived.WalkSpells
import Derived.WalkLawsBesides
import Derived.Deep.QuietTactic
import Derived.BigQuiet
import Derived.Handy
import Derived.Deep.DeepCutAuto
import Derived.Deep.RegionWith
import Derived.Lib.QuietBelow
set_option linter.unusedVariables false
set_option linter.unusedSimpArgs false
set_option maxHeartbeats 16000000
set_option maxRecDepth 100000
namespace Go.Proofs.YtfmmllpjgkgeaaaGreatDoor
namespace Thk

abbrev Bs:=List UInt8
def isLow (c:UInt8):Bool:=97<=c.toNat && c.toNat<=122
def isDig (c:UInt8):Bool:=48<=c.toNat && c.toNat<=57
def isKind (c:UInt8):Bool:=c.toNat == 115 || c.toNat == 102 || c.toNat == 114 || c.toNat == 99 || c.toNat == 109
def isAct (c:UInt8):Bool:=c.toNat == 43 || c.toNat == 45 || c.toNat == 94 || c.toNat == 95 || c.toNat == 61 || c.toNat == 62 || c.toNat == 33

def seg (l:Bs):Bool:=decide (2<=l.length) && decide (l.length<=5) && l.tail.all isLow && (l.head?.map isKind).getD false

def val (l:Bs):Bool:=decide (1<=l.length) && decide (l.length<=8) && l.all (fun c=>isLow c || isDig c)

def splitAcc (c:UInt8):Bs->Bs->List Bs
 | cur,[]=>[cur]
 | cur,x :: r=>if x=c then cur :: splitAcc c [] r else splitAcc c (cur ++ [x]) r
def split (c:UInt8) (l:Bs):List Bs:=splitAcc c [] l

theorem seg_false_len (l:Bs) (h:l.length<2\/5<l.length):seg l=false:=by
 unfold seg
 rcases h with h | h
 ·have:decide (2<=l.length)=false:=by simp;omega
  rw[this];simp
 ·have:decide (l.length<=5)=false:=by simp;omega
  rw[this];simp

end Thk
end Go.Proofs.YtfmmllpjgkgeaaaGreatDoor
namespace Go.Proofs.YtfmmllpjgkgeaaaGreatDoor.Thk
def begins (path p:Bs):Bool:=path == p || (decide (p.length<path.length) && path.take p.length == p && (path[p.length]?.map (·.toNat == 47)).getD false)
end Go.Proofs.YtfmmllpjgkgeaaaGreatDoor.Thk
namespace Go.Proofs.YtfmmllpjgkgeaaaGreatDoor.Thk
theorem splitAcc_ne (c:UInt8) (cur:Bs) (x:UInt8) (r:Bs) (h:x≠c):splitAcc c cur (x :: r)=splitAcc c (cur ++ [x]) r:=by rw[splitAcc,if_neg h]
theorem splitAcc_eq (c:UInt8) (cur:Bs) (r:Bs):splitAcc c cur (c :: r)=cur :: splitAcc c [] r:=by rw[splitAcc,if_pos rfl]
end Go.Proofs.YtfmmllpjgkgeaaaGreatDoor.Thk

namespace Go.Proofs.YtfmmllpjgkgeaaaGreatDoor
open Go.RowKit

theorem ret_bool {a b:Bool} (h:a=b):Ending.returned (.bool a)=.returned (.bool b):=by rw[h]

theorem byte_at (s:ByteArray) (k:Nat) (h:k<s.size):s.data.toList[k]'(by simpa using h)=s[k]:=by
 rw[Array.getElem_toList];(first | done | rfl)


theorem toList_eq (s:ByteArray):s.toList=s.data.toList:=ByteArray.toList_eq s
theorem extract_toList (s:ByteArray) (a b:Nat):(s.extract a b).toList=(s.data.toList.take b).drop a:=by
 rw[toList_eq];simp[ByteArray.data_extract,List.extract_eq_take_drop,List.drop_take]


def effB (a:UInt8):Bool:=a.toNat == 43 || a.toNat == 94 || a.toNat == 61 || a.toNat == 62

def covB (dp:Thk.Bs) (da:UInt8) (dv:Thk.Bs) (ep:Thk.Bs) (ea:UInt8) (ev:Thk.Bs):Bool :=
 if (da.toNat:Int)=33 then Thk.begins ep dp
 else if dp≠ep then false
 else if (ea.toNat:Int)=43 then ((da.toNat:Int) == 43 || (da.toNat:Int) == 45) && dv == ev
 else if (ea.toNat:Int)=94 then (da.toNat:Int) == 94 || (da.toNat:Int) == 95
 else if (ea.toNat:Int)=61 then (da.toNat:Int) == 61
 else false


def toL (s:ByteArray):Thk.Bs:=s.data.toList

theorem toL_extract (s:ByteArray) (a b:Nat):toL (s.extract a b)=((toL s).take b).drop a:=by
 have h:=extract_toList s a b;rw[toList_eq] at h;exact h

theorem grown_below {B:Nat} {w wr w1:World} {o:Obj} {v:Value} {e:TypeId} {size n:Nat} {xs:List Value} (hn:Below B w wr) (hB:B<=w.heap.size)
  (hown:wr.ownsRow B e size v n xs) (hg:(wr.alloc o).grownBy w1 v.ownBlock):Below B w w1 :=
 (hn.alloc (Nat.le_trans hB hn.size) o).grown hg (by have:=hn.size;simp;omega) (fun k hk=>(hown.lt k hk).1)

end Go.Proofs.YtfmmllpjgkgeaaaGreatDoor

namespace Go.Proofs.YtfmmllpjgkgeaaaGreatDoor.Thk

def pathL (ps:List Bs):Bool:=decide (ps.length<=3) && ps.all seg && ps.dropLast.all (fun p=>p.head? == some 109)
def path (l:Bs):Bool:=pathL (split 47 l)
def kindOf (l:Bs):UInt8:=(((split 47 l).getLast?.getD []).head?).getD 0

theorem splitAcc_ne_nil (c:UInt8):∀ (cur l:Bs),splitAcc c cur l≠[]:=by
 intro cur l
 induction l generalizing cur with
 | nil=>simp[splitAcc]
 | cons x r ih=>unfold splitAcc;split <;> simp[ih]
theorem split_ne_nil (c:UInt8) (l:Bs):split c l≠[]:=splitAcc_ne_nil c [] l

theorem pathL_false_seg (ps:List Bs) (j:Nat) (h:j<ps.length) (hs:seg ps[j]=false):pathL ps=false:=by
 have:ps.all seg=false:=by rw[List.all_eq_false];exact ⟨ps[j],List.getElem_mem _,by simp[hs]⟩
 unfold pathL;rw[this];simp
theorem pathL_false_map (ps:List Bs) (j:Nat) (h:j+1<ps.length) (hs:(ps[j].head? == some 109)=false):pathL ps=false:=by
 have:ps.dropLast.all (fun p=>p.head? == some 109)=false:=by
  rw[List.all_eq_false]
  refine ⟨ps[j], ?_,by rw[hs];simp⟩
  have e:ps.dropLast[j]'(by simp;omega)=ps[j]:=List.getElem_dropLast _
  rw[<- e];exact List.getElem_mem _
 unfold pathL;rw[this];simp
theorem pathL_eq (ps:List Bs) (h1:∀ j (h:j<ps.length),seg ps[j]=true) (h2:∀ j (h:j<ps.length),j+1<ps.length->ps[j].head? = some 109):pathL ps=decide (ps.length<=3):=by
 have a:ps.all seg=true:=by
  rw[List.all_eq_true];intro x hx;obtain ⟨i,hi,rfl⟩:=List.getElem_of_mem hx;exact h1 i hi
 have b:ps.dropLast.all (fun p=>p.head? == some 109)=true:=by
  rw[List.all_eq_true];intro x hx;obtain ⟨i,hi,rfl⟩:=List.getElem_of_mem hx
  rw[List.getElem_dropLast];simp at hi;rw[h2 i (by omega) (by omega)];(first | done | rfl)
 unfold pathL;rw[a,b];simp
theorem seg_pos (l:Bs) (h:seg l=true):2<=l.length:=by unfold seg at h;simp at h;omega
theorem path_last (l:Bs) (h:path l=true):∃ (hn:0<(split 47 l).length),2<=((split 47 l)[(split 47 l).length-1]'(by omega)).length/\(((split 47 l)[(split 47 l).length-1]'(by omega))[0]?)=some (kindOf l):=by
 have hn:0<(split 47 l).length:=List.length_pos_iff.2 (split_ne_nil 47 l)
 refine ⟨hn, ?_⟩
 have hs:seg ((split 47 l)[(split 47 l).length-1]'(by omega))=true:=by
  unfold path pathL at h;simp only[Bool.and_eq_true] at h
  exact List.all_eq_true.1 h.1.2 _ (List.getElem_mem _)
 have h2:=seg_pos _ hs
 refine ⟨h2, ?_⟩
 have e:(split 47 l).getLast? = some ((split 47 l)[(split 47 l).length-1]'(by omega)):=by
  rw[List.getLast?_eq_getElem?,List.getElem?_eq_getElem]
 unfold kindOf
 rw[e]
 generalize (split 47 l)[(split 47 l).length-1]'(by omega)=q at *
 cases q with
 | nil=>simp at h2
 | cons a r=>rfl

def dgt (c:UInt8):Nat:=c.toNat-48
def numv (l:Bs):Nat:=l.foldl (fun n c=>10*n+dgt c) 0
def numBad (neg:Bool) (l:Bs):Bool:=decide (l.length<1) || decide (10<l.length) || (l.head? == some 48 && (decide (1<l.length) || neg))
def numAbs (neg:Bool) (l:Bs):Option Int :=
 if numBad neg l then none else if l.all isDig && decide (numv l<=1000000000) then some (if neg then -(numv l:Int) else (numv l:Int)) else none
def num (l:Bs):Option Int:=if l.head? = some 45 then numAbs true l.tail else numAbs false l

theorem numv_snoc (l:Bs) (c:UInt8):numv (l ++ [c])=10*numv l+dgt c:=by unfold numv;simp
end Go.Proofs.YtfmmllpjgkgeaaaGreatDoor.Thk

namespace Go.Proofs.YtfmmllpjgkgeaaaGreatDoor
open Go.RowKit

theorem ret_int {k:IntKind} {a b:Int} (h:a=b):Ending.returned (.int k a)=.returned (.int k b):=by rw[h]
theorem toL_length (s:ByteArray):(toL s).length=s.size:=by simp[toL]


theorem head_toL (q:ByteArray) (h:0<q.size):(toL q).head? = some q[0]:=by
 have:=byte_at q 0 h
 rw[List.head?_eq_getElem?,List.getElem?_eq_getElem (by simpa[toL] using h)]
 simp only[toL,Option.some.injEq];exact this

end Go.Proofs.YtfmmllpjgkgeaaaGreatDoor

namespace Go.Proofs.YtfmmllpjgkgeaaaGreatDoor.Thk
def ltB:Bs->Bs->Bool
 | [],[]=>false
 | [],_ :: _=>true
 | _ :: _,[]=>false
 | a :: l,b :: m=>decide (a.toNat<b.toNat) || (a == b && ltB l m)
def ins (l:List Bs) (s:Bs):List Bs:=match l with
 | []=>[s]
 | x :: r=>if s=x then x :: r else if ltB s x then s :: x :: r else x :: ins r s
def withStep (s:Bs) (p:List Bs × Bool) (x:Bs):List Bs × Bool :=
 ((if x≠s then (if p.2=false/\(ltB s x || s == x)=true then p.1 ++ [s] else p.1) ++ [x] else (if p.2=false/\(ltB s x || s == x)=true then p.1 ++ [s] else p.1)),p.2 || (ltB s x || s == x))
def withL (l:List Bs) (s:Bs):List Bs:=let p:=l.foldl (withStep s) ([],false);if p.2 then p.1 else p.1 ++ [s]
def joinAcc (acc:Bs):List Bs->Bs
 | []=>acc
 | x :: r=>joinAcc (acc ++ [44] ++ x) r
def joined:List Bs->Bs
 | []=>[]
 | x :: r=>joinAcc x r
def joinTo (l:List Bs):Nat->Bs
 | 0=>[]
 | k+1=>(if k=0 then joinTo l k else joinTo l k ++ [44]) ++ l.getD k []
def digs (n:Nat):Bs:=if h:n<10 then [UInt8.ofNat (48+n)] else digs (n / 10) ++ [UInt8.ofNat (48+n % 10)]
def digits (n:Int):Bs:=if n<0 then 45 :: digs n.natAbs else digs n.natAbs
theorem digs_small (n:Nat) (h:n<10):digs n=[UInt8.ofNat (48+n)]:=by rw[digs,dif_pos h]
theorem digs_big (n:Nat) (h:¬n<10):digs n=digs (n / 10) ++ [UInt8.ofNat (48+n % 10)]:=by rw[digs,dif_neg h]
def upper (m:Nat):Bs:=if m<10 then [] else digs (m / 10)
theorem digs_upper (m:Nat):digs m=upper m ++ [UInt8.ofNat (48+m % 10)]:=by
 unfold upper
 by_cases h:m<10
 ·rw[if_pos h,digs_small m h,Nat.mod_eq_of_lt h];(first | done | rfl)
 ·rw[if_neg h,digs_big m h]
theorem upper_step (m:Nat) (h:¬m<10):upper m=upper (m / 10) ++ [UInt8.ofNat (48+m / 10 % 10)]:=by
 conv=>lhs;unfold upper
 rw[if_neg h,digs_upper]
end Go.Proofs.YtfmmllpjgkgeaaaGreatDoor.Thk

namespace Go.Proofs.YtfmmllpjgkgeaaaGreatDoor
open Go.RowKit

theorem toL_append (a b:ByteArray):toL (a ++ b)=toL a ++ toL b:=by simp[toL]
theorem toL_inj {a b:ByteArray} (h:toL a=toL b):a=b:=by
 cases a with | mk a=>cases b with | mk b=>congr 1;exact Array.toList_inj.1 h

theorem conv_one (wx:World) (x:Int):(convert 93 9 (.slice (some ⟨wx.heap.size,0,none⟩) 1 1)).run Tryz.prog (wx.alloc (.cells #[.int .u8 x] 5))=.ok (.string (strOfNums [x])) (wx.alloc (.cells #[.int .u8 x] 5)):=by
 refine run_convert_bytes_arg (P:=Tryz.prog) _ 93 5 Tryz.underlying93 Tryz.underlying5 wx.heap.size 0 1 1 [x] rfl ?_ 9 Tryz.underlying9
 intro i hi
 have:i=0:=by omega
 subst this
 simp

theorem toL_strOfNums (x:Int):toL (strOfNums [x])=[UInt8.ofNat x.toNat]:=rfl

def cnt (l:List Bool):Nat:=(l.filter id).length
theorem cnt_le (l:List Bool):cnt l<=l.length:=List.length_filter_le _ _

def withStep (s:Thk.Bs) (p:List Thk.Bs × Bool) (x:Thk.Bs):List Thk.Bs × Bool :=
 ((if p.2=false/\(Op.bytesLess s x || s == x)=true then p.1 ++ [s] else p.1) ++ (if x=s then [] else [x]),p.2 || (Op.bytesLess s x || s == x))
def withL (l:List Thk.Bs) (s:Thk.Bs):List Thk.Bs:=if (l.foldl (withStep s) ([],false)).2 then (l.foldl (withStep s) ([],false)).1 else (l.foldl (withStep s) ([],false)).1 ++ [s]

end Go.Proofs.YtfmmllpjgkgeaaaGreatDoor
namespace Go.Proofs.YtfmmllpjgkgeaaaGreatDoor
open Go.RowKit Go.Sort

structure Ev where
 p:ByteArray
 a:UInt8
 v:ByteArray
 n:Int
 saw:List Bool

def covAt (es:List Ev) (known:List Bool) (k d:Nat):Bool :=
 match es[d]?,es[k]? with
 | some x,some y=>known.getD d false && x.saw.getD k false && covB (toL x.p) x.a (toL x.v) (toL y.p) y.a (toL y.v)
 | _,_=>false
def covTo (es:List Ev) (known:List Bool) (k:Nat):Nat->Bool
 | 0=>false
 | d+1=>covTo es known k d || (decide (k<d) && covAt es known k d)
def alive (es:List Ev) (known:List Bool) (k:Nat):Bool :=
 match es[k]? with
 | some y=>effB y.a && known.getD k false && !covTo es known k es.length
 | none=>false
def aliveTo (es:List Ev) (known:List Bool) (n:Nat):List Nat:=(List.range n).filter (alive es known)

theorem own_below {w w':World} {B:Nat} {e:TypeId} {v:Value} {n size:Nat} {xs:List Value} (h:w.ownsRow B e size v n xs) (hb:Below w.heap.size w w'):w'.ownsRow B e size v n xs :=
 h.kept (row:=none) ⟨hb.os,hb.tape,hb.output,hb.size,fun k hk _=>hb.block k hk⟩ (by cases h:v.ownBlock <;> simp)
end Go.Proofs.YtfmmllpjgkgeaaaGreatDoor

