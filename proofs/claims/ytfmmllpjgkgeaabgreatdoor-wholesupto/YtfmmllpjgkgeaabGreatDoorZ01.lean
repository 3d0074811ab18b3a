import Derived.Test.YtfmmllpjgkgeaabGreatDoorProg
import Derived.WalkSpells
import Derived.WalkLawsBesides
import Derived.BigQuiet
import Derived.Handy
import Derived.Deep.DeepCutAuto
import Derived.Deep.RegionWith
import Derived.Lib.QuietBelow
set_option linter.all false
set_option maxHeartbeats 0
set_option maxRecDepth 100000
namespace Go.Proofs.YtfmmllpjgkgeaabGreatDoor
section
open Go.Proofs.Tryz
def V{p:Prop}(h:p:=by omega):p:=h
def Ω{p:Prop}(h:p:=by simp):p:=h
def Ψ{p:Prop}(h:p:=by decide):p:=h
def Φ{p:Prop}(h:p:=by assumption):p:=h
def Λ{p:Prop}(h:p:=by go_num):p:=h
def Θ{p:Prop}(h:p:=by simp;omega):p:=h
def Γ{p:Prop}(h:p:=by go_grown):p:=h
abbrev O(x i:Nat):Addr:=⟨x,i,none⟩
abbrev z(x:Nat):Addr:=⟨x,0,none⟩
abbrev ϒ(w v:World):Prop:=Go.RowKit.Below w.heap.size w v
def J(p:Prop):Prop:=p
def J.o{p:Prop}(h:J p):p:=h
def ω{p:Prop}(h:p):J p:=h
abbrev I(x:Int):Value:=.int .i64 x
def ψ:type_of% @Go.Calls.mono:=@Go.Calls.mono
def χ:type_of% @Nat.le_refl:=@Nat.le_refl
def φ:type_of% @Go.RowKit.Below.refl:=@Go.RowKit.Below.refl
def υ:type_of% @Or.inr:=@Or.inr
def τ:type_of% @Or.inl:=@Or.inl
def σ:type_of% @List.getElem?_eq_getElem:=@List.getElem?_eq_getElem
def ς:type_of% @Nat.le_trans:=@Nat.le_trans
def ρ:type_of% @List.length_append:=@List.length_append
def ο:type_of% @Nat.lt_of_lt_of_le:=@Nat.lt_of_lt_of_le
def ξ:type_of% @List.getD_eq_getElem?_getD:=@List.getD_eq_getElem?_getD
def ν:type_of% @List.take_succ_eq_append_getElem:=@List.take_succ_eq_append_getElem
def μ:type_of% @Array.getElem?_modify:=@Array.getElem?_modify
def κ:type_of% @List.getElem_mem:=@List.getElem_mem
def ι:type_of% @List.mem_map:=@List.mem_map
def θ:type_of% @List.mem_append:=@List.mem_append
def η:type_of% @Go.World.cell?_of_block:=@Go.World.cell?_of_block
def ε:type_of% @List.getElem?_append_left:=@List.getElem?_append_left
def δ:type_of% @List.length_cons:=@List.length_cons
def γ:type_of% @Bool.and_eq_true:=@Bool.and_eq_true
def ϊ:type_of% @Go.World.size_alloc:=@Go.World.size_alloc
def ϋ:type_of% @List.getElem?_append_right:=@List.getElem?_append_right
def ό:type_of% @beq_eq_false_iff_ne:=@beq_eq_false_iff_ne
def ύ:type_of% @if_neg:=@if_neg
def ώ:type_of% @if_pos:=@if_pos
def ϐ:type_of% @bodyPost_ret:=@bodyPost_ret
def ϑa:type_of% @Go.Value.slice.injEq:=@Go.Value.slice.injEq
def ϑb:type_of% @Option.some.injEq:=@Option.some.injEq
def ϑc:type_of% @Classical.byContradiction:=@Classical.byContradiction
def ϑd:type_of% @List.getElem_of_mem:=@List.getElem_of_mem
def ϑe:type_of% @List.mem_singleton:=@List.mem_singleton
def ϑf:type_of% @List.mem_filter:=@List.mem_filter
def ϑg:type_of% @List.take_of_length_le:=@List.take_of_length_le
def ϑh:type_of% @List.length_map:=@List.length_map
def ϑi:type_of% @List.getElem_set:=@List.getElem_set
def ϑj:type_of% @Go.World.ownsRow_nil:=@Go.World.ownsRow_nil
def ϑk:type_of% @List.getElem_append_left:=@List.getElem_append_left
def ϑl:type_of% @List.append_assoc:=@List.append_assoc
def ϑm:type_of% @List.take_length:=@List.take_length
def ϑn:type_of% @List.getElem?_eq_some_iff:=@List.getElem?_eq_some_iff
def ϑo:type_of% @ByteArray.size_extract:=@ByteArray.size_extract
def ϑp:type_of% @List.mem_range:=@List.mem_range
def ϑq:type_of% @List.getElem?_eq_none:=@List.getElem?_eq_none
def ϑr:type_of% @List.eq_nil_of_length_eq_zero:=@List.eq_nil_of_length_eq_zero
def ϑs:type_of% @decide_eq_true_eq:=@decide_eq_true_eq
def ϑt:type_of% @beq_iff_eq:=@beq_iff_eq
def ϑu:type_of% @List.getElem_append_right:=@List.getElem_append_right
def ϑv:type_of% @bne_iff_ne:=@bne_iff_ne
def ϑw:type_of% @Bool.or_eq_true:=@Bool.or_eq_true
def ϑx:type_of% @Nat.le_of_lt:=@Nat.le_of_lt
def ϑy:type_of% @List.set_getElem_self:=@List.set_getElem_self
def ϑz:type_of% @Go.Addr.mk.injEq:=@Go.Addr.mk.injEq
def ϑA:type_of% @Go.World.block_lt_of_cell?:=@Go.World.block_lt_of_cell?
def ϑB:type_of% @Bool.false_eq_true:=@Bool.false_eq_true
def ϑC:type_of% @List.mem_of_getElem?:=@List.mem_of_getElem?
def ϑD:type_of% @Array.getElem?_toList:=@Array.getElem?_toList
def ϑE:type_of% @Int.toNat_natCast:=@Int.toNat_natCast
def ϑF:type_of% @List.map_append:=@List.map_append
def ϑG:type_of% @List.getElem?_map:=@List.getElem?_map
def ϑH:type_of% @List.filter_append:=@List.filter_append
def ϑI:type_of% @List.getElem_map:=@List.getElem_map
def ϑJ:type_of% @List.mem_or_eq_of_mem_set:=@List.mem_or_eq_of_mem_set
def ϑK:type_of% @List.map_map:=@List.map_map
def ϑL:type_of% @List.mem_cons:=@List.mem_cons
def ϑM:type_of% @true_and:=@true_and
def ϑN:type_of% @and_true:=@and_true
def ϑO:type_of% @or_false:=@or_false
namespace Thk
abbrev Bs:=List UInt8
def isLow(c:UInt8):Bool:=97<=c.toNat&&c.toNat<=122
def dR(c:UInt8):Bool:=48<=c.toNat&&c.toNat<=57
def isKind(c:UInt8):Bool:=c.toNat==115||c.toNat==102||c.toNat==114||c.toNat==99||c.toNat==109
def eP(c:UInt8):Bool:=c.toNat==43||c.toNat==45||c.toNat==94||c.toNat==95||c.toNat==61||c.toNat==62||c.toNat==33
def seg(l:Bs):Bool:=decide (2<=l.length)&&decide (l.length<=5)&&l.tail.all isLow&&(l.head?.map isKind).getD false
def val(l:Bs):Bool:=decide (1<=l.length)&&decide (l.length<=8)&&l.all (λc=>isLow c||dR c)
def bQ(c:UInt8):Bs->Bs->List Bs
 | cur,[]=>[cur]
 | cur,x::r=>if x=c then cur::bQ c [] r else bQ c (cur++[x]) r
def split(c:UInt8)(l:Bs):List Bs:=bQ c [] l
def ae3(l:Bs)(a:2<=l.length)(b:l.length<=5)(c:∀i(h:i<l.length),1<=i->isLow l[i]=true):seg l=isKind l[0]:=by
 have d:l.tail.all isLow=true:=by rw[List.all_eq_true];intro x e;obtain⟨i,g,rfl⟩:=ϑd e;rw[List.getElem_tail];exact c _ _ V
 cases l with
 | nil=>simp at a
 | cons f r=>simp only[seg,a,b,d,List.head?_cons];simp
def vJ(l:Bs)(h:l.length<2\/5<l.length):seg l=false:=by
 unfold seg;rcases h with h|h
 .have:decide (2<=l.length)=false:=Θ
  rw[this];simp
 .have:decide (l.length<=5)=false:=Θ
  rw[this];simp
def Ic(l:Bs)(i:Nat)(h:i<l.length)(c:1<=i)(a:isLow l[i]=false):seg l=false:=by
 have b:l.tail.all isLow=false:=by
  rw[List.all_eq_false];refine⟨l[i], ?_,by simp[a]⟩;have:l[i]=l.tail[i-1]'Θ:=by rw[List.getElem_tail];congr 1;omega
  rw[this];exact κ _
 unfold seg;rw[b];simp
def Ie(l:Bs)(i:Nat)(h:i<l.length)(a:(isLow l[i]||dR l[i])=false):val l=false:=by
 have b:l.all (λc=>isLow c||dR c)=false:=by rw[List.all_eq_false];exact⟨l[i],κ _,by simp only[a];simp⟩
 unfold val;rw[b];simp
def ae4(l:Bs)(a:∀i(h:i<l.length),(isLow l[i]||dR l[i])=true):val l=(decide (1<=l.length)&&decide (l.length<=8)):=by
 have d:l.all (λc=>isLow c||dR c)=true:=by rw[List.all_eq_true];intro x e;obtain⟨i,b,rfl⟩:=ϑd e;exact a i b
 unfold val;rw[d];simp
end Thk
end
namespace Thk
open Go.Proofs.Tryz
def begins(path p:Bs):Bool:=path==p||(decide (p.length<path.length)&&path.take p.length==p&&(path[p.length]?.map (·.toNat==47)).getD false)
end Thk
namespace Thk
open Go.Proofs.Tryz
def qX(c:UInt8)(a:Bs)(x:UInt8)(r:Bs)(h:x≠c):bQ c a (x::r)=bQ c (a++[x]) r:=by rw[bQ,ύ h]
def nV(c:UInt8)(a:Bs)(r:Bs):bQ c a (c::r)=a::bQ c [] r:=by rw[bQ,ώ rfl]
def BJ(l:Bs)(f k:Nat)(a:k<l.length)(b:f<=k):(l.take (k+1)).drop f=(l.take k).drop f++[l[k]]:=by rw[ν a,List.drop_append_of_le_length Θ]
def EU(c:UInt8)(l:Bs)(b:List Bs)(f k:Nat)(a:k<l.length)(e:f<=k)(d:l[k]≠c)(h:split c l=b++bQ c ((l.take k).drop f) (l.drop k)):split c l=b++bQ c ((l.take (k+1)).drop f) (l.drop (k+1)):=by rw[h,List.drop_eq_getElem_cons a,qX _ _ _ _ d,BJ l f k a e]
def EW(c:UInt8)(l:Bs)(a:List Bs)(f k:Nat)(d:k<l.length)(b:l[k]=c)(h:split c l=a++bQ c ((l.take k).drop f) (l.drop k)):split c l=(a++[(l.take k).drop f])++bQ c ((l.take (k+1)).drop (k+1)) (l.drop (k+1)):=by
 rw[h,List.drop_eq_getElem_cons d,b,nV];have:(l.take (k+1)).drop (k+1)=[]:=by apply List.drop_eq_nil_of_le;simp;omega
 rw[this];simp
def RU(c:UInt8)(l:Bs)(a:List Bs)(f:Nat)(h:split c l=a++bQ c ((l.take l.length).drop f) (l.drop l.length)):split c l=a++[l.drop f]:=by rw[h];simp[bQ]
end Thk
section
open Go.Proofs.Tryz Go.RowKit
variable{xs:List Value}{B:Nat}{v:Value}{w:World}
def bC{a b:Bool}(h:a=b):Ending.returned (.bool a)=.returned (.bool b):=by rw[h]
def BK(c:UInt8)(w:World):Calls prog 165 #[.int .u8 (c.toNat:Int)] w λe a=>e=.returned (.bool (Thk.eP c))/\a=w:=by
 go_enter func165,ntmps165;go_wp2;all_goals
  go_ret;refine⟨bC ?_,rfl⟩;unfold Thk.eP;rw[Bool.eq_iff_iff];simp;try omega
def byte_at(s:ByteArray)(k:Nat)(h:k<s.size):s.data.toList[k]'(by simpa using h)=s[k]:=by rw[Array.getElem_toList];(first|done|rfl)
def NS(c:UInt8):Thk.isKind c=true↔((c.toNat:Int)=115\/(c.toNat:Int)=102\/(c.toNat:Int)=114\/(c.toNat:Int)=99\/(c.toNat:Int)=109):=by unfold Thk.isKind;simp;omega
def nX(s:ByteArray)(w:World)(x:s.size<=1048576):Calls prog 108 #[.string s] w λe p=>e=.returned (.bool (Thk.seg s.data.toList))/\p=w:=by
 by_cases n:s.size<2\/5<s.size
 .have a:J<|Thk.seg s.data.toList=false:=Thk.vJ _ (by simpa using n);have l:(decide ((s.size:Int)<2)||decide (5<(s.size:Int)))=true:=Θ
  go_enter func108,ntmps108;go_wp2;all_goals
   go_ret;exact⟨bC a.o.symm,rfl⟩
 .have q:¬s.size<2:=V
  have r:¬5<s.size:=V
  go_enter func108,ntmps108;go_wp2
  go_loop [3] (λi=>∃k:Nat,1<=k/\k<=s.size/\i=I k/\∀j(h:j<s.data.toList.length),1<=j->j<k->Thk.isLow s.data.toList[j]=true) (λi=>s.size-(intOf i).toNat)
  case atStart=>exact⟨1,V,V,rfl,λj _ b g=>V⟩
  case round =>
   obtain⟨k,m,v,rfl,f⟩:=hrel;have d:=ω f;clear f;by_cases c:k<s.size
   .by_cases o:97<=(s[k].toNat:Int)/\(s[k].toNat:Int)<=122
    .obtain⟨t,u⟩:=o;go_wp2;all_goals
      go_round
      case rel =>
       refine⟨k+1,V,V,Λ,λj h b g=>?_⟩;by_cases e:j=k
       .subst e;rw[byte_at s j c];unfold Thk.isLow;simp;omega
       .exact d.o j h b V
      case measure=>simp[intOf];omega
    .have a:J<|Thk.seg s.data.toList=false:=Thk.Ic _ k (by simpa using c) m (by rw[byte_at s k c,Bool.eq_false_iff];unfold Thk.isLow;simp;omega);have l:(decide ((s[k].toNat:Int)<97)||decide (122<(s[k].toNat:Int)))=true:=Θ
     go_wp2;all_goals
      first
       | (go_ret;exact⟨bC a.o.symm,rfl⟩)
       | (exfalso;omega)
   .have a:J<|Thk.seg s.data.toList=Thk.isKind (s[0]'V):=by have h:=Thk.ae3 s.data.toList Θ Θ (λi h b=>d.o i h b (by simp at h;omega));exact h.trans (by rw[byte_at s 0 V])
    go_wp2;all_goals
     go_ret;refine⟨bC ?_,rfl⟩;rw[a.o,Bool.eq_iff_iff,NS];simp;try omega
def toList_eq(s:ByteArray):s.toList=s.data.toList:=ByteArray.toList_eq s
def extract_toList(s:ByteArray)(a b:Nat):(s.extract a b).toList=(s.data.toList.take b).drop a:=by rw[toList_eq];simp[ByteArray.data_extract,List.extract_eq_take_drop,List.drop_take]
def Vt(s p:ByteArray)(h:(s.toList==p.toList)=true):Thk.begins s.data.toList p.data.toList=true:=by rw[toList_eq,toList_eq]at h;unfold Thk.begins;rw[h];(first|done|rfl)
def Vu(s p:ByteArray)(a:(s.toList==p.toList)=false)(b:p.size<s.size)(c:(s.extract 0 p.size).toList=p.toList):Thk.begins s.data.toList p.data.toList=((s[p.size].toNat:Int)==47):=by
 rw[toList_eq,toList_eq]at a;rw[extract_toList,toList_eq]at c;unfold Thk.begins;have e:s.data.toList.take p.data.toList.length=p.data.toList:=by simpa using c
 have l:p.data.toList.length<s.data.toList.length:=by simpa using b
 rw[a,e,σ l,byte_at s _ (by simpa using b)];have d:decide (p.data.toList.length<s.data.toList.length)=true:=by simpa using l
 rw[d];simp;have:p.data.toList.length=p.size:=Ω
 rw[Bool.eq_iff_iff];simp;omega
def Vw(s p:ByteArray)(a:(s.toList==p.toList)=false)(c:p.size<s.size)(b:¬(s.extract 0 p.size).toList=p.toList):Thk.begins s.data.toList p.data.toList=false:=by
 rw[toList_eq,toList_eq]at a;rw[extract_toList,toList_eq]at b;unfold Thk.begins;have e:(s.data.toList.take p.data.toList.length==p.data.toList)=false:=by simpa using b
 rw[a,e];simp
def Vx(s p:ByteArray)(a:(s.toList==p.toList)=false)(b:¬p.size<s.size):Thk.begins s.data.toList p.data.toList=false:=by
 rw[toList_eq,toList_eq]at a;unfold Thk.begins;have c:decide (p.data.toList.length<s.data.toList.length)=false:=by simpa using b
 rw[a,c];simp
def BL(s p:ByteArray)(w:World)(c:s.size<=1048576)(b:p.size<=1048576):Calls prog 113 #[.string s,.string p] w λe a=>e=.returned (.bool (Thk.begins s.data.toList p.data.toList))/\a=w:=by
 go_enter func113,ntmps113;go_wp2
 .go_ret;rename_i h;exact⟨bC (Vt s p h).symm,rfl⟩
 .go_ret;rename_i h1 h2 h3;exact⟨bC (Vu s p h1 h2 h3).symm,rfl⟩
 .go_ret;rename_i h1 h2 h3;exact⟨bC (Vw s p h1 h2 h3).symm,rfl⟩
 .go_ret;rename_i h1 h2;exact⟨bC (Vx s p h1 h2).symm,rfl⟩
def eu(B:Nat)(w:World)(v:Value)(xs:List Value):Prop :=
 (v=.slice none 0 0/\xs=[]) \/
  ∃b off cap,v=.slice (some (O b off)) xs.length cap/\xs.length<=cap/\b<B/\∀j(h:j<xs.length),w.cell? (O b (off+j))=some xs[j]
def eu.mono{a:Nat}(h:eu B w v xs)(j:B<=a):eu a w v xs:=by
 rcases h with h|⟨b,g,c,d,e,i,f⟩
 .exact τ h
 .exact υ ⟨b,g,c,d,e,V,f⟩
def eu.below{d:World}(h:eu B w v xs)(k:Below B w d):eu B d v xs:=by
 rcases h with h|⟨b,c,e,f,g,a,i⟩
 .exact τ h
 .exact υ ⟨b,c,e,f,g,a,λj l=>(k.cell (p:=(O b (c+j))) a).trans (i j l)⟩
def bools(l:List Bool):List Value:=l.map Value.bool
def strs(l:List ByteArray):List Value:=l.map Value.string
def xI(l:List Nat):List Value:=l.map (λ(n:Nat)=>Value.int .i64 n)
def jq(a:UInt8):Bool:=a.toNat==43||a.toNat==94||a.toNat==61||a.toNat==62
def NT(p:ByteArray)(a:UInt8)(v:ByteArray)(n:Int)(b:Value)(w:World):Calls prog 109 #[.agg #[.string p,.int .u8 (a.toNat:Int),.string v,I n,b]] w λe w'=>e=.returned (.bool (jq a))/\ϒ w w':=by
 go_enter func109,ntmps109;go_wp2;all_goals
  go_ret;refine⟨bC ?_,(φ _ _).alloc (χ _) _⟩;unfold jq;rw[Bool.eq_iff_iff];simp;try omega
def NU(l:List Bool)(k:Nat)(h:k<(bools l).length):(bools l)[k]=.bool (l.getD k false):=by simp[bools,σ (show k<l.length by simpa[bools]using h)]
def yZ(B:Nat)(v:Value)(l:List Bool)(k:Nat)(w:World)(q:k<=1048576)(r:l.length<=1048576)(g:eu B w v (bools l)):Calls prog 110 #[v,I k] w λf i=>f=.returned (.bool (l.getD k false))/\i=w:=by
 rcases g with⟨rfl,c⟩|⟨e,h,j,rfl,o,n,a⟩
 .have:l=[]:=by simpa[bools]using c
  subst this;go_enter func110,ntmps110;go_wp2;go_ret;exact⟨Ω,rfl⟩
 .have b:(bools l).length=l.length:=by simp[bools]
  rw[b];by_cases m:k<l.length
  .have p:w.cell? (O e (h+k))=some (.bool (l.getD k false)):=by rw[a k V,NU]
   generalize c:l.getD k false=x at *;clear a c b;go_enter func110,ntmps110;go_wp2;go_ret;exact⟨rfl,rfl⟩
  .clear a;have d:l.getD k false=false:=by simp;rw[ϑq V];(first|done|rfl)
   rw[d];clear d b;go_enter func110,ntmps110;go_wp2;go_ret;exact⟨rfl,rfl⟩
def pI(dp:Thk.Bs)(da:UInt8)(dv:Thk.Bs)(ep:Thk.Bs)(ea:UInt8)(ev:Thk.Bs):Bool :=
 if(da.toNat:Int)=33 then Thk.begins ep dp
 else if dp≠ep then false
 else if(ea.toNat:Int)=43 then((da.toNat:Int)==43||(da.toNat:Int)==45)&&dv==ev
 else if(ea.toNat:Int)=94 then(da.toNat:Int)==94||(da.toNat:Int)==95
 else if(ea.toNat:Int)=61 then(da.toNat:Int)==61
 else false
def NV(a d b g:ByteArray)(c f:UInt8)(h i:Int)(ds j:Value)(w:World)(k:a.size<=1048576)(l:b.size<=1048576):Calls prog 111 #[.agg #[.string a,.int .u8 (c.toNat:Int),.string d,I h,ds],.agg #[.string b,.int .u8 (f.toNat:Int),.string g,I i,j]] w λe w'=>e=.returned (.bool (pI a.data.toList c d.data.toList b.data.toList f g.data.toList))/\ϒ w w':=by
 go_enter func111,ntmps111;go_wp2_with (go_at_call 113;refine(BL _ _ _ l k).mono ?_;rintro e w'⟨rfl,rfl⟩);all_goals
  go_ret;refine⟨bC ?_,((φ _ _).alloc (χ _) _).alloc Ω _⟩;simp only[toList_eq,Bool.not_eq_true',Bool.not_eq_false',ϑt,ό]at *;unfold pI;simp[*]
def Tryz.info9:(prog.info? 9).map (λi=>(i.zero,i.size,i.bytes))=some (some (.string ⟨#[]⟩),1,16):=by kernel_rfl
def ay(s:ByteArray):Thk.Bs:=s.data.toList
def fU(s:ByteArray)(a b:Nat):ay (s.extract a b)=((ay s).take b).drop a:=by have h:=extract_toList s a b;rw[toList_eq]at h;exact h
def grown_below{wr w1:World}{o:Obj}{e:TypeId}{size n:Nat}(a:Below B w wr)(b:B<=w.heap.size)(f:wr.ownsRow B e size v n xs)(c:(wr.alloc o).grownBy w1 v.ownBlock):Below B w w1 :=
 (a.alloc (ς b a.size) o).grown c (by have:=a.size;simp;omega) (λk d=>(f.lt k d).1)
def y9(s:ByteArray)(c:UInt8)(w:World)(N:s.size<=1048576):Calls prog 107 #[.string s,.int .u8 (c.toNat:Int)] w λi w' => ∃v a,i=.returned v/\w'.ownsRow w.heap.size 9 1 v a.length (strs a)/\a.map ay=Thk.split c (ay s)/\a.length<=s.size+1/\(∀p∈a,p.size<=s.size)/\ϒ w w':=by
 obtain⟨B,u,x,y,A⟩:=info_parts Tryz.info9;go_enter func107,ntmps107;go_wp2;go_loopw [5,6,7] (λv D t wr=>∃(k d:Nat)(a:List ByteArray),k<=s.size/\d<=k/\a.length<=k/\t=I k/\D=I d/\wr.ownsRow w.heap.size 9 1 v a.length (strs a)/\ϒ w wr /\
   J (Thk.split c (ay s)=a.map ay++Thk.bQ c (((ay s).take k).drop d) ((ay s).drop k))/\J (∀p∈a,p.size<=s.size)) (λ_ _ t _=>s.size-(intOf t).toNat)
 case atStart=>exact⟨0,0,[],V,V,Ω,rfl,rfl,ϑj _ _ _ _,φ _ _,by unfold J Thk.split;simp,by intro p b;simp at b⟩
 case round =>
  obtain⟨k,d,a,L,E,M,rfl,rfl,e,g,o,n⟩:=hrel;by_cases m:k<s.size
  .by_cases l:s[k]=c
   .have F:((s[k].toNat:Int)==(c.toNat:Int))=true:=by rw[l];simp
    go_wp2_with (at_builtin;refine wpList_append_own _ rfl _ _ 65 rfl w.heap.size 9 B (.string ⟨#[]⟩) 1 16 underlying65 u x y A rfl Ψ _ _ _ rfl (e.alloc _) (z wr.heap.size) 1 1 [.string (s.extract d k)] rfl rfl ?c1 ?c2 ?c3 ?c4 ?c5 ?_);case c1=>exact cell_one_new _ _ _
    case c2=>intro H h;simp at h;subst h;rfl
    case c3=>unfold maxLen;omega
    case c4=>omega
    case c5=>have:=g.size;simp;omega
    .intro C K r f _;have q:=grown_below g (χ _) e f;clear f e;go_wp2;go_roundw;case rel =>
      refine⟨k+1,k+1,a++[s.extract d k],V,V,Θ,Λ,Λ,by simpa[strs]using r,q, ?_, ?_⟩
      .have j:=Thk.EW c (ay s) (a.map ay) d k (by simpa[ay]using m) (by simp only[ay];rw[byte_at s k m];exact l) o.o;unfold J;rw[j,ϑF];simp[fU]
      .intro p b;rcases θ.1 b with b|b
       .exact n.o p b
       .simp at b;subst b;simp[ϑo];omega
     case measure=>simp[intOf];omega
   .have F:((s[k].toNat:Int)==(c.toNat:Int))=false:=by rw[ό];intro j;apply l;apply UInt8.toNat_inj.1;omega
    go_wp2;go_roundw;case rel =>exact⟨k+1,d,a,V,V,V,Λ,rfl,e,g,Thk.EU c (ay s) (a.map ay) d k (by simpa[ay]using m) E (by simp only[ay];rw[byte_at s k m];exact l) o.o,n⟩
    case measure=>simp[intOf];omega
  .have G:k=s.size:=V
   subst G;go_wp2_with (at_builtin;refine wpList_append_own _ rfl _ _ 65 rfl w.heap.size 9 B (.string ⟨#[]⟩) 1 16 underlying65 u x y A rfl Ψ _ _ _ rfl (e.alloc _) (z wr.heap.size) 1 1 [.string (s.extract d s.size)] rfl rfl ?d1 ?d2 ?d3 ?d4 ?d5 ?_);case d1=>exact cell_one_new _ _ _
   case d2=>intro H h;simp at h;subst h;rfl
   case d3=>unfold maxLen;omega
   case d4=>omega
   case d5=>have:=g.size;simp;omega
   .intro C K r f _;have q:=grown_below g (χ _) e f;clear f e;go_wp2;go_ret;refine⟨C,a++[s.extract d s.size],rfl,by simpa[strs]using r, ?_,Θ, ?_,q⟩
    .have i:(ay s).length=s.size:=by simp[ay]
     have j:=Thk.RU c (ay s) (a.map ay) d (by rw[i];exact o.o);rw[j,ϑF,List.map_cons,List.map_nil,fU,<- i,ϑm]
    .intro p b;rcases θ.1 b with b|b
     .exact n.o p b
     .simp at b;subst b;simp[ϑo]
end
namespace Thk
open Go.Proofs.Tryz
def lY(ps:List Bs):Bool:=decide (ps.length<=3)&&ps.all seg&&ps.dropLast.all (λp=>p.head?==some 109)
def path(l:Bs):Bool:=lY (split 47 l)
def kindOf(l:Bs):UInt8:=(((split 47 l).getLast?.getD []).head?).getD 0
def AZ(c:UInt8):∀(a l:Bs),bQ c a l≠[]:=by
 intro a l;induction l generalizing a with
 | nil=>simp[bQ]
 | cons x r b=>unfold bQ;split<;>simp[b]
def kC(c:UInt8)(l:Bs):split c l≠[]:=AZ c [] l
def qH(a:List Bs)(j:Nat)(h:j<a.length)(b:seg a[j]=false):lY a=false:=by
 have:a.all seg=false:=by rw[List.all_eq_false];exact⟨a[j],κ _,by simp[b]⟩
 unfold lY;rw[this];simp
def qI(a:List Bs)(j:Nat)(h:j+1<a.length)(b:(a[j].head?==some 109)=false):lY a=false:=by
 have:a.dropLast.all (λp=>p.head?==some 109)=false:=by rw[List.all_eq_false];refine⟨a[j], ?_,by rw[b];simp⟩;have e:a.dropLast[j]'Θ=a[j]:=List.getElem_dropLast _;rw[<- e];exact κ _
 unfold lY;rw[this];simp
def JM(a:List Bs)(f:∀j(h:j<a.length),seg a[j]=true)(g:∀j(h:j<a.length),j+1<a.length->a[j].head? = some 109):lY a=decide (a.length<=3):=by
 have d:a.all seg=true:=by rw[List.all_eq_true];intro x c;obtain⟨i,b,rfl⟩:=ϑd c;exact f i b
 have e:a.dropLast.all (λp=>p.head?==some 109)=true:=by rw[List.all_eq_true];intro x c;obtain⟨i,b,rfl⟩:=ϑd c;rw[List.getElem_dropLast];simp at b;rw[g i V V];(first|done|rfl)
 unfold lY;rw[d,e];simp
def Ig(l:Bs)(h:seg l=true):2<=l.length:=by unfold seg at h;simp at h;omega
def FN(l:Bs)(h:path l=true):∃(b:0<(split 47 l).length),2<=((split 47 l)[(split 47 l).length-1]'V).length/\(((split 47 l)[(split 47 l).length-1]'V)[0]?)=some (kindOf l):=by
 have b:=List.length_pos_iff.2 (kC 47 l);refine⟨b, ?_⟩;have c:seg ((split 47 l)[(split 47 l).length-1]'V)=true:=by unfold path lY at h;simp only[γ]at h;exact List.all_eq_true.1 h.1.2 _ (κ _)
 have a:=Ig _ c;refine⟨a, ?_⟩;have e:(split 47 l).getLast? = some ((split 47 l)[(split 47 l).length-1]'V):=by rw[List.getLast?_eq_getElem?,σ]
 unfold kindOf;rw[e];generalize (split 47 l)[(split 47 l).length-1]'V=q at *;cases q with
 | nil=>simp at a
 | cons d r=>rfl
def xE(c:UInt8):Nat:=c.toNat-48
def fE(l:Bs):Nat:=l.foldl (λn c=>10*n+xE c) 0
def lT(neg:Bool)(l:Bs):Bool:=decide (l.length<1)||decide (10<l.length)||(l.head?==some 48&&(decide (1<l.length)||neg))
def ig(neg:Bool)(l:Bs):Option Int :=
 if lT neg l then none else if l.all dR&&decide (fE l<=1000000000)then some (if neg then -(fE l:Int) else(fE l:Int))else none
def num(l:Bs):Option Int:=if l.head? = some 45 then ig true l.tail else ig false l
def oO(l:Bs)(c:UInt8):fE (l++[c])=10*fE l+xE c:=by unfold fE;simp
def Ih(l:Bs)(h:l.all dR=true):fE l<10 ^ l.length:=by
 have key:∀(r:Bs),r.all dR=true->∀n m:Nat,n<10 ^ m->r.foldl (λn c=>10*n+xE c) n<10 ^ (m+r.length):=by
  intro r;induction r with
  | nil=>intro _ n m h;simpa using h
  | cons x r ih =>
   intro a n m b;simp only[List.all_cons,γ]at a;have d:xE x<=9:=by have:=a.1;unfold dR at this;unfold xE;simp at this;omega
   have:=ih a.2 (10*n+xE x) (m+1) (by rw[Nat.pow_succ];omega);simp only[List.foldl_cons,δ];rw[(V:m+(r.length+1)=m+1+r.length)];exact this
 have:=key l h 0 0 Ω;simpa[fE]using this
end Thk
section
open Go.Proofs.Tryz Go.RowKit
def uJ{w:World}{B:Nat}{e:TypeId}{v:Value}{n:Nat}{xs:List Value}(h:w.ownsRow B e 1 v n xs):(v=.slice none 0 0/\n=0/\xs=[])\/∃g a,v=.slice (some (z g)) n a/\n<=a/\a<=maxLen/\B<=g/\g<w.heap.size/\xs.length=n/\∀j(h:j<xs.length),w.cell? (O g j)=some xs[j]:=by
 have b:=h;obtain⟨i,h|⟨g,a,l,rfl,d,m,c,k,o,p⟩⟩:=h
 .exact τ ⟨h.1,h.2,ϑr (by rw[i,h.2])⟩
 .refine υ ⟨g,a,rfl,c,k,d,(b.lt g rfl).2,V,λj f=>?_⟩;rw[b.cellAt j V,σ f]
def FP{w:World}{B:Nat}{e:TypeId}{v:Value}{n:Nat}{xs:List Value}(h:w.ownsRow B e 1 v n xs):eu w.heap.size w v xs:=by
 rcases uJ h with⟨a,d,b⟩|⟨g,c,a,d,b,m,f,i,j⟩
 .exact τ ⟨a,b⟩
 .refine υ ⟨g,0,c,by rw[i];exact a,V,f,λl k=>?_⟩;rw[Nat.zero_add];exact j l k
def Ii{k:IntKind}{a b:Int}(h:a=b):Ending.returned (.int k a)=.returned (.int k b):=by rw[h]
def aB(s:ByteArray):(ay s).length=s.size:=by simp[ay]
def JO(s:ByteArray)(w:World)(y:s.size<=1048576)(n:Thk.path (ay s)=true):Calls prog 112 #[.string s] w λi w'=>i=.returned (.int .u8 ((Thk.kindOf (ay s)).toNat:Int))/\ϒ w w':=by
 obtain⟨x,c,b⟩:=Thk.FN _ n;have d:=x;have h:J<|_:=c;have g:J<|_:=b;clear c b n;go_enter func112,ntmps112;go_wp2_with fail;refine(y9 s 47 _ y).mono ?_;rintro i P⟨v,a,rfl,m,e,H,o,r⟩;rcases uJ m with⟨rfl,c,C⟩|⟨B,A,rfl,D,E,F,G,N,j⟩
 .exfalso;rw[<- e]at d;simp at d;omega
 .have L:0<a.length:=by rw[<- e]at d;simpa using d
  have l:=j (a.length-1) (by simp[strs];omega);have k:(strs a)[a.length-1]'(by simp[strs];omega)=.string (a[a.length-1]'V):=by simp[strs]
  rw[k]at l;have u:(a[a.length-1]'V).size<=s.size:=o _ (κ _);obtain⟨q,f⟩:∃q,q=a[a.length-1]'V:=⟨_,rfl⟩;rw[<- f]at l u;have p:(Thk.split 47 (ay s))[(Thk.split 47 (ay s)).length-1]'V=ay q:=by rw[f];simp only[<- e,ϑI,ϑh]
  have c:=h.o;have b:=g.o;rw[p]at c b;have M:2<=q.size:=by rw[aB]at c;exact c
  have t:J<|q[0].toNat=(Thk.kindOf (ay s)).toNat:=by rw[σ V]at b;simp only[ϑb]at b;have:=byte_at q 0 V;unfold J;rw[<- b,<- this];(first|done|rfl)
  have K:a.length<=1048577:=V
  clear p c b h g j k f e o m;go_wp2;go_ret;exact⟨Ii (congrArg Nat.cast t.o),r⟩
def oP(q:ByteArray)(h:0<q.size):(ay q).head? = some q[0]:=by have:=byte_at q 0 h;rw[List.head?_eq_getElem?,σ (by simpa[ay]using h)];simp only[ay,ϑb];exact this
def JQ(s:ByteArray)(w:World)(M:s.size<=1048576):Calls prog 60 #[.string s] w λe w'=>e=.returned (.bool (Thk.path (ay s)))/\ϒ w w':=by
 go_enter func60,ntmps60;go_wp2_with fail;refine(y9 s 47 _ M).mono ?_;rintro e N⟨v,a,rfl,D,x,Y,E,t⟩;rcases uJ D with⟨rfl,f,Q⟩|⟨K,P,rfl,R,T,U,W,a1,B⟩
 .exfalso;have:=Thk.kC 47 (ay s);rw[<- x]at this;simp at this;apply this;apply ϑr f
 .have n:J<|Thk.path (ay s)=Thk.lY (a.map ay):=by unfold J Thk.path;rw[x]
  have G:J<|∀j(h:j<a.length),N.cell? (O K j)=some (.string a[j]):=by intro j h;rw[B j (by simpa[strs]using h)];simp[strs]
  have F:=ω E;clear B x E D;go_wp2
  go_loop [4] (λy=>∃k:Nat,k<=a.length/\y=I k/\J (∀j(h:j<a.length),j<k->Thk.seg (ay a[j])=true/\(j+1<a.length->(ay a[j]).head? = some 109))) (λy=>a.length-(intOf y).toNat)
  case atStart=>exact⟨0,V,rfl,λj _ H=>V⟩
  case round =>
   obtain⟨k,X,rfl,g⟩:=hrel;by_cases u:k<a.length
   .have S:=G.o k u;have a0:=F.o _ (κ u);have o:J<|Thk.seg (ay a[k])=true->(k+1<a.length->(ay a[k]).head? = some 109)->∀j(h:j<a.length),j<k+1->Thk.seg (ay a[j])=true/\(j+1<a.length->(ay a[j]).head? = some 109):=by
     intro r f j h H;by_cases e:j=k
     .subst e;exact⟨r,f⟩
     .exact g.o j h V
    have p:J<|Thk.seg (ay a[k])=false->Thk.lY (a.map ay)=false:=λh=>Thk.qH _ k (by simpa using u) (by simpa using h);have c:J<|k+1<a.length->((ay a[k]).head?==some 109)=false->Thk.lY (a.map ay)=false:=λr h=>Thk.qI _ k (by simpa using r) (by simpa using h);clear g;generalize a[k]=q at *;cases hseg:Thk.seg (ay q)
    .have i:=ω<|n.o.trans (p.o hseg)
     have m:J<|Thk.seg q.data.toList=false:=hseg;clear hseg o p c;go_wp2_with (go_at_call 108;refine(nX q _ V).mono ?_;rintro e w'⟨rfl,rfl⟩;rw[m.o]);go_ret;exact⟨bC i.o.symm,t⟩
    .have Z:2<=q.size:=by have:=Thk.Ig _ hseg;rwa [aB]at this
     have m:J<|Thk.seg q.data.toList=true:=hseg;have d:J<|_:=o.o hseg;clear hseg o p;have l:=oP q V;by_cases C:k+1<a.length
     .by_cases b:q[0]=109
      .have A:J<|_:=d.o (λ_=>by rw[l,b]);have L:((q[0].toNat:Int) !=109)=false:=by rw[b];(first|done|rfl)
       clear c d l b;go_wp2_with (go_at_call 108;refine(nX q _ V).mono ?_;rintro e w'⟨rfl,rfl⟩;rw[m.o])
       go_round
       case rel=>exact⟨k+1,V,Λ,A⟩
       case measure=>simp[intOf];omega
      .have i:J<|Thk.path (ay s)=false:=n.o.trans (c.o C (by rw[l];simpa using b));have L:((q[0].toNat:Int) !=109)=true:=by rw[ϑv];intro h;apply b;apply UInt8.toNat_inj.1;have:(109:UInt8).toNat=109:=rfl;omega
       clear c d l b;go_wp2_with (go_at_call 108;refine(nX q _ V).mono ?_;rintro e w'⟨rfl,rfl⟩;rw[m.o]);go_ret;exact⟨bC i.o.symm,t⟩
     .have A:J<|_:=d.o (λh=>absurd h C);clear c d l;go_wp2_with (go_at_call 108;refine(nX q _ V).mono ?_;rintro e w'⟨rfl,rfl⟩;rw[m.o])
      go_round
      case rel=>exact⟨k+1,V,Λ,A⟩
      case measure=>simp[intOf];omega
   .have i:J<|Thk.path (ay s)=decide (a.length<=3):=by
     refine n.o.trans ((Thk.JM _ (λj h=>?_) (λj h f=>?_)).trans Ω)
     .simp only[ϑI];exact(g.o j (by simpa using h) (by simp at h;omega)).1
     .simp only[ϑI];exact(g.o j (by simpa using h) (by simp at h;omega)).2 (by simpa using f)
    clear g;go_wp2;go_ret;exact⟨bC (by rw[i.o];rw[Bool.eq_iff_iff];simp;omega),t⟩
end
namespace Thk
open Go.Proofs.Tryz
def qY:Bs->Bs->Bool
 | [],[]=>false
 | [],_::_=>true
 | _::_,[]=>false
 | a::l,b::m=>decide (a.toNat<b.toNat)||(a==b&&qY l m)
def ins(l:List Bs)(s:Bs):List Bs:=match l with
 | []=>[s]
 | x::r=>if s=x then x::r else if qY s x then s::x::r else x::ins r s
def bJ(s:Bs)(p:List Bs×Bool)(x:Bs):List Bs×Bool :=
 ((if x≠s then(if p.2=false/\(qY s x||s==x)=true then p.1++[s]else p.1)++[x] else(if p.2=false/\(qY s x||s==x)=true then p.1++[s]else p.1)),p.2||(qY s x||s==x))
def lZ(l:List Bs)(s:Bs):List Bs:=let p:=l.foldl (bJ s) ([],false);if p.2 then p.1 else p.1++[s]
def QC(acc:Bs):List Bs->Bs
 | []=>acc
 | x::r=>QC (acc++[44]++x) r
def joined:List Bs->Bs
 | []=>[]
 | x::r=>QC x r
def kD(l:List Bs):Nat->Bs
 | 0=>[]
 | k+1=>(if k=0 then kD l k else kD l k++[44])++l.getD k []
def wF(n:Nat):Bs:=if h:n<10 then [UInt8.ofNat (48+n)]else wF (n / 10)++[UInt8.ofNat (48+n % 10)]
def digits(n:Int):Bs:=if n<0 then 45::wF n.natAbs else wF n.natAbs
def NW(n:Nat)(h:n<10):wF n=[UInt8.ofNat (48+n)]:=by rw[wF,dif_pos h]
def Vz(n:Nat)(h:¬n<10):wF n=wF (n / 10)++[UInt8.ofNat (48+n % 10)]:=by rw[wF,dif_neg h]
def upper(m:Nat):Bs:=if m<10 then []else wF (m / 10)
def BO(m:Nat):wF m=upper m++[UInt8.ofNat (48+m % 10)]:=by
 unfold upper;by_cases h:m<10
 .rw[ώ h,NW m h,Nat.mod_eq_of_lt h];(first|done|rfl)
 .rw[ύ h,Vz m h]
def NY(m:Nat)(h:¬m<10):upper m=upper (m / 10)++[UInt8.ofNat (48+m / 10 % 10)]:=by
 conv=>lhs;unfold upper
 rw[ύ h,BO]
end Thk
section
open Go.Proofs.Tryz Go.RowKit
def kR(a b:ByteArray):ay (a++b)=ay a++ay b:=by simp[ay]
def nY{a b:ByteArray}(h:ay a=ay b):a=b:=by cases a with|mk a=>cases b with|mk b=>congr 1;exact Array.toList_inj.1 h
def NZ(B:Nat)(v:Value)(a:List ByteArray)(w:World)(P:a.length<=1048576)(m:∀s∈a,s.size<=1000)(E:eu B w v (strs a)):Calls prog 116 #[v] w λx H=>∃t,x=.returned (.string t)/\ay t=Thk.kD (a.map ay) a.length/\t.size<=1001*a.length/\H=w:=by
 rcases E with⟨rfl,F⟩|⟨r,G,K,rfl,A,M,g⟩
 .have:a=[]:=by simpa[strs]using F
  subst this;go_enter func116,ntmps116;go_wp2
  go_rounds 1
  go_ret;exact⟨ByteArray.empty,rfl,rfl,Ω,rfl⟩
 .have h:(strs a).length=a.length:=by simp[strs]
  rw[h]at A⊢;have n:J<|∀j(y:j<a.length),w.cell? (O r (G+j))=some (.string a[j]):=by intro j y;rw[g j V];simp[strs]
  have p:J<|_:=m;clear g h m;go_enter func116,ntmps116;go_wp2
  go_loop [3,4] (λt i=>∃(k:Nat)(u:ByteArray),k<=a.length/\i=I k/\t=.string u/\J (ay u=Thk.kD (a.map ay) k)/\u.size<=1001*k) (λ_ i=>a.length-(intOf i).toNat)
  case atStart=>exact⟨0,ByteArray.empty,V,rfl,rfl,rfl,Ω⟩
  case round =>
   obtain⟨k,u,N,rfl,rfl,b,D⟩:=hrel;by_cases e:k<a.length
   .have C:=n.o k e;have Q:=p.o _ (κ e);have c:J<|(a.map ay).getD k []=ay a[k]:=ω<|by rw[ξ,σ (by simpa using e)];simp
    generalize a[k]=q at *;by_cases f:k=0
    .subst f;rw[Nat.add_zero]at C;have d:J<|ay (u++q)=Thk.kD (a.map ay) 1:=ω<|by rw[kR,b.o];simp only[Thk.kD];rw[ώ trivial,c.o]
     clear c b;go_wp2
     go_round
     case rel=>exact⟨1,u++q,V,Λ,rfl,d,Θ⟩
     case measure=>simp[intOf];omega
    .have L:0<k:=V
     have d:J<|ay (u++⟨#[44]⟩++q)=Thk.kD (a.map ay) (k+1):=ω<|by rw[kR,kR,b.o];simp only[Thk.kD];rw[ύ f,c.o];(first|done|rfl)
     have l:(u++⟨#[44]⟩++q).size<=1001*(k+1):=by rw[ByteArray.size_append,ByteArray.size_append];have:(ByteArray.mk #[44]).size=1:=rfl;omega
     have o:J<|_:=l;clear c b l;go_wp2
     go_round
     case rel=>exact⟨k+1,u++⟨#[44]⟩++q,V,Λ,rfl,d,o.o⟩
     case measure=>simp[intOf];omega
   .go_wp2;go_ret;have:k=a.length:=V
    subst this;exact⟨u,rfl,b.o,D,rfl⟩
def VA(wx:World)(x:Int):(convert 190 9 (.slice (some (z wx.heap.size)) 1 1)).run prog (wx.alloc (.cells #[.int .u8 x] 5))=.ok (.string (strOfNums [x])) (wx.alloc (.cells #[.int .u8 x] 5)):=by
 refine run_convert_bytes_arg (P:=prog) _ 190 5 underlying190 underlying5 wx.heap.size 0 1 1 [x] rfl ?_ 9 underlying9;intro i a;have:i=0:=V
 subst this;simp
def vK(x:Int):ay (strOfNums [x])=[UInt8.ofNat x.toNat]:=rfl
def BP(n:Nat)(w:World)(o:n<=10000000000000000):Calls prog 115 #[I n] w λl w'=>∃t,l=.returned (.string t)/\ay t=Thk.wF n/\t.size<=100/\ϒ w w':=by
 have q:=VA;go_enter func115,ntmps115;go_wp2;go_loopw [0,3] (λm s wr=>∃(k:Nat)(t:ByteArray)(j:Nat),m=I k/\s=.string t/\k<=10000000000000000/\t.size+j<=18/\J (Thk.wF n=Thk.upper k++ay t)/\J (k<10 ^ j)/\ϒ w wr) (λm _ _=>(intOf m).toNat);case atStart =>
  refine⟨n,strOfNums [48+(n:Int) % 10],17,rfl,rfl,o,by simp[strOfNums_size], ?_, ?_,Γ⟩
  .unfold J;rw[vK,Thk.BO];congr 3
  .unfold J;omega
 case round =>
  obtain⟨k,t,j,rfl,rfl,u,r,a,c,b⟩:=hrel;by_cases e:k<10
  .go_wp2;go_ret;refine⟨t,rfl, ?_,V,b⟩;rw[a.o];unfold Thk.upper;rw[ώ e];(first|done|rfl)
  .have p:(strOfNums [48+(k:Int) / 10 % 10]).size=1:=strOfNums_size _;have g:J<|Thk.wF n=Thk.upper (k / 10)++ay (strOfNums [48+(k:Int) / 10 % 10]++t):=ω<|by rw[kR,vK,a.o,Thk.NY k e,ϑl];congr 3
   have d:J<|k / 10<10 ^ (j-1)/\1<=j:=by
    have h:=c.o;cases j with
    | zero=>simp at h;omega
    | succ j=>rw[Nat.pow_succ]at h;exact⟨Θ,V⟩
   have f:(strOfNums [48+(k:Int) / 10 % 10]++t).size=1+t.size:=by rw[ByteArray.size_append,p]
   have i:J<|_:=f;clear f a c;go_wp2;go_roundw;case rel=>exact⟨k / 10,strOfNums [48+(k:Int) / 10 % 10]++t,j-1,Λ,rfl,V,by rw[i.o];have:=d.o.2;omega,g,d.o.1,b.alloc b.size _⟩
   case measure=>simp[intOf];omega
def N7(n:Int)(w:World)(j:n.natAbs<=10000000000000000):Calls prog 115 #[I n] w λe w'=>∃t,e=.returned (.string t)/\ay t=Thk.digits n/\t.size<=200/\ϒ w w':=by
 by_cases h:n<0
 .obtain⟨m,c⟩:∃m:Nat,n = -(m:Int)/\0<m:=⟨n.natAbs,V,V⟩;obtain⟨rfl,i⟩:=c;have d:m<=10000000000000000:=V
  have g:(-(m:Int)==(m:Int))=false:=by rw[ό];omega
  go_enter func115,ntmps115;go_wp2_with (go_at_call 115;refine(BP m _ d).mono ?_;rintro e w'⟨t,rfl,b,f,a⟩);go_ret;refine⟨⟨#[45]⟩++t,rfl, ?_, ?_,a⟩
  .rw[kR,b];unfold Thk.digits;rw[ώ h];simp[ay]
  .rw[ByteArray.size_append];have:(ByteArray.mk #[45]).size=1:=rfl;omega
 .obtain⟨m,rfl⟩:=Int.eq_ofNat_of_zero_le (V:0<=n);refine(BP m w V).mono ?_;rintro e w'⟨t,rfl,b,f,a⟩;exact⟨t,rfl,by rw[b];unfold Thk.digits;rw[ύ h];simp,V,a⟩
def cnt(l:List Bool):Nat:=(l.filter id).length
def cnt_le(l:List Bool):cnt l<=l.length:=List.length_filter_le _ _
def VB(l:List Bool)(b:Bool):cnt (l++[b])=cnt l+if b then 1 else 0:=by unfold cnt;rw[ϑH];cases b<;>simp
def take_snoc{a:Type}(l:List a)(k:Nat)(h:k<l.length):l.take (k+1)=l.take k++[l[k]]:=ν h
def oQ(B:Nat)(v:Value)(l:List Bool)(w:World)(C:l.length<=1048576)(m:eu B w v (bools l)):Calls prog 25 #[v] w λf q=>f=.returned (I (cnt l))/\q=w:=by
 rcases m with⟨rfl,n⟩|⟨e,p,s,rfl,g,t,a⟩
 .have:l=[]:=by simpa[bools]using n
  subst this;go_enter func25,ntmps25;go_wp2
  go_rounds 1
  go_ret;exact⟨rfl,rfl⟩
 .have b:(bools l).length=l.length:=by simp[bools]
  rw[b]at g⊢;have d:J<|∀j(h:j<l.length),w.cell? (O e (p+j))=some (.bool l[j]):=by intro j h;rw[a j V];simp[bools]
  clear a b;go_enter func25,ntmps25;go_wp2
  go_loop [3,4] (λo i=>∃(k:Nat),k<=l.length/\i=I k/\o=I (cnt (l.take k))) (λ_ i=>l.length-(intOf i).toNat)
  case atStart=>exact⟨0,V,rfl,rfl⟩
  case round =>
   obtain⟨k,A,rfl,rfl⟩:=hrel;have y:=cnt_le (l.take k);have r:(l.take k).length<=k:=List.length_take_le _ _;by_cases c:k<l.length
   .have u:=d.o k c;have Hs:J<|cnt (l.take (k+1))=cnt (l.take k)+if l[k]then 1 else 0:=ω<|by rw[take_snoc l k c,VB]
    generalize l[k]=x at *;generalize cnt (l.take k)=D at *;cases x
    .go_wp2
     go_round
     case rel=>exact⟨k+1,V,Λ,by rw[Hs.o];rfl⟩
     case measure=>simp[intOf];omega
    .go_wp2
     go_round
     case rel=>exact⟨k+1,V,Λ,by rw[Hs.o];rfl⟩
     case measure=>simp[intOf];omega
   .go_wp2;go_ret;exact⟨Ii (by rw[ϑg V]),rfl⟩
def bJ(s:Thk.Bs)(p:List Thk.Bs×Bool)(x:Thk.Bs):List Thk.Bs×Bool :=
 ((if p.2=false/\(Op.bytesLess s x||s==x)=true then p.1++[s]else p.1)++(if x=s then []else [x]),p.2||(Op.bytesLess s x||s==x))
def lZ(l:List Thk.Bs)(s:Thk.Bs):List Thk.Bs:=if(l.foldl (bJ s) ([],false)).2 then(l.foldl (bJ s) ([],false)).1 else(l.foldl (bJ s) ([],false)).1++[s]
def FQ{c a:Type}(f:a->c->a)(b:a)(l:List c)(k:Nat)(h:k<l.length):(l.take (k+1)).foldl f b=f ((l.take k).foldl f b) l[k]:=by rw[ν h,List.foldl_append];(first|done|rfl)
def JR(B:Nat)(v:Value)(a:List ByteArray)(s:ByteArray)(w:World)(hl:a.length<=1048576)(hv:eu B w v (strs a))(hB:B<=w.heap.size):Calls prog 114 #[v,.string s] w λe w'=>∃v' P,e=.returned v'/\w'.ownsRow w.heap.size 9 1 v' P.length (strs P)/\P.map ay=lZ (a.map ay) (ay s)/\(∀x∈P,x∈a\/x=s)/\P.length<=a.length+1/\ϒ w w':=by
 obtain⟨F,y,C,D,E⟩:=info_parts Tryz.info9;rcases hv with⟨rfl,i⟩|⟨R,Y,a7,rfl,a4,hb,hc⟩
 .have:a=[]:=by simpa[strs]using i
  subst this;go_enter func114,ntmps114;go_wp2;refine wp_loop_rounds 1 ?_;rw[rounds_succ];go_wp2_with (at_builtin;refine wpList_append_own _ rfl _ _ 65 rfl w.heap.size 9 F (.string ⟨#[]⟩) 1 16 underlying65 y C D E rfl Ψ (.slice none 0 0) 0 [] rfl (ϑj _ _ _ _) (z w.heap.size) 1 1 [.string s] rfl rfl (cell_one_new _ _ _) (by intro L c;simp at c;subst c;rfl) (by unfold maxLen;omega) V Ω ?_;intro Z U H u _);go_ret;refine⟨Z,rfl,[s],by simpa[strs]using H,rfl,Ω,Ω, ?_⟩;exact((φ _ _).alloc (χ _) _).grown u Ω (λk hk=>by simp[Value.ownBlock]at hk)
 .have a0:(strs a).length=a.length:=by simp[strs]
  rw[a0]at a4⊢;have G:J<|∀(wr:World),ϒ w wr->∀K(h:K<a.length),wr.cell? (O R (Y+K))=some (.string a[K]):=by intro wr a1 K h;rw[a1.cell (p:=(O R (Y+K))) (V:R<_),hc K V];simp[strs]
  clear hc a0;go_enter func114,ntmps114;go_wp2;go_loopw [5,6,7] (λo d X wr=>∃(k:Nat)(b:List ByteArray)(n:Bool),k<=a.length/\X=I k/\d=.bool n/\wr.ownsRow w.heap.size 9 1 o b.length (strs b)/\ϒ w wr/\b.length<=k+(if n then 1 else 0) /\
    J ((b.map ay,n)=((a.map ay).take k).foldl (bJ (ay s)) ([],false))/\J (∀x∈b,x∈a\/x=s)) (λ_ _ X _=>a.length-(intOf X).toNat)
  case atStart=>exact⟨0,[],false,V,rfl,rfl,ϑj _ _ _ _,φ _ _,Ω,by simp[J],by simp[J]⟩
  case round =>
   obtain⟨k,b,n,hk,rfl,rfl,f,a9,S,Q,r⟩:=hrel;by_cases q:k<a.length
   .have a8:=G.o wr a9 k q;have a6:=λo=>G.o _ (a9.alloc a9.size o) k q;have W:=ω<|κ q
    have M:J<|((a.map ay).take (k+1)).foldl (bJ (ay s)) ([],false)=bJ (ay s) (b.map ay,n) (ay a[k]):=ω<|by rw[FQ _ _ _ k (by simpa using q),<- Q.o];simp
    clear Q;cases n
    .simp only[ϑB,if_false,Nat.add_zero]at S;cases hle:(Op.bytesLess s.toList a[k].toList||s.toList==a[k].toList)
     .have aa:(a[k].toList==s.toList)=false:=by rw[Bool.or_eq_false_iff]at hle;have:=hle.2;rw[ό]at this⊢;exact λh=>this h.symm
      have l:J<|bJ (ay s) (b.map ay,false) (ay a[k])=((b++[a[k]]).map ay,false):=by
       have N:(Op.bytesLess (ay s) (ay a[k])||ay s==ay a[k])=false:=by simpa[toList_eq,ay]using hle
       have m:¬ay a[k]=ay s:=by rw[ό,toList_eq,toList_eq]at aa;exact aa
       unfold J bJ;rw[N,ύ Ω,ύ m];simp
      go_wp2_with (at_builtin;refine wpList_append_own _ rfl (.tmp 34) (.tmp 39) 65 rfl w.heap.size 9 F (.string ⟨#[]⟩) 1 16 underlying65 y C D E rfl Ψ _ _ _ rfl (f.alloc _) (z wr.heap.size) 1 1 [.string a[k]] rfl rfl (cell_one_new _ _ _) (by intro L c;simp at c;subst c;rfl) (by unfold maxLen;omega) V (by have:=a9.size;simp;omega) ?_;intro T w2 A g _;have t:=grown_below a9 (χ _) f g;clear g);go_roundw;case rel=>exact⟨k+1,b++[a[k]],false,V,Λ,rfl,by simpa[strs]using A,t,Θ,by unfold J;rw[M.o,l.o],by
       intro x i;rcases θ.1 i with h|h
       .exact r.o x h
       .simp at h;subst h;exact τ W.o⟩
      case measure=>simp[intOf];omega
     .cases aa:(a[k].toList==s.toList)
      .have l:J<|bJ (ay s) (b.map ay,false) (ay a[k])=((b++[s]++[a[k]]).map ay,true):=by
        have N:(Op.bytesLess (ay s) (ay a[k])||ay s==ay a[k])=true:=by simpa[toList_eq,ay]using hle
        have m:¬ay a[k]=ay s:=by rw[ό,toList_eq,toList_eq]at aa;exact aa
        unfold J bJ;rw[N,ώ Ω,ύ m];simp
       go_wp2_with (first|(at_builtin;refine wpList_append_own _ rfl (.tmp 24) (.tmp 26) 65 rfl w.heap.size 9 F (.string ⟨#[]⟩) 1 16 underlying65 y C D E rfl Ψ _ _ _ rfl (f.alloc _) (z wr.heap.size) 1 1 [.string s] rfl rfl (cell_one_new _ _ _) (by intro L c;simp at c;subst c;rfl) (by unfold maxLen;omega) V (by have:=a9.size;simp;omega) ?_;intro Z U H u _;have j:=grown_below a9 (χ _) f u;have a3:=G.o _ (j) k q;have a2:∀o,(U.alloc o).cell? (O R (Y+k))=some (.string a[k]):=λo=>G.o _ (j.alloc j.size o) k q;clear u)|(at_builtin;refine wpList_append_own _ rfl (.tmp 34) (.tmp 39) 65 rfl w.heap.size 9 F (.string ⟨#[]⟩) 1 16 underlying65 y C D E rfl Ψ _ _ _ rfl (H.alloc _) (z U.heap.size) 1 1 [.string a[k]] rfl rfl (cell_one_new _ _ _) (by intro L c;simp at c;subst c;rfl) (by unfold maxLen;omega) V (by have:=j.size;simp;omega) ?_;intro T w2 A g _;have t:=grown_below j (χ _) H g;clear g));go_roundw;case rel=>exact⟨k+1,b++[s]++[a[k]],true,V,Λ,rfl,by simpa[strs]using A,t,Θ,by unfold J;rw[M.o,l.o],by
        intro x i;rcases θ.1 i with h|h
        .rcases θ.1 h with h|h
         .exact r.o x h
         .simp at h;exact υ h
        .simp at h;subst h;exact τ W.o⟩
       case measure=>simp[intOf];omega
      .have l:J<|bJ (ay s) (b.map ay,false) (ay a[k])=((b++[s]).map ay,true):=by
        have N:(Op.bytesLess (ay s) (ay a[k])||ay s==ay a[k])=true:=by simpa[toList_eq,ay]using hle
        have m:ay a[k]=ay s:=by rw[ϑt,toList_eq,toList_eq]at aa;exact aa
        unfold J bJ;rw[N,ώ Ω,ώ m];simp
       go_wp2_with (at_builtin;refine wpList_append_own _ rfl (.tmp 24) (.tmp 26) 65 rfl w.heap.size 9 F (.string ⟨#[]⟩) 1 16 underlying65 y C D E rfl Ψ _ _ _ rfl (f.alloc _) (z wr.heap.size) 1 1 [.string s] rfl rfl (cell_one_new _ _ _) (by intro L c;simp at c;subst c;rfl) (by unfold maxLen;omega) V (by have:=a9.size;simp;omega) ?_;intro Z U H u _;have j:=grown_below a9 (χ _) f u;have a3:=G.o _ (j) k q;have a2:=λo=>G.o _ (j.alloc j.size o) k q;clear u);go_roundw;case rel=>exact⟨k+1,b++[s],true,V,Λ,rfl,by simpa[strs]using H,j,Θ,by unfold J;rw[M.o,l.o],by
        intro x i;rcases θ.1 i with h|h
        .exact r.o x h
        .simp at h;exact υ h⟩
       case measure=>simp[intOf];omega
    .simp only[if_true]at S;cases aa:(a[k].toList==s.toList)
     .have l:J<|bJ (ay s) (b.map ay,true) (ay a[k])=((b++[a[k]]).map ay,true):=by
       have m:¬ay a[k]=ay s:=by rw[ό,toList_eq,toList_eq]at aa;exact aa
       unfold J bJ;rw[ύ Ω,ύ m];simp
      go_wp2_with (at_builtin;refine wpList_append_own _ rfl (.tmp 34) (.tmp 39) 65 rfl w.heap.size 9 F (.string ⟨#[]⟩) 1 16 underlying65 y C D E rfl Ψ _ _ _ rfl (f.alloc _) (z wr.heap.size) 1 1 [.string a[k]] rfl rfl (cell_one_new _ _ _) (by intro L c;simp at c;subst c;rfl) (by unfold maxLen;omega) V (by have:=a9.size;simp;omega) ?_;intro T w2 A g _;have t:=grown_below a9 (χ _) f g;clear g);go_roundw;case rel=>exact⟨k+1,b++[a[k]],true,V,Λ,rfl,by simpa[strs]using A,t,Θ,by unfold J;rw[M.o,l.o],by
       intro x i;rcases θ.1 i with h|h
       .exact r.o x h
       .simp at h;subst h;exact τ W.o⟩
      case measure=>simp[intOf];omega
     .have l:J<|bJ (ay s) (b.map ay,true) (ay a[k])=(b.map ay,true):=by
       have m:ay a[k]=ay s:=by rw[ϑt,toList_eq,toList_eq]at aa;exact aa
       unfold J bJ;rw[ύ Ω,ώ m];simp
      go_wp2;go_roundw;case rel=>exact⟨k+1,b,true,V,Λ,rfl,f,a9,Θ,by unfold J;rw[M.o,l.o],r.o⟩
      case measure=>simp[intOf];omega
   .have a5:k=a.length:=V
    subst a5;have QB:J<|(b.map ay,n)=(a.map ay).foldl (bJ (ay s)) ([],false):=by have h:=Q.o;rw[ϑg Ω]at h;exact h
    clear Q;cases n
    .simp only[ϑB,if_false,Nat.add_zero]at S;go_wp2_with (at_builtin;refine wpList_append_own _ rfl (.tmp 43) (.tmp 45) 65 rfl w.heap.size 9 F (.string ⟨#[]⟩) 1 16 underlying65 y C D E rfl Ψ _ _ _ rfl (f.alloc _) (z wr.heap.size) 1 1 [.string s] rfl rfl (cell_one_new _ _ _) (by intro L c;simp at c;subst c;rfl) (by unfold maxLen;omega) V (by have:=a9.size;simp;omega) ?_;intro T w2 A g _;have t:=grown_below a9 (χ _) f g;clear g);go_ret;refine⟨T,b++[s],rfl,by simpa[strs]using A, ?_, ?_,Θ,t⟩
     .unfold lZ;rw[<- QB.o];simp
     .intro x i;rcases θ.1 i with h|h
      .exact r.o x h
      .simp at h;exact υ h
    .simp only[if_true]at S;go_wp2;go_ret;refine⟨_,b,rfl,f, ?_,r.o,V,a9⟩;unfold lZ;rw[<- QB.o];simp
end
section
open Go.Proofs.Tryz Go.RowKit Go.Sort
variable{B:Nat}{v:Value}{w:World}
structure Ev where
 p:ByteArray
 a:UInt8
 v:ByteArray
 n:Int
 zW:List Bool
def qZ(B:Nat)(w:World)(v:Value)(es:List Ev):Prop :=
 (v=.slice none 0 0/\es=[]) \/
  ∃b off cap,v=.slice (some (O b off)) es.length cap/\es.length<=cap/\b<B/\∀j(h:j<es.length),∃sv,
   w.cell? (O b (off+j*5))=some (.string es[j].p)/\w.cell? (O b (off+j*5+1))=some (.int .u8 (es[j].a.toNat:Int))/\w.cell? (O b (off+j*5+2))=some (.string es[j].v) /\
   w.cell? (O b (off+j*5+3))=some (I es[j].n)/\w.cell? (O b (off+j*5+4))=some sv/\eu B w sv (bools es[j].zW)
def vM(es:List Ev)(known:List Bool)(k d:Nat):Bool :=
 match es[d]?,es[k]? with
 | some x,some y=>known.getD d false&&x.zW.getD k false&&pI (ay x.p) x.a (ay x.v) (ay y.p) y.a (ay y.v)
 | _,_=>false
def iy(es:List Ev)(known:List Bool)(k:Nat):Nat->Bool
 | 0=>false
 | d+1=>iy es known k d||(decide (k<d)&&vM es known k d)
def alive(es:List Ev)(known:List Bool)(k:Nat):Bool :=
 match es[k]? with
 | some y=>jq y.a&&known.getD k false&&!iy es known k es.length
 | none=>false
def aH(es:List Ev)(known:List Bool)(n:Nat):List Nat:=(List.range n).filter (alive es known)
def Tryz.info3:(prog.info? 3).map (λi=>(i.zero,i.size,i.bytes))=some (some (I 0),1,8):=by kernel_rfl
def qZ.below{d:World}{es:List Ev}(h:qZ B w v es)(c:Below B w d):qZ B d v es:=by
 rcases h with h|⟨b,s,l,m,n,a,o⟩
 .exact τ h
 .refine υ ⟨b,s,l,m,n,a,λr q=>?_⟩;obtain⟨t,e,f,g,i,j,k⟩:=o r q;exact⟨t,(c.cell (p:=(O b _)) a).trans e,(c.cell (p:=(O b _)) a).trans f,(c.cell (p:=(O b _)) a).trans g,(c.cell (p:=(O b _)) a).trans i,(c.cell (p:=(O b _)) a).trans j,k.below c⟩
def own_below{b:World}{e:TypeId}{n size:Nat}{xs:List Value}(h:w.ownsRow B e size v n xs)(a:ϒ w b):b.ownsRow B e size v n xs :=
 h.kept (row:=none) ⟨a.os,a.tape,a.output,a.size,λk c _=>a.block k c⟩ (by cases h:v.ownBlock<;>simp)
def vN{e:TypeId}{n size:Nat}{xs:List Value}(h:w.ownsRow B e size v n xs)(k:Nat):(w.drewN k).ownsRow B e size v n xs:=by exact own_below h (below_drewN (φ _ _) k)
def pJ(a:List Ev)(known:List Bool)(k:Nat):(aH a known k).length<=k:=by have:=List.length_filter_le (alive a known) (List.range k);simpa[aH]using this
def JU(a:List Ev)(known:List Bool)(k:Nat):∀n,n<=k+1->iy a known k n=false:=by
 intro n;induction n with
 | zero=>intro _;rfl
 | succ n b=>intro h;unfold iy;rw[b V];simp;omega
def N8(a:List Ev)(known:List Bool)(k:Nat):∀m n,n<=m->iy a known k n=true->iy a known k m=true:=by
 intro m;induction m with
 | zero =>
  intro n h;have:n=0:=V
  subst this;exact id
 | succ m ih =>
  intro n h c;rcases Nat.lt_or_ge m n with b|b
  .have:n=m+1:=V
   subst this;exact c
  .unfold iy;rw[ih n b c];(first|done|rfl)
def N9(B b b5 F:Nat)(a:List Ev)(D:Value)(known:List Bool)(w:World)(hB:B<=w.heap.size)(b1:a.length<=F)(hn:a.length<=1048576)(hkn:known.length<=1048576)(a3:qZ B w (.slice (some (O b b5)) a.length F) a)(a6:eu B w D (bools known))(hz:∀g∈a,g.p.size<=1048576/\g.zW.length<=1048576):Calls prog 61 #[.slice (some (O b b5)) a.length F,D] w λg w'=>∃v,g=.returned v/\w'.ownsRow w.heap.size 3 1 v (aH a known a.length).length (xI (aH a known a.length))/\ϒ w w':=by
 obtain⟨i0,hi,ag,N,P⟩:=info_parts Tryz.info3;have E:J<|∀wr,ϒ w wr->∀j(b7:j<a.length),∃R,
   wr.cell? (O b (b5+j*5))=some (.string a[j].p)/\wr.cell? (O b (b5+j*5+1))=some (.int .u8 (a[j].a.toNat:Int))/\wr.cell? (O b (b5+j*5+2))=some (.string a[j].v) /\
   wr.cell? (O b (b5+j*5+3))=some (I a[j].n)/\wr.cell? (O b (b5+j*5+4))=some R/\eu B wr R (bools a[j].zW):=by
  intro wr G j b7;rcases a3.below (G.mono hB) with⟨i,_⟩|⟨b',b3,ak,i,y,h3,h4⟩
  .cases i
  .cases i;exact h4 j b7
 have U:J<|∀wr,ϒ w wr->eu B wr D (bools known):=λwr G=>a6.below (G.mono hB);have W:J<|_:=hz;clear a3 a6 hz;go_enter func61,ntmps61;go_wp2;go_loopw [5,6,7,8,9,10,11,12] (λo Q _ _ _ _ _ _ wr=>∃(k:Nat),k<=a.length/\Q=I k/\wr.ownsRow w.heap.size 3 1 o (aH a known k).length (xI (aH a known k))/\ϒ w wr) (λ_ Q _ _ _ _ _ _ _=>a.length-(intOf Q).toNat);case atStart=>exact⟨0,V,rfl,ϑj _ _ _ _,φ _ _⟩
 case round =>
  obtain⟨k,hk,rfl,L,m⟩:=hrel;by_cases A:k<a.length
  .obtain⟨R,c0,c1,c2,c3,c4,c5⟩:=E.o wr m k A;have a1:∀w',ϒ wr w'->eu B w' D (bools known):=λw' b7=>U.o w' (m.trans (b7.mono m.size));have S:J<|_:=a1;clear a1 c5;have a5:=σ A;have t:J<|alive a known k=(jq a[k].a&&known.getD k false&&!iy a known k a.length):=by unfold J alive;rw[a5]
   have r:J<|aH a known (k+1)=aH a known k++if alive a known k then [k]else []:=by unfold J aH;rw[List.range_succ,ϑH];congr 1;cases b7:alive a known k<;>simp[b7]
   have b0:=pJ a known k;clear a5;generalize a2:a[k]=h at *;go_wp2_with fail;refine(NT _ _ _ _ _ _).mono ?_;rintro g w1⟨rfl,C⟩;have K:=m.trans (C.mono m.size);have M:=own_below L C;go_wp2_with fail;refine(yZ B _ known k _ V V (S.o _ C)).mono ?_;rintro g w2⟨rfl,rfl⟩;clear L m c0 c1 c2 c3 c4 C S;cases heff:jq h.a
   .have q:J<|aH a known (k+1)=aH a known k:=ω<|by rw[r.o,t.o,heff];simp
    clear heff t r;go_wp2;go_roundw;case rel=>exact⟨k+1,V,Λ,by rw[q.o];exact M,K⟩
    case measure=>simp[intOf];omega
   .cases hkn2:known.getD k false
    .have q:J<|aH a known (k+1)=aH a known k:=ω<|by rw[r.o,t.o,hkn2];simp
     clear heff hkn2 t r;go_wp2;go_roundw;case rel=>exact⟨k+1,V,Λ,by rw[q.o];exact M,K⟩
     case measure=>simp[intOf];omega
    .have q:J<|aH a known (k+1)=aH a known k++if iy a known k a.length then []else [k]:=ω<|by rw[r.o,t.o,hkn2,heff];cases iy a known k a.length<;>rfl
     clear heff hkn2 t r;go_wp2;go_loopw [9,10,11,12] (λc d _ _ wr=>∃(n:Nat),k+1<=n/\n<=a.length/\d=I n/\c=.bool (iy a known k n)/\wr.ownsRow w.heap.size 3 1 u5 (aH a known k).length (xI (aH a known k))/\ϒ w wr) (λ_ d _ _ _=>a.length-(intOf d).toNat);case atStart=>exact⟨k+1,V,V,Λ,by rw[JU _ _ _ _ (χ _)],M,K⟩
     case round =>
      obtain⟨n,b2,aa,rfl,rfl,b6,f⟩:=hrel;by_cases H:n<a.length
      .cases hcv:iy a known k n
       .obtain⟨ah,e0,e1,e2,e3,e4,e5⟩:=E.o _ f n H;obtain⟨ai,f0,f1,f2,f3,f4,f5⟩:=E.o _ f k A;have s:J<|iy a known k (n+1)=(known.getD n false&&a[n].zW.getD k false&&pI (ay a[n].p) a[n].a (ay a[n].v) (ay a[k].p) a[k].a (ay a[k].v)):=by
         unfold J iy;rw[hcv];unfold vM;rw[σ H,σ A];have:decide (k<n)=true:=Θ
         rw[this];simp
        have N:=W.o _ (κ H);have P:=W.o _ (κ A);have X:=U.o _ f;have a8:J<|_:=X;have T:J<|_:=e5;clear X e5 f5 hcv;rw[a2]at *;clear a2;generalize a[n]=e at *;go_wp2_with fail;refine(yZ B _ known n _ V V a8.o).mono ?_;rintro g x⟨rfl,rfl⟩;cases i:known.getD n false
        .have l:J<|iy a known k (n+1)=false:=ω<|by rw[s.o,i];(first|done|rfl)
         clear i s;go_wp2_with fail;refine(yZ B _ e.zW k _ V V T.o).mono ?_;rintro g x⟨rfl,rfl⟩;generalize e.zW.getD k false=x2;go_wp2_with fail
         go_quiet (fail)
         go_wp2;go_roundw;case rel=>exact⟨n+1,V,V,Λ,by rw[l.o],vN b6 _,below_drewN f _⟩
         case measure=>simp[intOf];omega
        .go_wp2_with fail;refine(yZ B _ e.zW k _ V V T.o).mono ?_;rintro g x⟨rfl,rfl⟩;cases y:e.zW.getD k false
         .have l:J<|iy a known k (n+1)=false:=ω<|by rw[s.o,y];simp
          clear i y s;go_wp2_with fail
          go_quiet (fail)
          go_wp2;go_roundw;case rel=>exact⟨n+1,V,V,Λ,by rw[l.o],vN b6 _,below_drewN f _⟩
          case measure=>simp[intOf];omega
         .have l:J<|iy a known k (n+1)=pI (ay e.p) e.a (ay e.v) (ay h.p) h.a (ay h.v):=ω<|by rw[s.o,i,y];simp
          clear i y s;go_wp2_with fail;have Y:J<|∀d b4,Calls prog 111 #[.agg #[.string e.p,.int .u8 (e.a.toNat:Int),.string e.v,I e.n,ah],.agg #[.string h.p,.int .u8 (h.a.toNat:Int),.string h.v,I h.n,ai]] (grow (redrawn x d) b4) λg aj=>g=.returned (.bool (pI (ay e.p) e.a (ay e.v) (ay h.p) h.a (ay h.v)))/\∃p:Regrown,aj=grow (redrawn x p.d) p.os:=λd b4=>Calls.regrown_of (NV _ _ _ _ _ _ _ _ _ _ _ N.1 P.1);have al:=λd b4=>cell_regrown e0 d b4;have an:=λd b4=>cell_regrown e1 d b4;have ao:=λd b4=>cell_regrown e2 d b4;have ap:=λd b4=>cell_regrown e3 d b4;have aq:=λd b4=>cell_regrown e4 d b4;have ar:=λd b4=>cell_regrown f0 d b4;have av:=λd b4=>cell_regrown f1 d b4;have aw:=λd b4=>cell_regrown f2 d b4;have ax:=λd b4=>cell_regrown f3 d b4;have az:=λd b4=>cell_regrown f4 d b4;clear e0 e1 e2 e3 e4 f0 f1 f2 f3 f4;refine wp_region_quiet_below (by kernel_rfl) (by kernel_rfl) ?_;repeat(first|go_big_quiet_step (exact Y.o _ _)|quiet_step (exact Y.o _ _))
          refine wpQuiet_nil ?_;intro _ ae;obtain⟨⟨Z,a7⟩,af⟩:=ae;subst af;have a0:=below_regrown x Z a7;have ad:=own_below b6 a0;generalize grow (redrawn x Z) a7=w6 at *;go_wp2;go_roundw;case rel=>exact⟨n+1,V,V,Λ,by rw[l.o],ad,f.trans (a0.mono f.size)⟩
          case measure=>simp[intOf];omega
       .have l:=ω<|N8 _ _ _ _ _ aa hcv
        clear hcv;go_wp2;go_roundw;case rel=>exact⟨k+1,V,Λ,by rw[q.o,l.o];simpa using b6,f⟩
        case measure=>simp[intOf];omega
      .have ab:n=a.length:=V
       subst ab;cases hcv:iy a known k a.length
       .go_wp2_with (at_builtin;refine wpList_append_own _ rfl _ _ 62 rfl w.heap.size 3 i0 (I 0) 1 8 underlying62 hi ag N P rfl Ψ _ _ _ rfl (b6.alloc _) (z _) 1 1 [I k] rfl rfl (cell_one_new _ _ _) (by intro u hu;simp at hu;subst hu;rfl) (by unfold maxLen;omega) V (by have:=f.size;simp;omega) ?_;intro v5 w5 ac a4 _;have a9:=grown_below f (χ _) b6 a4;clear a4);go_roundw;case rel=>exact⟨k+1,V,Λ,by rw[q.o,hcv];simpa[xI]using ac,a9⟩
        case measure=>simp[intOf];omega
       .go_wp2;go_roundw;case rel=>exact⟨k+1,V,Λ,by rw[q.o,hcv];simpa using b6,f⟩
        case measure=>simp[intOf];omega
  .have:k=a.length:=V
   subst this;go_wp2;go_ret;exact⟨_,rfl,L,m⟩
