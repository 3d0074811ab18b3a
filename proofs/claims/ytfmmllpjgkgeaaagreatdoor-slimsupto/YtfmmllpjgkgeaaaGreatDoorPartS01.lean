import Derived.Test.YtfmmllpjgkgeaaaGreatDoorProg
import Derived.WalkSpells
import Derived.WalkLawsBesides
import Derived.BigQuiet
import Derived.Handy
import Derived.Deep.DeepCutAuto
import Derived.Deep.RegionWith
import Derived.Lib.QuietBelow
set_option linter.unusedVariables false
set_option linter.unusedSimpArgs false
set_option maxHeartbeats 16000000
set_option maxRecDepth 100000
namespace Go.Proofs.YtfmmllpjgkgeaaaGreatDoor
section
open Go.Proofs.Tryz
theorem V{p:Prop}(h:p:=by omega):p:=h
theorem Ω{p:Prop}(h:p:=by simp):p:=h
theorem Ψ{p:Prop}(h:p:=by decide):p:=h
theorem Φ{p:Prop}(h:p:=by assumption):p:=h
theorem Λ{p:Prop}(h:p:=by go_num):p:=h
theorem Θ{p:Prop}(h:p:=by simp;omega):p:=h
theorem Γ{p:Prop}(h:p:=by go_grown):p:=h
abbrev O(x i:Nat):Addr:=⟨x,i,none⟩
abbrev z(x:Nat):Addr:=⟨x,0,none⟩
abbrev ϑ(w v:World):Prop:=Go.RowKit.Below w.heap.size w v
def J(p:Prop):Prop:=p
theorem J.o{p:Prop}(h:J p):p:=h
theorem ω{p:Prop}(h:p):J p:=h
theorem ψ:type_of% @Go.Calls.mono:=@Go.Calls.mono
theorem χ:type_of% @Nat.le_refl:=@Nat.le_refl
theorem φ:type_of% @Go.RowKit.Below.refl:=@Go.RowKit.Below.refl
theorem υ:type_of% @Or.inr:=@Or.inr
theorem τ:type_of% @Or.inl:=@Or.inl
theorem σ:type_of% @List.getElem?_eq_getElem:=@List.getElem?_eq_getElem
theorem ς:type_of% @Nat.le_trans:=@Nat.le_trans
theorem ρ:type_of% @List.length_append:=@List.length_append
theorem ο:type_of% @Nat.lt_of_lt_of_le:=@Nat.lt_of_lt_of_le
theorem ξ:type_of% @List.getD_eq_getElem?_getD:=@List.getD_eq_getElem?_getD
theorem ν:type_of% @List.take_succ_eq_append_getElem:=@List.take_succ_eq_append_getElem
theorem μ:type_of% @Array.getElem?_modify:=@Array.getElem?_modify
theorem κ:type_of% @List.getElem_mem:=@List.getElem_mem
theorem ι:type_of% @List.mem_map:=@List.mem_map
theorem θ:type_of% @List.mem_append:=@List.mem_append
theorem η:type_of% @Go.World.cell?_of_block:=@Go.World.cell?_of_block
theorem ε:type_of% @List.getElem?_append_left:=@List.getElem?_append_left
theorem δ:type_of% @List.length_cons:=@List.length_cons
theorem γ:type_of% @Bool.and_eq_true:=@Bool.and_eq_true
theorem ϊ:type_of% @Go.World.size_alloc:=@Go.World.size_alloc
theorem ϋ:type_of% @List.getElem?_append_right:=@List.getElem?_append_right
theorem ό:type_of% @beq_eq_false_iff_ne:=@beq_eq_false_iff_ne
theorem ύ:type_of% @if_neg:=@if_neg
theorem ώ:type_of% @if_pos:=@if_pos
theorem ϐ:type_of% @bodyPost_ret:=@bodyPost_ret
namespace Thk
abbrev Bs:=List UInt8
def isLow(c:UInt8):Bool:=97<=c.toNat&&c.toNat<=122
def aX(c:UInt8):Bool:=48<=c.toNat&&c.toNat<=57
def isKind(c:UInt8):Bool:=c.toNat==115||c.toNat==102||c.toNat==114||c.toNat==99||c.toNat==109
def bI(c:UInt8):Bool:=c.toNat==43||c.toNat==45||c.toNat==94||c.toNat==95||c.toNat==61||c.toNat==62||c.toNat==33
def seg(l:Bs):Bool:=decide (2<=l.length)&&decide (l.length<=5)&&l.tail.all isLow&&(l.head?.map isKind).getD false
def val(l:Bs):Bool:=decide (1<=l.length)&&decide (l.length<=8)&&l.all (λc=>isLow c||aX c)
def aJ(c:UInt8):Bs->Bs->List Bs
 | cur,[]=>[cur]
 | cur,x::r=>if x=c then cur::aJ c [] r else aJ c (cur++[x]) r
def split(c:UInt8)(l:Bs):List Bs:=aJ c [] l
theorem Rz(l:Bs)(a:2<=l.length)(b:l.length<=5)(c:∀i(h:i<l.length),1<=i->isLow l[i]=true):seg l=isKind l[0]:=by
 have d:l.tail.all isLow=true:=by rw[List.all_eq_true];intro x e;obtain⟨i,g,rfl⟩:=List.getElem_of_mem e;rw[List.getElem_tail];exact c _ _ V
 cases l with
 | nil=>simp at a
 | cons f r=>simp only[seg,a,b,d,List.head?_cons];simp
theorem nK(l:Bs)(h:l.length<2\/5<l.length):seg l=false:=by
 unfold seg;rcases h with h|h
 .have:decide (2<=l.length)=false:=Θ
  rw[this];simp
 .have:decide (l.length<=5)=false:=Θ
  rw[this];simp
theorem yJ(l:Bs)(i:Nat)(h:i<l.length)(c:1<=i)(a:isLow l[i]=false):seg l=false:=by
 have b:l.tail.all isLow=false:=by
  rw[List.all_eq_false];refine⟨l[i], ?_,by simp[a]⟩;have:l[i]=l.tail[i-1]'Θ:=by rw[List.getElem_tail];congr 1;omega
  rw[this];exact κ _
 unfold seg;rw[b];simp
theorem yK(l:Bs)(i:Nat)(h:i<l.length)(a:(isLow l[i]||aX l[i])=false):val l=false:=by
 have b:l.all (λc=>isLow c||aX c)=false:=by rw[List.all_eq_false];exact⟨l[i],κ _,by simp only[a];simp⟩
 unfold val;rw[b];simp
theorem RF(l:Bs)(a:∀i(h:i<l.length),(isLow l[i]||aX l[i])=true):val l=(decide (1<=l.length)&&decide (l.length<=8)):=by
 have d:l.all (λc=>isLow c||aX c)=true:=by rw[List.all_eq_true];intro x e;obtain⟨i,b,rfl⟩:=List.getElem_of_mem e;exact a i b
 unfold val;rw[d];simp
end Thk
end
namespace Thk
open Go.Proofs.Tryz
def begins(path p:Bs):Bool:=path==p||(decide (p.length<path.length)&&path.take p.length==p&&(path[p.length]?.map (·.toNat==47)).getD false)
end Thk
namespace Thk
open Go.Proofs.Tryz
theorem kU(c:UInt8)(a:Bs)(x:UInt8)(r:Bs)(h:x≠c):aJ c a (x::r)=aJ c (a++[x]) r:=by rw[aJ,ύ h]
theorem jg(c:UInt8)(a:Bs)(r:Bs):aJ c a (c::r)=a::aJ c [] r:=by rw[aJ,ώ rfl]
theorem sV(l:Bs)(f k:Nat)(a:k<l.length)(b:f<=k):(l.take (k+1)).drop f=(l.take k).drop f++[l[k]]:=by rw[ν a,List.drop_append_of_le_length Θ]
theorem wG(c:UInt8)(l:Bs)(b:List Bs)(f k:Nat)(a:k<l.length)(e:f<=k)(d:l[k]≠c)(h:split c l=b++aJ c ((l.take k).drop f) (l.drop k)):split c l=b++aJ c ((l.take (k+1)).drop f) (l.drop (k+1)):=by rw[h,List.drop_eq_getElem_cons a,kU _ _ _ _ d,sV l f k a e]
theorem wH(c:UInt8)(l:Bs)(a:List Bs)(f k:Nat)(d:k<l.length)(b:l[k]=c)(h:split c l=a++aJ c ((l.take k).drop f) (l.drop k)):split c l=(a++[(l.take k).drop f])++aJ c ((l.take (k+1)).drop (k+1)) (l.drop (k+1)):=by
 rw[h,List.drop_eq_getElem_cons d,b,jg];have:(l.take (k+1)).drop (k+1)=[]:=by apply List.drop_eq_nil_of_le;simp;omega
 rw[this];simp
theorem G9(c:UInt8)(l:Bs)(a:List Bs)(f:Nat)(h:split c l=a++aJ c ((l.take l.length).drop f) (l.drop l.length)):split c l=a++[l.drop f]:=by rw[h];simp[aJ]
end Thk
section
open Go.Proofs.Tryz Go.RowKit
variable{xs:List Value}{B:Nat}{v:Value}{w:World}
theorem aG{a b:Bool}(h:a=b):Ending.returned (.bool a)=.returned (.bool b):=by rw[h]
theorem sW(c:UInt8)(w:World):Calls prog 238 #[.int .u8 (c.toNat:Int)] w λe a=>e=.returned (.bool (Thk.bI c))/\a=w:=by
 go_enter func238,ntmps238;go_wp2;all_goals
  go_ret;refine⟨aG ?_,rfl⟩;unfold Thk.bI;rw[Bool.eq_iff_iff];simp;try omega
theorem byte_at(s:ByteArray)(k:Nat)(h:k<s.size):s.data.toList[k]'(by simpa using h)=s[k]:=by rw[Array.getElem_toList];(first|done|rfl)
theorem D9(c:UInt8):Thk.isKind c=true↔((c.toNat:Int)=115\/(c.toNat:Int)=102\/(c.toNat:Int)=114\/(c.toNat:Int)=99\/(c.toNat:Int)=109):=by unfold Thk.isKind;simp;omega
theorem jh(s:ByteArray)(w:World)(x:s.size<=1048576):Calls prog 229 #[.string s] w λe p=>e=.returned (.bool (Thk.seg s.data.toList))/\p=w:=by
 by_cases n:s.size<2\/5<s.size
 .have a:J<|Thk.seg s.data.toList=false:=Thk.nK _ (by simpa using n);have l:(decide ((s.size:Int)<2)||decide (5<(s.size:Int)))=true:=Θ
  go_enter func229,ntmps229;go_wp2;all_goals
   go_ret;exact⟨aG a.o.symm,rfl⟩
 .have q:¬s.size<2:=V
  have r:¬5<s.size:=V
  go_enter func229,ntmps229;go_wp2
  go_loop [3] (λi=>∃k:Nat,1<=k/\k<=s.size/\i=.int .i64 k/\∀j(h:j<s.data.toList.length),1<=j->j<k->Thk.isLow s.data.toList[j]=true) (λi=>s.size-(intOf i).toNat)
  case atStart=>exact⟨1,V,V,rfl,λj _ b g=>V⟩
  case round =>
   obtain⟨k,m,v,rfl,f⟩:=hrel;have d:J<|∀j(h:j<s.data.toList.length),1<=j->j<k->Thk.isLow s.data.toList[j]=true:=f;clear f;by_cases c:k<s.size
   .by_cases o:97<=(s[k].toNat:Int)/\(s[k].toNat:Int)<=122
    .obtain⟨t,u⟩:=o;go_wp2;all_goals
      go_round
      case rel =>
       refine⟨k+1,V,V,Λ,λj h b g=>?_⟩;by_cases e:j=k
       .subst e;rw[byte_at s j c];unfold Thk.isLow;simp;omega
       .exact d.o j h b V
      case measure=>simp[intOf];omega
    .have a:J<|Thk.seg s.data.toList=false:=Thk.yJ _ k (by simpa using c) m (by rw[byte_at s k c,Bool.eq_false_iff];unfold Thk.isLow;simp;omega);have l:(decide ((s[k].toNat:Int)<97)||decide (122<(s[k].toNat:Int)))=true:=Θ
     go_wp2;all_goals
      first
       | (go_ret;exact⟨aG a.o.symm,rfl⟩)
       | (exfalso;omega)
   .have a:J<|Thk.seg s.data.toList=Thk.isKind (s[0]'V):=by have h:=Thk.Rz s.data.toList Θ Θ (λi h b=>d.o i h b (by simp at h;omega));exact h.trans (by rw[byte_at s 0 V])
    go_wp2;all_goals
     go_ret;refine⟨aG ?_,rfl⟩;rw[a.o,Bool.eq_iff_iff,D9];simp;try omega
theorem toList_eq(s:ByteArray):s.toList=s.data.toList:=ByteArray.toList_eq s
theorem extract_toList(s:ByteArray)(a b:Nat):(s.extract a b).toList=(s.data.toList.take b).drop a:=by rw[toList_eq];simp[ByteArray.data_extract,List.extract_eq_take_drop,List.drop_take]
theorem Ko(s p:ByteArray)(h:(s.toList==p.toList)=true):Thk.begins s.data.toList p.data.toList=true:=by rw[toList_eq,toList_eq]at h;unfold Thk.begins;rw[h];(first|done|rfl)
theorem Kq(s p:ByteArray)(a:(s.toList==p.toList)=false)(b:p.size<s.size)(c:(s.extract 0 p.size).toList=p.toList):Thk.begins s.data.toList p.data.toList=((s[p.size].toNat:Int)==47):=by
 rw[toList_eq,toList_eq]at a;rw[extract_toList,toList_eq]at c;unfold Thk.begins;have e:s.data.toList.take p.data.toList.length=p.data.toList:=by simpa using c
 have l:p.data.toList.length<s.data.toList.length:=by simpa using b
 rw[a,e,σ l,byte_at s _ (by simpa using b)];have d:decide (p.data.toList.length<s.data.toList.length)=true:=by simpa using l
 rw[d];simp;have:p.data.toList.length=p.size:=Ω
 rw[Bool.eq_iff_iff];simp;omega
theorem Kr(s p:ByteArray)(a:(s.toList==p.toList)=false)(c:p.size<s.size)(b:¬(s.extract 0 p.size).toList=p.toList):Thk.begins s.data.toList p.data.toList=false:=by
 rw[toList_eq,toList_eq]at a;rw[extract_toList,toList_eq]at b;unfold Thk.begins;have e:(s.data.toList.take p.data.toList.length==p.data.toList)=false:=by simpa using b
 rw[a,e];simp
theorem Kt(s p:ByteArray)(a:(s.toList==p.toList)=false)(b:¬p.size<s.size):Thk.begins s.data.toList p.data.toList=false:=by
 rw[toList_eq,toList_eq]at a;unfold Thk.begins;have c:decide (p.data.toList.length<s.data.toList.length)=false:=by simpa using b
 rw[a,c];simp
theorem sZ(s p:ByteArray)(w:World)(c:s.size<=1048576)(b:p.size<=1048576):Calls prog 234 #[.string s,.string p] w λe a=>e=.returned (.bool (Thk.begins s.data.toList p.data.toList))/\a=w:=by
 go_enter func234,ntmps234;go_wp2
 .go_ret;rename_i h;exact⟨aG (Ko s p h).symm,rfl⟩
 .go_ret;rename_i h1 h2 h3;exact⟨aG (Kq s p h1 h2 h3).symm,rfl⟩
 .go_ret;rename_i h1 h2 h3;exact⟨aG (Kr s p h1 h2 h3).symm,rfl⟩
 .go_ret;rename_i h1 h2;exact⟨aG (Kt s p h1 h2).symm,rfl⟩
def bC(B:Nat)(w:World)(v:Value)(xs:List Value):Prop :=
 (v=.slice none 0 0/\xs=[]) \/
  ∃b off cap,v=.slice (some (O b off)) xs.length cap/\xs.length<=cap/\b<B/\∀j(h:j<xs.length),w.cell? (O b (off+j))=some xs[j]
theorem bC.mono{a:Nat}(h:bC B w v xs)(j:B<=a):bC a w v xs:=by
 rcases h with h|⟨b,g,c,d,e,i,f⟩
 .exact τ h
 .exact υ ⟨b,g,c,d,e,V,f⟩
theorem bC.below{d:World}(h:bC B w v xs)(k:Below B w d):bC B d v xs:=by
 rcases h with h|⟨b,c,e,f,g,a,i⟩
 .exact τ h
 .exact υ ⟨b,c,e,f,g,a,λj l=>(k.cell (p:=(O b (c+j))) a).trans (i j l)⟩
def bools(l:List Bool):List Value:=l.map Value.bool
def strs(l:List ByteArray):List Value:=l.map Value.string
def nats(l:List Nat):List Value:=l.map (λ(n:Nat)=>Value.int .i64 n)
def eG(a:UInt8):Bool:=a.toNat==43||a.toNat==94||a.toNat==61||a.toNat==62
theorem Ea(p:ByteArray)(a:UInt8)(v:ByteArray)(n:Int)(b:Value)(w:World):Calls prog 230 #[.agg #[.string p,.int .u8 (a.toNat:Int),.string v,.int .i64 n,b]] w λe w'=>e=.returned (.bool (eG a))/\ϑ w w':=by
 go_enter func230,ntmps230;go_wp2;all_goals
  go_ret;refine⟨aG ?_,(φ _ _).alloc (χ _) _⟩;unfold eG;rw[Bool.eq_iff_iff];simp;try omega
theorem Eb(l:List Bool)(k:Nat)(h:k<(bools l).length):(bools l)[k]=.bool (l.getD k false):=by simp[bools,σ (show k<l.length by simpa[bools]using h)]
theorem qh(B:Nat)(v:Value)(l:List Bool)(k:Nat)(w:World)(q:k<=1048576)(r:l.length<=1048576)(g:bC B w v (bools l)):Calls prog 231 #[v,.int .i64 k] w λf i=>f=.returned (.bool (l.getD k false))/\i=w:=by
 rcases g with⟨rfl,c⟩|⟨e,h,j,rfl,o,n,a⟩
 .have:l=[]:=by simpa[bools]using c
  subst this;go_enter func231,ntmps231;go_wp2;go_ret;exact⟨Ω,rfl⟩
 .have b:(bools l).length=l.length:=by simp[bools]
  rw[b];by_cases m:k<l.length
  .have p:w.cell? (O e (h+k))=some (.bool (l.getD k false)):=by rw[a k V,Eb]
   generalize c:l.getD k false=x at *;clear a c b;go_enter func231,ntmps231;go_wp2;go_ret;exact⟨rfl,rfl⟩
  .clear a;have d:l.getD k false=false:=by simp;rw[List.getElem?_eq_none V];(first|done|rfl)
   rw[d];clear d b;go_enter func231,ntmps231;go_wp2;go_ret;exact⟨rfl,rfl⟩
def jQ(dp:Thk.Bs)(da:UInt8)(dv:Thk.Bs)(ep:Thk.Bs)(ea:UInt8)(ev:Thk.Bs):Bool :=
 if(da.toNat:Int)=33 then Thk.begins ep dp
 else if dp≠ep then false
 else if(ea.toNat:Int)=43 then((da.toNat:Int)==43||(da.toNat:Int)==45)&&dv==ev
 else if(ea.toNat:Int)=94 then(da.toNat:Int)==94||(da.toNat:Int)==95
 else if(ea.toNat:Int)=61 then(da.toNat:Int)==61
 else false
theorem Ec(a d b g:ByteArray)(c f:UInt8)(h i:Int)(ds es:Value)(w:World)(j:a.size<=1048576)(k:b.size<=1048576):Calls prog 232 #[.agg #[.string a,.int .u8 (c.toNat:Int),.string d,.int .i64 h,ds],.agg #[.string b,.int .u8 (f.toNat:Int),.string g,.int .i64 i,es]] w λe w'=>e=.returned (.bool (jQ a.data.toList c d.data.toList b.data.toList f g.data.toList))/\ϑ w w':=by
 go_enter func232,ntmps232;go_wp2_with (go_at_call 234;refine(sZ _ _ _ k j).mono ?_;rintro e w'⟨rfl,rfl⟩);all_goals
  go_ret;refine⟨aG ?_,((φ _ _).alloc (χ _) _).alloc Ω _⟩;simp only[toList_eq,Bool.not_eq_true',Bool.not_eq_false',beq_iff_eq,ό]at *;unfold jQ;simp[*]
theorem Tryz.info9:(prog.info? 9).map (λi=>(i.zero,i.size,i.bytes))=some (some (.string ⟨#[]⟩),1,16):=by kernel_rfl
def toL(s:ByteArray):Thk.Bs:=s.data.toList
theorem cu(s:ByteArray)(a b:Nat):toL (s.extract a b)=((toL s).take b).drop a:=by have h:=extract_toList s a b;rw[toList_eq]at h;exact h
theorem grown_below{wr w1:World}{o:Obj}{e:TypeId}{size n:Nat}(a:Below B w wr)(b:B<=w.heap.size)(f:wr.ownsRow B e size v n xs)(c:(wr.alloc o).grownBy w1 v.ownBlock):Below B w w1 :=
 (a.alloc (ς b a.size) o).grown c (by have:=a.size;simp;omega) (λk d=>(f.lt k d).1)
theorem qj(s:ByteArray)(c:UInt8)(w:World)(N:s.size<=1048576):Calls prog 228 #[.string s,.int .u8 (c.toNat:Int)] w λi w' => ∃v a,i=.returned v/\w'.ownsRow w.heap.size 9 1 v a.length (strs a)/\a.map toL=Thk.split c (toL s)/\a.length<=s.size+1/\(∀p∈a,p.size<=s.size)/\ϑ w w':=by
 obtain⟨B,u,x,y,A⟩:=info_parts Tryz.info9;go_enter func228,ntmps228;go_wp2;go_loopw [5,6,7] (λv D t wr=>∃(k d:Nat)(a:List ByteArray),k<=s.size/\d<=k/\a.length<=k/\t=.int .i64 k/\D=.int .i64 d/\wr.ownsRow w.heap.size 9 1 v a.length (strs a)/\ϑ w wr /\
   J (Thk.split c (toL s)=a.map toL++Thk.aJ c (((toL s).take k).drop d) ((toL s).drop k))/\J (∀p∈a,p.size<=s.size)) (λ_ _ t _=>s.size-(intOf t).toNat)
 case atStart=>exact⟨0,0,[],V,V,Ω,rfl,rfl,World.ownsRow_nil _ _ _ _,φ _ _,by unfold J Thk.split;simp,by intro p b;simp at b⟩
 case round =>
  obtain⟨k,d,a,L,E,M,rfl,rfl,e,g,n,o⟩:=hrel;by_cases m:k<s.size
  .by_cases l:s[k]=c
   .have F:((s[k].toNat:Int)==(c.toNat:Int))=true:=by rw[l];simp
    go_wp2_with (at_builtin;refine wpList_append_own _ rfl _ _ 141 rfl w.heap.size 9 B (.string ⟨#[]⟩) 1 16 underlying141 u x y A rfl Ψ _ _ _ rfl (e.alloc _) (z wr.heap.size) 1 1 [.string (s.extract d k)] rfl rfl ?c1 ?c2 ?c3 ?c4 ?c5 ?_);case c1=>exact cell_one_new _ _ _
    case c2=>intro H h;simp at h;subst h;rfl
    case c3=>unfold maxLen;omega
    case c4=>omega
    case c5=>have:=g.size;simp;omega
    .intro C K r f _;have q:=grown_below g (χ _) e f;clear f e;go_wp2;go_roundw;case rel =>
      refine⟨k+1,k+1,a++[s.extract d k],V,V,Θ,Λ,Λ,by simpa[strs]using r,q, ?_, ?_⟩
      .have j:=Thk.wH c (toL s) (a.map toL) d k (by simpa[toL]using m) (by simp only[toL];rw[byte_at s k m];exact l) n.o;unfold J;rw[j,List.map_append];simp[cu]
      .intro p b;rcases θ.1 b with b|b
       .exact o.o p b
       .simp at b;subst b;simp[ByteArray.size_extract];omega
     case measure=>simp[intOf];omega
   .have F:((s[k].toNat:Int)==(c.toNat:Int))=false:=by rw[ό];intro j;apply l;apply UInt8.toNat_inj.1;omega
    go_wp2;go_roundw;case rel =>exact⟨k+1,d,a,V,V,V,Λ,rfl,e,g,Thk.wG c (toL s) (a.map toL) d k (by simpa[toL]using m) E (by simp only[toL];rw[byte_at s k m];exact l) n.o,o⟩
    case measure=>simp[intOf];omega
  .have G:k=s.size:=V
   subst G;go_wp2_with (at_builtin;refine wpList_append_own _ rfl _ _ 141 rfl w.heap.size 9 B (.string ⟨#[]⟩) 1 16 underlying141 u x y A rfl Ψ _ _ _ rfl (e.alloc _) (z wr.heap.size) 1 1 [.string (s.extract d s.size)] rfl rfl ?d1 ?d2 ?d3 ?d4 ?d5 ?_);case d1=>exact cell_one_new _ _ _
   case d2=>intro H h;simp at h;subst h;rfl
   case d3=>unfold maxLen;omega
   case d4=>omega
   case d5=>have:=g.size;simp;omega
   .intro C K r f _;have q:=grown_below g (χ _) e f;clear f e;go_wp2;go_ret;refine⟨C,a++[s.extract d s.size],rfl,by simpa[strs]using r, ?_,Θ, ?_,q⟩
    .have i:(toL s).length=s.size:=by simp[toL]
     have j:=Thk.G9 c (toL s) (a.map toL) d (by rw[i];exact n.o);rw[j,List.map_append,List.map_cons,List.map_nil,cu,<- i,List.take_length]
    .intro p b;rcases θ.1 b with b|b
     .exact o.o p b
     .simp at b;subst b;simp[ByteArray.size_extract]
end
namespace Thk
open Go.Proofs.Tryz
def iD(ps:List Bs):Bool:=decide (ps.length<=3)&&ps.all seg&&ps.dropLast.all (λp=>p.head?==some 109)
def path(l:Bs):Bool:=iD (split 47 l)
def kindOf(l:Bs):UInt8:=(((split 47 l).getLast?.getD []).head?).getD 0
theorem rU(c:UInt8):∀(a l:Bs),aJ c a l≠[]:=by
 intro a l;induction l generalizing a with
 | nil=>simp[aJ]
 | cons x r b=>unfold aJ;split<;>simp[b]
theorem fP(c:UInt8)(l:Bs):split c l≠[]:=rU c [] l
theorem kG(a:List Bs)(j:Nat)(h:j<a.length)(b:seg a[j]=false):iD a=false:=by
 have:a.all seg=false:=by rw[List.all_eq_false];exact⟨a[j],κ _,by simp[b]⟩
 unfold iD;rw[this];simp
theorem kH(a:List Bs)(j:Nat)(h:j+1<a.length)(b:(a[j].head?==some 109)=false):iD a=false:=by
 have:a.dropLast.all (λp=>p.head?==some 109)=false:=by rw[List.all_eq_false];refine⟨a[j], ?_,by rw[b];simp⟩;have e:a.dropLast[j]'Θ=a[j]:=List.getElem_dropLast _;rw[<- e];exact κ _
 unfold iD;rw[this];simp
theorem Aq(a:List Bs)(f:∀j(h:j<a.length),seg a[j]=true)(g:∀j(h:j<a.length),j+1<a.length->a[j].head? = some 109):iD a=decide (a.length<=3):=by
 have d:a.all seg=true:=by rw[List.all_eq_true];intro x c;obtain⟨i,b,rfl⟩:=List.getElem_of_mem c;exact f i b
 have e:a.dropLast.all (λp=>p.head?==some 109)=true:=by rw[List.all_eq_true];intro x c;obtain⟨i,b,rfl⟩:=List.getElem_of_mem c;rw[List.getElem_dropLast];simp at b;rw[g i V V];(first|done|rfl)
 unfold iD;rw[d,e];simp
theorem yL(l:Bs)(h:seg l=true):2<=l.length:=by unfold seg at h;simp at h;omega
theorem xk(l:Bs)(h:path l=true):∃(b:0<(split 47 l).length),2<=((split 47 l)[(split 47 l).length-1]'V).length/\(((split 47 l)[(split 47 l).length-1]'V)[0]?)=some (kindOf l):=by
 have b:0<(split 47 l).length:=List.length_pos_iff.2 (fP 47 l);refine⟨b, ?_⟩;have c:seg ((split 47 l)[(split 47 l).length-1]'V)=true:=by unfold path iD at h;simp only[γ]at h;exact List.all_eq_true.1 h.1.2 _ (κ _)
 have a:=yL _ c;refine⟨a, ?_⟩;have e:(split 47 l).getLast? = some ((split 47 l)[(split 47 l).length-1]'V):=by rw[List.getLast?_eq_getElem?,σ]
 unfold kindOf;rw[e];generalize (split 47 l)[(split 47 l).length-1]'V=q at *;cases q with
 | nil=>simp at a
 | cons d r=>rfl
def oL(c:UInt8):Nat:=c.toNat-48
def bT(l:Bs):Nat:=l.foldl (λn c=>10*n+oL c) 0
def fQ(neg:Bool)(l:Bs):Bool:=decide (l.length<1)||decide (10<l.length)||(l.head?==some 48&&(decide (1<l.length)||neg))
def dh(neg:Bool)(l:Bs):Option Int :=
 if fQ neg l then none else if l.all aX&&decide (bT l<=1000000000)then some (if neg then -(bT l:Int) else(bT l:Int))else none
def num(l:Bs):Option Int:=if l.head? = some 45 then dh true l.tail else dh false l
theorem jF(l:Bs)(c:UInt8):bT (l++[c])=10*bT l+oL c:=by unfold bT;simp
theorem yM(l:Bs)(h:l.all aX=true):bT l<10 ^ l.length:=by
 have key:∀(r:Bs),r.all aX=true->∀n m:Nat,n<10 ^ m->r.foldl (λn c=>10*n+oL c) n<10 ^ (m+r.length):=by
  intro r;induction r with
  | nil=>intro _ n m h;simpa using h
  | cons x r ih =>
   intro a n m b;simp only[List.all_cons,γ]at a;have d:oL x<=9:=by have:=a.1;unfold aX at this;unfold oL;simp at this;omega
   have:=ih a.2 (10*n+oL x) (m+1) (by rw[Nat.pow_succ];omega);simp only[List.foldl_cons,δ];rw[(V:m+(r.length+1)=m+1+r.length)];exact this
 have:=key l h 0 0 Ω;simpa[bT]using this
end Thk
section
open Go.Proofs.Tryz Go.RowKit
theorem mW{w:World}{B:Nat}{e:TypeId}{v:Value}{n:Nat}{xs:List Value}(h:w.ownsRow B e 1 v n xs):(v=.slice none 0 0/\n=0/\xs=[])\/∃g a,v=.slice (some (z g)) n a/\n<=a/\a<=maxLen/\B<=g/\g<w.heap.size/\xs.length=n/\∀j(h:j<xs.length),w.cell? (O g j)=some xs[j]:=by
 have b:=h;obtain⟨i,h|⟨g,a,l,rfl,d,m,c,k,o,p⟩⟩:=h
 .exact τ ⟨h.1,h.2,List.eq_nil_of_length_eq_zero (by rw[i,h.2])⟩
 .refine υ ⟨g,a,rfl,c,k,d,(b.lt g rfl).2,V,λj f=>?_⟩;rw[b.cellAt j V,σ f]
theorem xu{w:World}{B:Nat}{e:TypeId}{v:Value}{n:Nat}{xs:List Value}(h:w.ownsRow B e 1 v n xs):bC w.heap.size w v xs:=by
 rcases mW h with⟨a,d,b⟩|⟨g,c,a,d,b,m,f,i,j⟩
 .exact τ ⟨a,b⟩
 .refine υ ⟨g,0,c,by rw[i];exact a,V,f,λl k=>?_⟩;rw[Nat.zero_add];exact j l k
theorem yN{k:IntKind}{a b:Int}(h:a=b):Ending.returned (.int k a)=.returned (.int k b):=by rw[h]
theorem toL_length(s:ByteArray):(toL s).length=s.size:=by simp[toL]
theorem Ar(s:ByteArray)(w:World)(y:s.size<=1048576)(n:Thk.path (toL s)=true):Calls prog 233 #[.string s] w λi w'=>i=.returned (.int .u8 ((Thk.kindOf (toL s)).toNat:Int))/\ϑ w w':=by
 obtain⟨x,c,b⟩:=Thk.xk _ n;have d:=x;have h:J<|_:=c;have g:J<|_:=b;clear c b n;go_enter func233,ntmps233;go_wp2_with fail;refine(qj s 47 _ y).mono ?_;rintro i P⟨v,a,rfl,m,e,H,o,r⟩;rcases mW m with⟨rfl,c,C⟩|⟨B,A,rfl,D,E,F,G,N,j⟩
 .exfalso;rw[<- e]at d;simp at d;omega
 .have L:0<a.length:=by rw[<- e]at d;simpa using d
  have l:=j (a.length-1) (by simp[strs];omega);have k:(strs a)[a.length-1]'(by simp[strs];omega)=.string (a[a.length-1]'V):=by simp[strs]
  rw[k]at l;have u:(a[a.length-1]'V).size<=s.size:=o _ (κ _);obtain⟨q,f⟩:∃q,q=a[a.length-1]'V:=⟨_,rfl⟩;rw[<- f]at l u;have p:(Thk.split 47 (toL s))[(Thk.split 47 (toL s)).length-1]'V=toL q:=by rw[f];simp only[<- e,List.getElem_map,List.length_map]
  have c:=h.o;have b:=g.o;rw[p]at c b;have M:2<=q.size:=by rw[toL_length]at c;exact c
  have t:J<|q[0].toNat=(Thk.kindOf (toL s)).toNat:=by rw[σ V]at b;simp only[Option.some.injEq]at b;have:=byte_at q 0 V;unfold J;rw[<- b,<- this];(first|done|rfl)
  have K:a.length<=1048577:=V
  clear p c b h g j k f e o m;go_wp2;go_ret;exact⟨yN (congrArg Nat.cast t.o),r⟩
theorem jG(q:ByteArray)(h:0<q.size):(toL q).head? = some q[0]:=by have:=byte_at q 0 h;rw[List.head?_eq_getElem?,σ (by simpa[toL]using h)];simp only[toL,Option.some.injEq];exact this
theorem Path_any(s:ByteArray)(w:World)(N:s.size<=1048576):Calls prog 172 #[.string s] w λe w'=>e=.returned (.bool (Thk.path (toL s)))/\ϑ w w':=by
 go_enter func172,ntmps172;go_wp2_with fail;refine(qj s 47 _ N).mono ?_;rintro e P⟨v,a,rfl,E,x,Z,F,t⟩;rcases mW E with⟨rfl,f,R⟩|⟨L,Q,rfl,S,U,W,X,a2,C⟩
 .exfalso;have:=Thk.fP 47 (toL s);rw[<- x]at this;simp at this;apply this;apply List.eq_nil_of_length_eq_zero f
 .have A:J<|Thk.path (toL s)=Thk.iD (a.map toL):=by unfold J Thk.path;rw[x]
  have H:J<|∀j(h:j<a.length),P.cell? (O L j)=some (.string a[j]):=by intro j h;rw[C j (by simpa[strs]using h)];simp[strs]
  have G:J<|∀p∈a,p.size<=s.size:=F;clear C x F E;go_wp2
  go_loop [4] (λy=>∃k:Nat,k<=a.length/\y=.int .i64 k/\J (∀j(h:j<a.length),j<k->Thk.seg (toL a[j])=true/\(j+1<a.length->(toL a[j]).head? = some 109))) (λy=>a.length-(intOf y).toNat)
  case atStart=>exact⟨0,V,rfl,λj _ K=>V⟩
  case round =>
   obtain⟨k,Y,rfl,g⟩:=hrel;by_cases u:k<a.length
   .have T:=H.o k u;have a1:=G.o _ (κ u);have B:J<|Thk.seg (toL a[k])=true->(k+1<a.length->(toL a[k]).head? = some 109)->∀j(h:j<a.length),j<k+1->Thk.seg (toL a[j])=true/\(j+1<a.length->(toL a[j]).head? = some 109):=by
     intro r f j h K;by_cases e:j=k
     .subst e;exact⟨r,f⟩
     .exact g.o j h V
    have o:J<|Thk.seg (toL a[k])=false->Thk.iD (a.map toL)=false:=λh=>Thk.kG _ k (by simpa using u) (by simpa using h);have c:J<|k+1<a.length->((toL a[k]).head?==some 109)=false->Thk.iD (a.map toL)=false:=λr h=>Thk.kH _ k (by simpa using r) (by simpa using h);clear g;generalize a[k]=q at *;cases hseg:Thk.seg (toL q)
    .have i:J<|Thk.path (toL s)=false:=A.o.trans (o.o hseg);have m:J<|Thk.seg q.data.toList=false:=hseg;clear hseg B o c;go_wp2_with (go_at_call 229;refine(jh q _ V).mono ?_;rintro e w'⟨rfl,rfl⟩;rw[m.o]);go_ret;exact⟨aG i.o.symm,t⟩
    .have a0:2<=q.size:=by have:=Thk.yL _ hseg;rwa [toL_length]at this
     have m:J<|Thk.seg q.data.toList=true:=hseg;have d:J<|_:=B.o hseg;clear hseg B o;have l:=jG q V;by_cases D:k+1<a.length
     .by_cases b:q[0]=109
      .have n:J<|_:=d.o (λ_=>by rw[l,b]);have M:((q[0].toNat:Int) !=109)=false:=by rw[b];(first|done|rfl)
       clear c d l b;go_wp2_with (go_at_call 229;refine(jh q _ V).mono ?_;rintro e w'⟨rfl,rfl⟩;rw[m.o])
       go_round
       case rel=>exact⟨k+1,V,Λ,n⟩
       case measure=>simp[intOf];omega
      .have i:J<|Thk.path (toL s)=false:=A.o.trans (c.o D (by rw[l];simpa using b));have M:((q[0].toNat:Int) !=109)=true:=by rw[bne_iff_ne];intro h;apply b;apply UInt8.toNat_inj.1;have:(109:UInt8).toNat=109:=rfl;omega
       clear c d l b;go_wp2_with (go_at_call 229;refine(jh q _ V).mono ?_;rintro e w'⟨rfl,rfl⟩;rw[m.o]);go_ret;exact⟨aG i.o.symm,t⟩
     .have n:J<|_:=d.o (λh=>absurd h D);clear c d l;go_wp2_with (go_at_call 229;refine(jh q _ V).mono ?_;rintro e w'⟨rfl,rfl⟩;rw[m.o])
      go_round
      case rel=>exact⟨k+1,V,Λ,n⟩
      case measure=>simp[intOf];omega
   .have i:J<|Thk.path (toL s)=decide (a.length<=3):=by
     refine A.o.trans ((Thk.Aq _ (λj h=>?_) (λj h f=>?_)).trans Ω)
     .simp only[List.getElem_map];exact(g.o j (by simpa using h) (by simp at h;omega)).1
     .simp only[List.getElem_map];exact(g.o j (by simpa using h) (by simp at h;omega)).2 (by simpa using f)
    clear g;go_wp2;go_ret;exact⟨aG (by rw[i.o];rw[Bool.eq_iff_iff];simp;omega),t⟩
end
namespace Thk
open Go.Proofs.Tryz
def kV:Bs->Bs->Bool
 | [],[]=>false
 | [],_::_=>true
 | _::_,[]=>false
 | a::l,b::m=>decide (a.toNat<b.toNat)||(a==b&&kV l m)
def ins(l:List Bs)(s:Bs):List Bs:=match l with
 | []=>[s]
 | x::r=>if s=x then x::r else if kV s x then s::x::r else x::ins r s
def aI(s:Bs)(p:List Bs×Bool)(x:Bs):List Bs×Bool :=
 ((if x≠s then(if p.2=false/\(kV s x||s==x)=true then p.1++[s]else p.1)++[x] else(if p.2=false/\(kV s x||s==x)=true then p.1++[s]else p.1)),p.2||(kV s x||s==x))
def iF(l:List Bs)(s:Bs):List Bs:=let p:=l.foldl (aI s) ([],false);if p.2 then p.1 else p.1++[s]
def Gi(acc:Bs):List Bs->Bs
 | []=>acc
 | x::r=>Gi (acc++[44]++x) r
def joined:List Bs->Bs
 | []=>[]
 | x::r=>Gi x r
def fU(l:List Bs):Nat->Bs
 | 0=>[]
 | k+1=>(if k=0 then fU l k else fU l k++[44])++l.getD k []
def oh(n:Nat):Bs:=if h:n<10 then [UInt8.ofNat (48+n)]else oh (n / 10)++[UInt8.ofNat (48+n % 10)]
def digits(n:Int):Bs:=if n<0 then 45::oh n.natAbs else oh n.natAbs
theorem Ed(n:Nat)(h:n<10):oh n=[UInt8.ofNat (48+n)]:=by rw[oh,dif_pos h]
theorem Kv(n:Nat)(h:¬n<10):oh n=oh (n / 10)++[UInt8.ofNat (48+n % 10)]:=by rw[oh,dif_neg h]
def upper(m:Nat):Bs:=if m<10 then []else oh (m / 10)
theorem tC(m:Nat):oh m=upper m++[UInt8.ofNat (48+m % 10)]:=by
 unfold upper;by_cases h:m<10
 .rw[ώ h,Ed m h,Nat.mod_eq_of_lt h];(first|done|rfl)
 .rw[ύ h,Kv m h]
theorem Ee(m:Nat)(h:¬m<10):upper m=upper (m / 10)++[UInt8.ofNat (48+m / 10 % 10)]:=by
 conv=>lhs;unfold upper
 rw[ύ h,tC]
end Thk
section
open Go.Proofs.Tryz Go.RowKit
theorem gI(a b:ByteArray):toL (a++b)=toL a++toL b:=by simp[toL]
theorem ji{a b:ByteArray}(h:toL a=toL b):a=b:=by cases a with|mk a=>cases b with|mk b=>congr 1;exact Array.toList_inj.1 h
theorem Ef(B:Nat)(v:Value)(a:List ByteArray)(w:World)(P:a.length<=1000)(m:∀s∈a,s.size<=1000)(E:bC B w v (strs a)):Calls prog 237 #[v] w λx H=>∃t,x=.returned (.string t)/\toL t=Thk.fU (a.map toL) a.length/\t.size<=1001*a.length/\H=w:=by
 rcases E with⟨rfl,F⟩|⟨r,G,K,rfl,A,M,g⟩
 .have:a=[]:=by simpa[strs]using F
  subst this;go_enter func237,ntmps237;go_wp2
  go_rounds 1
  go_ret;exact⟨ByteArray.empty,rfl,rfl,Ω,rfl⟩
 .have h:(strs a).length=a.length:=by simp[strs]
  rw[h]at A⊢;have n:J<|∀j(y:j<a.length),w.cell? (O r (G+j))=some (.string a[j]):=by intro j y;rw[g j V];simp[strs]
  have o:J<|_:=m;clear g h m;go_enter func237,ntmps237;go_wp2
  go_loop [3,4] (λt i=>∃(k:Nat)(u:ByteArray),k<=a.length/\i=.int .i64 k/\t=.string u/\J (toL u=Thk.fU (a.map toL) k)/\u.size<=1001*k) (λ_ i=>a.length-(intOf i).toNat)
  case atStart=>exact⟨0,ByteArray.empty,V,rfl,rfl,rfl,Ω⟩
  case round =>
   obtain⟨k,u,N,rfl,rfl,b,D⟩:=hrel;by_cases e:k<a.length
   .have C:=n.o k e;have Q:=o.o _ (κ e);have c:J<|(a.map toL).getD k []=toL a[k]:=ω<|by rw[ξ,σ (by simpa using e)];simp
    generalize a[k]=q at *;by_cases f:k=0
    .subst f;rw[Nat.add_zero]at C;have d:J<|toL (u++q)=Thk.fU (a.map toL) 1:=ω<|by rw[gI,b.o];simp only[Thk.fU];rw[ώ trivial,c.o]
     clear c b;go_wp2
     go_round
     case rel=>exact⟨1,u++q,V,Λ,rfl,d,Θ⟩
     case measure=>simp[intOf];omega
    .have L:0<k:=V
     have d:J<|toL (u++⟨#[44]⟩++q)=Thk.fU (a.map toL) (k+1):=ω<|by rw[gI,gI,b.o];simp only[Thk.fU];rw[ύ f,c.o];(first|done|rfl)
     have l:(u++⟨#[44]⟩++q).size<=1001*(k+1):=by rw[ByteArray.size_append,ByteArray.size_append];have:(ByteArray.mk #[44]).size=1:=rfl;omega
     have p:J<|_:=l;clear c b l;go_wp2
     go_round
     case rel=>exact⟨k+1,u++⟨#[44]⟩++q,V,Λ,rfl,d,p.o⟩
     case measure=>simp[intOf];omega
   .go_wp2;go_ret;have:k=a.length:=V
    subst this;exact⟨u,rfl,b.o,D,rfl⟩
theorem Kw(wx:World)(x:Int):(convert 93 9 (.slice (some (z wx.heap.size)) 1 1)).run prog (wx.alloc (.cells #[.int .u8 x] 5))=.ok (.string (strOfNums [x])) (wx.alloc (.cells #[.int .u8 x] 5)):=by
 refine run_convert_bytes_arg (P:=prog) _ 93 5 underlying93 underlying5 wx.heap.size 0 1 1 [x] rfl ?_ 9 underlying9;intro i a;have:i=0:=V
 subst this;simp
theorem nM(x:Int):toL (strOfNums [x])=[UInt8.ofNat x.toNat]:=rfl
theorem tH(n:Nat)(w:World)(o:n<=1000000000000):Calls prog 236 #[.int .i64 n] w λl w'=>∃t,l=.returned (.string t)/\toL t=Thk.oh n/\t.size<=100/\ϑ w w':=by
 have q:=Kw;go_enter func236,ntmps236;go_wp2;go_loopw [0,3] (λm s wr=>∃(k:Nat)(t:ByteArray)(j:Nat),m=.int .i64 k/\s=.string t/\k<=1000000000000/\t.size+j<=14/\J (Thk.oh n=Thk.upper k++toL t)/\J (k<10 ^ j)/\ϑ w wr) (λm _ _=>(intOf m).toNat);case atStart =>
  refine⟨n,strOfNums [48+(n:Int) % 10],13,rfl,rfl,o,by simp[strOfNums_size], ?_, ?_,Γ⟩
  .unfold J;rw[nM,Thk.tC];congr 3
  .unfold J;omega
 case round =>
  obtain⟨k,t,j,rfl,rfl,u,r,a,c,b⟩:=hrel;by_cases e:k<10
  .go_wp2;go_ret;refine⟨t,rfl, ?_,V,b⟩;rw[a.o];unfold Thk.upper;rw[ώ e];(first|done|rfl)
  .have p:(strOfNums [48+(k:Int) / 10 % 10]).size=1:=strOfNums_size _;have g:J<|Thk.oh n=Thk.upper (k / 10)++toL (strOfNums [48+(k:Int) / 10 % 10]++t):=ω<|by rw[gI,nM,a.o,Thk.Ee k e,List.append_assoc];congr 3
   have d:J<|k / 10<10 ^ (j-1)/\1<=j:=by
    have h:=c.o;cases j with
    | zero=>simp at h;omega
    | succ j=>rw[Nat.pow_succ]at h;exact⟨Θ,V⟩
   have f:(strOfNums [48+(k:Int) / 10 % 10]++t).size=1+t.size:=by rw[ByteArray.size_append,p]
   have i:J<|_:=f;clear f a c;go_wp2;go_roundw;case rel=>exact⟨k / 10,strOfNums [48+(k:Int) / 10 % 10]++t,j-1,Λ,rfl,V,by rw[i.o];have:=d.o.2;omega,g,d.o.1,b.alloc b.size _⟩
   case measure=>simp[intOf];omega
theorem Eh(n:Int)(w:World)(j:n.natAbs<=1000000000000):Calls prog 236 #[.int .i64 n] w λe w'=>∃t,e=.returned (.string t)/\toL t=Thk.digits n/\t.size<=200/\ϑ w w':=by
 by_cases h:n<0
 .obtain⟨m,c⟩:∃m:Nat,n = -(m:Int)/\0<m:=⟨n.natAbs,V,V⟩;obtain⟨rfl,i⟩:=c;have d:m<=1000000000000:=V
  have g:(-(m:Int)==(m:Int))=false:=by rw[ό];omega
  go_enter func236,ntmps236;go_wp2_with (go_at_call 236;refine(tH m _ d).mono ?_;rintro e w'⟨t,rfl,b,f,a⟩);go_ret;refine⟨⟨#[45]⟩++t,rfl, ?_, ?_,a⟩
  .rw[gI,b];unfold Thk.digits;rw[ώ h];simp[toL]
  .rw[ByteArray.size_append];have:(ByteArray.mk #[45]).size=1:=rfl;omega
 .obtain⟨m,rfl⟩:=Int.eq_ofNat_of_zero_le (V:0<=n);refine(tH m w V).mono ?_;rintro e w'⟨t,rfl,b,f,a⟩;exact⟨t,rfl,by rw[b];unfold Thk.digits;rw[ύ h];simp,V,a⟩
def cnt(l:List Bool):Nat:=(l.filter id).length
theorem cnt_le(l:List Bool):cnt l<=l.length:=List.length_filter_le _ _
theorem Ky(l:List Bool)(b:Bool):cnt (l++[b])=cnt l+if b then 1 else 0:=by unfold cnt;rw[List.filter_append];cases b<;>simp
theorem take_snoc{a:Type}(l:List a)(k:Nat)(h:k<l.length):l.take (k+1)=l.take k++[l[k]]:=ν h
theorem ql(B:Nat)(v:Value)(l:List Bool)(w:World)(C:l.length<=1048576)(m:bC B w v (bools l)):Calls prog 111 #[v] w λf q=>f=.returned (.int .i64 (cnt l))/\q=w:=by
 rcases m with⟨rfl,n⟩|⟨e,p,s,rfl,g,t,a⟩
 .have:l=[]:=by simpa[bools]using n
  subst this;go_enter func111,ntmps111;go_wp2
  go_rounds 1
  go_ret;exact⟨rfl,rfl⟩
 .have b:(bools l).length=l.length:=by simp[bools]
  rw[b]at g⊢;have d:J<|∀j(h:j<l.length),w.cell? (O e (p+j))=some (.bool l[j]):=by intro j h;rw[a j V];simp[bools]
  clear a b;go_enter func111,ntmps111;go_wp2
  go_loop [3,4] (λo i=>∃(k:Nat),k<=l.length/\i=.int .i64 k/\o=.int .i64 (cnt (l.take k))) (λ_ i=>l.length-(intOf i).toNat)
  case atStart=>exact⟨0,V,rfl,rfl⟩
  case round =>
   obtain⟨k,A,rfl,rfl⟩:=hrel;have y:=cnt_le (l.take k);have r:(l.take k).length<=k:=List.length_take_le _ _;by_cases c:k<l.length
   .have u:=d.o k c;have Hs:J<|cnt (l.take (k+1))=cnt (l.take k)+if l[k]then 1 else 0:=ω<|by rw[take_snoc l k c,Ky]
    generalize l[k]=x at *;generalize cnt (l.take k)=D at *;cases x
    .go_wp2
     go_round
     case rel=>exact⟨k+1,V,Λ,by rw[Hs.o];rfl⟩
     case measure=>simp[intOf];omega
    .go_wp2
     go_round
     case rel=>exact⟨k+1,V,Λ,by rw[Hs.o];rfl⟩
     case measure=>simp[intOf];omega
   .go_wp2;go_ret;exact⟨yN (by rw[List.take_of_length_le V]),rfl⟩
def aI(s:Thk.Bs)(p:List Thk.Bs×Bool)(x:Thk.Bs):List Thk.Bs×Bool :=
 ((if p.2=false/\(Op.bytesLess s x||s==x)=true then p.1++[s]else p.1)++(if x=s then []else [x]),p.2||(Op.bytesLess s x||s==x))
def iF(l:List Thk.Bs)(s:Thk.Bs):List Thk.Bs:=if(l.foldl (aI s) ([],false)).2 then(l.foldl (aI s) ([],false)).1 else(l.foldl (aI s) ([],false)).1++[s]
theorem xw{c a:Type}(f:a->c->a)(b:a)(l:List c)(k:Nat)(h:k<l.length):(l.take (k+1)).foldl f b=f ((l.take k).foldl f b) l[k]:=by rw[ν h,List.foldl_append];(first|done|rfl)
theorem Au(B:Nat)(v:Value)(a:List ByteArray)(s:ByteArray)(w:World)(hl:a.length<=1000)(hv:bC B w v (strs a))(hB:B<=w.heap.size):Calls prog 235 #[v,.string s] w λe w'=>∃v' R,e=.returned v'/\w'.ownsRow w.heap.size 9 1 v' R.length (strs R)/\R.map toL=iF (a.map toL) (toL s)/\(∀x∈R,x∈a\/x=s)/\R.length<=a.length+1/\ϑ w w':=by
 obtain⟨F,y,C,D,E⟩:=info_parts Tryz.info9;rcases hv with⟨rfl,i⟩|⟨H,Q,a7,rfl,a4,hb,hc⟩
 .have:a=[]:=by simpa[strs]using i
  subst this;go_enter func235,ntmps235;go_wp2;refine wp_loop_rounds 1 ?_;rw[rounds_succ];go_wp2_with (at_builtin;refine wpList_append_own _ rfl _ _ 141 rfl w.heap.size 9 F (.string ⟨#[]⟩) 1 16 underlying141 y C D E rfl Ψ (.slice none 0 0) 0 [] rfl (World.ownsRow_nil _ _ _ _) (z w.heap.size) 1 1 [.string s] rfl rfl (cell_one_new _ _ _) (by intro M c;simp at c;subst c;rfl) (by unfold maxLen;omega) V Ω ?_;intro Z S K u _);go_ret;refine⟨Z,rfl,[s],by simpa[strs]using K,rfl,Ω,Ω, ?_⟩;exact((φ _ _).alloc (χ _) _).grown u Ω (λk hk=>by simp[Value.ownBlock]at hk)
 .have a0:(strs a).length=a.length:=by simp[strs]
  rw[a0]at a4⊢;have G:J<|∀(wr:World),ϑ w wr->∀L(h:L<a.length),wr.cell? (O H (Q+L))=some (.string a[L]):=by intro wr a1 L h;rw[a1.cell (p:=(O H (Q+L))) (V:H<_),hc L V];simp[strs]
  clear hc a0;go_enter func235,ntmps235;go_wp2;go_loopw [5,6,7] (λo d Y wr=>∃(k:Nat)(b:List ByteArray)(n:Bool),k<=a.length/\Y=.int .i64 k/\d=.bool n/\wr.ownsRow w.heap.size 9 1 o b.length (strs b)/\ϑ w wr/\b.length<=k+(if n then 1 else 0) /\
    J ((b.map toL,n)=((a.map toL).take k).foldl (aI (toL s)) ([],false))/\J (∀x∈b,x∈a\/x=s)) (λ_ _ Y _=>a.length-(intOf Y).toNat)
  case atStart=>exact⟨0,[],false,V,rfl,rfl,World.ownsRow_nil _ _ _ _,φ _ _,Ω,by simp[J],by simp[J]⟩
  case round =>
   obtain⟨k,b,n,hk,rfl,rfl,f,a9,U,T,r⟩:=hrel;by_cases q:k<a.length
   .have a8:=G.o wr a9 k q;have a6:∀o,(wr.alloc o).cell? (O H (Q+k))=some (.string a[k]):=λo=>G.o _ (a9.alloc a9.size o) k q;have X:J<|a[k]∈a:=κ q;have N:J<|((a.map toL).take (k+1)).foldl (aI (toL s)) ([],false)=aI (toL s) (b.map toL,n) (toL a[k]):=ω<|by rw[xw _ _ _ k (by simpa using q),<- T.o];simp
    clear T;cases n
    .simp only[Bool.false_eq_true,if_false,Nat.add_zero]at U;cases hle:(Op.bytesLess s.toList a[k].toList||s.toList==a[k].toList)
     .have aa:(a[k].toList==s.toList)=false:=by rw[Bool.or_eq_false_iff]at hle;have:=hle.2;rw[ό]at this⊢;exact λh=>this h.symm
      have l:J<|aI (toL s) (b.map toL,false) (toL a[k])=((b++[a[k]]).map toL,false):=by
       have P:(Op.bytesLess (toL s) (toL a[k])||toL s==toL a[k])=false:=by simpa[toList_eq,toL]using hle
       have m:¬toL a[k]=toL s:=by rw[ό,toList_eq,toList_eq]at aa;exact aa
       unfold J aI;rw[P,ύ Ω,ύ m];simp
      go_wp2_with (at_builtin;refine wpList_append_own _ rfl (.tmp 34) (.tmp 39) 141 rfl w.heap.size 9 F (.string ⟨#[]⟩) 1 16 underlying141 y C D E rfl Ψ _ _ _ rfl (f.alloc _) (z wr.heap.size) 1 1 [.string a[k]] rfl rfl (cell_one_new _ _ _) (by intro M c;simp at c;subst c;rfl) (by unfold maxLen;omega) V (by have:=a9.size;simp;omega) ?_;intro W w2 A g _;have t:=grown_below a9 (χ _) f g;clear g);go_roundw;case rel=>exact⟨k+1,b++[a[k]],false,V,Λ,rfl,by simpa[strs]using A,t,Θ,by unfold J;rw[N.o,l.o],by
       intro x i;rcases θ.1 i with h|h
       .exact r.o x h
       .simp at h;subst h;exact τ X.o⟩
      case measure=>simp[intOf];omega
     .cases aa:(a[k].toList==s.toList)
      .have l:J<|aI (toL s) (b.map toL,false) (toL a[k])=((b++[s]++[a[k]]).map toL,true):=by
        have P:(Op.bytesLess (toL s) (toL a[k])||toL s==toL a[k])=true:=by simpa[toList_eq,toL]using hle
        have m:¬toL a[k]=toL s:=by rw[ό,toList_eq,toList_eq]at aa;exact aa
        unfold J aI;rw[P,ώ Ω,ύ m];simp
       go_wp2_with (first|(at_builtin;refine wpList_append_own _ rfl (.tmp 24) (.tmp 26) 141 rfl w.heap.size 9 F (.string ⟨#[]⟩) 1 16 underlying141 y C D E rfl Ψ _ _ _ rfl (f.alloc _) (z wr.heap.size) 1 1 [.string s] rfl rfl (cell_one_new _ _ _) (by intro M c;simp at c;subst c;rfl) (by unfold maxLen;omega) V (by have:=a9.size;simp;omega) ?_;intro Z S K u _;have j:=grown_below a9 (χ _) f u;have a3:=G.o _ (j) k q;have a2:∀o,(S.alloc o).cell? (O H (Q+k))=some (.string a[k]):=λo=>G.o _ (j.alloc j.size o) k q;clear u)|(at_builtin;refine wpList_append_own _ rfl (.tmp 34) (.tmp 39) 141 rfl w.heap.size 9 F (.string ⟨#[]⟩) 1 16 underlying141 y C D E rfl Ψ _ _ _ rfl (K.alloc _) (z S.heap.size) 1 1 [.string a[k]] rfl rfl (cell_one_new _ _ _) (by intro M c;simp at c;subst c;rfl) (by unfold maxLen;omega) V (by have:=j.size;simp;omega) ?_;intro W w2 A g _;have t:=grown_below j (χ _) K g;clear g));go_roundw;case rel=>exact⟨k+1,b++[s]++[a[k]],true,V,Λ,rfl,by simpa[strs]using A,t,Θ,by unfold J;rw[N.o,l.o],by
        intro x i;rcases θ.1 i with h|h
        .rcases θ.1 h with h|h
         .exact r.o x h
         .simp at h;exact υ h
        .simp at h;subst h;exact τ X.o⟩
       case measure=>simp[intOf];omega
      .have l:J<|aI (toL s) (b.map toL,false) (toL a[k])=((b++[s]).map toL,true):=by
        have P:(Op.bytesLess (toL s) (toL a[k])||toL s==toL a[k])=true:=by simpa[toList_eq,toL]using hle
        have m:toL a[k]=toL s:=by rw[beq_iff_eq,toList_eq,toList_eq]at aa;exact aa
        unfold J aI;rw[P,ώ Ω,ώ m];simp
       go_wp2_with (at_builtin;refine wpList_append_own _ rfl (.tmp 24) (.tmp 26) 141 rfl w.heap.size 9 F (.string ⟨#[]⟩) 1 16 underlying141 y C D E rfl Ψ _ _ _ rfl (f.alloc _) (z wr.heap.size) 1 1 [.string s] rfl rfl (cell_one_new _ _ _) (by intro M c;simp at c;subst c;rfl) (by unfold maxLen;omega) V (by have:=a9.size;simp;omega) ?_;intro Z S K u _;have j:=grown_below a9 (χ _) f u;have a3:=G.o _ (j) k q;have a2:∀o,(S.alloc o).cell? (O H (Q+k))=some (.string a[k]):=λo=>G.o _ (j.alloc j.size o) k q;clear u);go_roundw;case rel=>exact⟨k+1,b++[s],true,V,Λ,rfl,by simpa[strs]using K,j,Θ,by unfold J;rw[N.o,l.o],by
        intro x i;rcases θ.1 i with h|h
        .exact r.o x h
        .simp at h;exact υ h⟩
       case measure=>simp[intOf];omega
    .simp only[if_true]at U;cases aa:(a[k].toList==s.toList)
     .have l:J<|aI (toL s) (b.map toL,true) (toL a[k])=((b++[a[k]]).map toL,true):=by
       have m:¬toL a[k]=toL s:=by rw[ό,toList_eq,toList_eq]at aa;exact aa
       unfold J aI;rw[ύ Ω,ύ m];simp
      go_wp2_with (at_builtin;refine wpList_append_own _ rfl (.tmp 34) (.tmp 39) 141 rfl w.heap.size 9 F (.string ⟨#[]⟩) 1 16 underlying141 y C D E rfl Ψ _ _ _ rfl (f.alloc _) (z wr.heap.size) 1 1 [.string a[k]] rfl rfl (cell_one_new _ _ _) (by intro M c;simp at c;subst c;rfl) (by unfold maxLen;omega) V (by have:=a9.size;simp;omega) ?_;intro W w2 A g _;have t:=grown_below a9 (χ _) f g;clear g);go_roundw;case rel=>exact⟨k+1,b++[a[k]],true,V,Λ,rfl,by simpa[strs]using A,t,Θ,by unfold J;rw[N.o,l.o],by
       intro x i;rcases θ.1 i with h|h
       .exact r.o x h
       .simp at h;subst h;exact τ X.o⟩
      case measure=>simp[intOf];omega
     .have l:J<|aI (toL s) (b.map toL,true) (toL a[k])=(b.map toL,true):=by
       have m:toL a[k]=toL s:=by rw[beq_iff_eq,toList_eq,toList_eq]at aa;exact aa
       unfold J aI;rw[ύ Ω,ώ m];simp
      go_wp2;go_roundw;case rel=>exact⟨k+1,b,true,V,Λ,rfl,f,a9,Θ,by unfold J;rw[N.o,l.o],r.o⟩
      case measure=>simp[intOf];omega
   .have a5:k=a.length:=V
    subst a5;have Gh:J<|(b.map toL,n)=(a.map toL).foldl (aI (toL s)) ([],false):=by have h:=T.o;rw[List.take_of_length_le Ω]at h;exact h
    clear T;cases n
    .simp only[Bool.false_eq_true,if_false,Nat.add_zero]at U;go_wp2_with (at_builtin;refine wpList_append_own _ rfl (.tmp 43) (.tmp 45) 141 rfl w.heap.size 9 F (.string ⟨#[]⟩) 1 16 underlying141 y C D E rfl Ψ _ _ _ rfl (f.alloc _) (z wr.heap.size) 1 1 [.string s] rfl rfl (cell_one_new _ _ _) (by intro M c;simp at c;subst c;rfl) (by unfold maxLen;omega) V (by have:=a9.size;simp;omega) ?_;intro W w2 A g _;have t:=grown_below a9 (χ _) f g;clear g);go_ret;refine⟨W,b++[s],rfl,by simpa[strs]using A, ?_, ?_,Θ,t⟩
     .unfold iF;rw[<- Gh.o];simp
     .intro x i;rcases θ.1 i with h|h
      .exact r.o x h
      .simp at h;exact υ h
    .simp only[if_true]at U;go_wp2;go_ret;refine⟨_,b,rfl,f, ?_,r.o,V,a9⟩;unfold iF;rw[<- Gh.o];simp
end
section
open Go.Proofs.Tryz Go.RowKit Go.Sort
variable{B:Nat}{v:Value}{w:World}
structure Ev where
 p:ByteArray
 a:UInt8
 v:ByteArray
 n:Int
 saw:List Bool
def EvsIn(B:Nat)(w:World)(v:Value)(es:List Ev):Prop :=
 (v=.slice none 0 0/\es=[]) \/
  ∃b off cap,v=.slice (some (O b off)) es.length cap/\es.length<=cap/\b<B/\∀j(h:j<es.length),∃sv,
   w.cell? (O b (off+j*5))=some (.string es[j].p)/\w.cell? (O b (off+j*5+1))=some (.int .u8 (es[j].a.toNat:Int))/\w.cell? (O b (off+j*5+2))=some (.string es[j].v) /\
   w.cell? (O b (off+j*5+3))=some (.int .i64 es[j].n)/\w.cell? (O b (off+j*5+4))=some sv/\bC B w sv (bools es[j].saw)
def nN(es:List Ev)(known:List Bool)(k d:Nat):Bool :=
 match es[d]?,es[k]? with
 | some x,some y=>known.getD d false&&x.saw.getD k false&&jQ (toL x.p) x.a (toL x.v) (toL y.p) y.a (toL y.v)
 | _,_=>false
def dF(es:List Ev)(known:List Bool)(k:Nat):Nat->Bool
 | 0=>false
 | d+1=>dF es known k d||(decide (k<d)&&nN es known k d)
def alive(es:List Ev)(known:List Bool)(k:Nat):Bool :=
 match es[k]? with
 | some y=>eG y.a&&known.getD k false&&!dF es known k es.length
 | none=>false
def aliveTo(es:List Ev)(known:List Bool)(n:Nat):List Nat:=(List.range n).filter (alive es known)
theorem Tryz.info3:(prog.info? 3).map (λi=>(i.zero,i.size,i.bytes))=some (some (.int .i64 0),1,8):=by kernel_rfl
theorem EvsIn.below{d:World}{es:List Ev}(h:EvsIn B w v es)(c:Below B w d):EvsIn B d v es:=by
 rcases h with h|⟨b,s,l,m,n,a,o⟩
 .exact τ h
 .refine υ ⟨b,s,l,m,n,a,λr q=>?_⟩;obtain⟨t,e,f,g,i,j,k⟩:=o r q;exact⟨t,(c.cell (p:=(O b _)) a).trans e,(c.cell (p:=(O b _)) a).trans f,(c.cell (p:=(O b _)) a).trans g,(c.cell (p:=(O b _)) a).trans i,(c.cell (p:=(O b _)) a).trans j,k.below c⟩
theorem own_below{b:World}{e:TypeId}{n size:Nat}{xs:List Value}(h:w.ownsRow B e size v n xs)(a:ϑ w b):b.ownsRow B e size v n xs :=
 h.kept (row:=none) ⟨a.os,a.tape,a.output,a.size,λk c _=>a.block k c⟩ (by cases h:v.ownBlock<;>simp)
theorem nO{e:TypeId}{n size:Nat}{xs:List Value}(h:w.ownsRow B e size v n xs)(k:Nat):(w.drewN k).ownsRow B e size v n xs:=by exact own_below h (below_drewN (φ _ _) k)
theorem aliveTo_le(es:List Ev)(known:List Bool)(k:Nat):(aliveTo es known k).length<=k:=by have:=List.length_filter_le (alive es known) (List.range k);simpa[aliveTo]using this
theorem Aw(es:List Ev)(known:List Bool)(k:Nat):∀n,n<=k+1->dF es known k n=false:=by
 intro n;induction n with
 | zero=>intro _;rfl
 | succ n a=>intro h;unfold dF;rw[a V];simp;omega
theorem Ei(es:List Ev)(known:List Bool)(k:Nat):∀m n,n<=m->dF es known k n=true->dF es known k m=true:=by
 intro m;induction m with
 | zero =>
  intro n h;have:n=0:=V
  subst this;exact id
 | succ m ih =>
  intro n h b;rcases Nat.lt_or_ge m n with a|a
  .have:n=m+1:=V
   subst this;exact b
  .unfold dF;rw[ih n a b];(first|done|rfl)
theorem Ej(B b b5 E:Nat)(es:List Ev)(C:Value)(known:List Bool)(w:World)(hB:B<=w.heap.size)(b1:es.length<=E)(hn:es.length<=1000)(hkn:known.length<=1000)(a3:EvsIn B w (.slice (some (O b b5)) es.length E) es)(a6:bC B w C (bools known))(hz:∀e∈es,e.p.size<=1048576/\e.saw.length<=1000):Calls prog 173 #[.slice (some (O b b5)) es.length E,C] w λe w'=>∃v,e=.returned v/\w'.ownsRow w.heap.size 3 1 v (aliveTo es known es.length).length (nats (aliveTo es known es.length))/\ϑ w w':=by
 obtain⟨i0,hi,af,M,N⟩:=info_parts Tryz.info3;have D:J<|∀wr,ϑ w wr->∀j(s:j<es.length),∃Q,
   wr.cell? (O b (b5+j*5))=some (.string es[j].p)/\wr.cell? (O b (b5+j*5+1))=some (.int .u8 (es[j].a.toNat:Int))/\wr.cell? (O b (b5+j*5+2))=some (.string es[j].v) /\
   wr.cell? (O b (b5+j*5+3))=some (.int .i64 es[j].n)/\wr.cell? (O b (b5+j*5+4))=some Q/\bC B wr Q (bools es[j].saw):=by
  intro wr F j s;rcases a3.below (F.mono hB) with⟨h,_⟩|⟨b',b3,ak,h,x,h3,h4⟩
  .cases h
  .cases h;exact h4 j s
 have S:J<|∀wr,ϑ w wr->bC B wr C (bools known):=λwr F=>a6.below (F.mono hB);have T:J<|_:=hz;clear a3 a6 hz;go_enter func173,ntmps173;go_wp2;go_loopw [5,6,7,8,9,10,11,12] (λo P _ _ _ _ _ _ wr=>∃(k:Nat),k<=es.length/\P=.int .i64 k/\wr.ownsRow w.heap.size 3 1 o (aliveTo es known k).length (nats (aliveTo es known k))/\ϑ w wr) (λ_ P _ _ _ _ _ _ _=>es.length-(intOf P).toNat);case atStart=>exact⟨0,V,rfl,World.ownsRow_nil _ _ _ _,φ _ _⟩
 case round =>
  obtain⟨k,hk,rfl,K,i⟩:=hrel;by_cases y:k<es.length
  .obtain⟨Q,c0,c1,c2,c3,c4,c5⟩:=D.o wr i k y;have a1:∀w',ϑ wr w'->bC B w' C (bools known):=λw' s=>S.o w' (i.trans (s.mono i.size));have X:J<|_:=a1;clear a1 c5;have a5:es[k]?=some es[k]:=σ y;have q:J<|alive es known k=(eG es[k].a&&known.getD k false&&!dF es known k es.length):=by unfold J alive;rw[a5]
   have b7:J<|aliveTo es known (k+1)=aliveTo es known k++if alive es known k then [k]else []:=by unfold J aliveTo;rw[List.range_succ,List.filter_append];congr 1;cases s:alive es known k<;>simp[s]
   have b0:=aliveTo_le es known k;clear a5;generalize a2:es[k]=f at *;go_wp2_with fail;refine(Ea _ _ _ _ _ _).mono ?_;rintro e w1⟨rfl,A⟩;have H:ϑ w w1:=i.trans (A.mono i.size);have L:=own_below K A;go_wp2_with fail;refine(qh B _ known k _ V V (X.o _ A)).mono ?_;rintro e w2⟨rfl,rfl⟩;clear K i c0 c1 c2 c3 c4 A X;cases heff:eG f.a
   .have m:J<|aliveTo es known (k+1)=aliveTo es known k:=ω<|by rw[b7.o,q.o,heff];simp
    clear heff q b7;go_wp2;go_roundw;case rel=>exact⟨k+1,V,Λ,by rw[m.o];exact L,H⟩
    case measure=>simp[intOf];omega
   .cases hkn2:known.getD k false
    .have m:J<|aliveTo es known (k+1)=aliveTo es known k:=ω<|by rw[b7.o,q.o,hkn2];simp
     clear heff hkn2 q b7;go_wp2;go_roundw;case rel=>exact⟨k+1,V,Λ,by rw[m.o];exact L,H⟩
     case measure=>simp[intOf];omega
    .have m:J<|aliveTo es known (k+1)=aliveTo es known k++if dF es known k es.length then []else [k]:=ω<|by rw[b7.o,q.o,hkn2,heff];cases dF es known k es.length<;>rfl
     clear heff hkn2 q b7;go_wp2;go_loopw [9,10,11,12] (λc d _ _ wr=>∃(n:Nat),k+1<=n/\n<=es.length/\d=.int .i64 n/\c=.bool (dF es known k n)/\wr.ownsRow w.heap.size 3 1 u5 (aliveTo es known k).length (nats (aliveTo es known k))/\ϑ w wr) (λ_ d _ _ _=>es.length-(intOf d).toNat);case atStart=>exact⟨k+1,V,V,Λ,by rw[Aw _ _ _ _ (χ _)],L,H⟩
     case round =>
      obtain⟨n,b2,a9,rfl,rfl,l,g⟩:=hrel;by_cases G:n<es.length
      .cases hcv:dF es known k n
       .obtain⟨ag,Z,e1,e2,e3,e4,e5⟩:=D.o _ g n G;obtain⟨ai,f0,f1,f2,f3,f4,f5⟩:=D.o _ g k y;have r:J<|dF es known k (n+1)=(known.getD n false&&es[n].saw.getD k false&&jQ (toL es[n].p) es[n].a (toL es[n].v) (toL es[k].p) es[k].a (toL es[k].v)):=by
         unfold J dF;rw[hcv];unfold nN;rw[σ G,σ y];have:decide (k<n)=true:=Θ
         rw[this];simp
        have M:=T.o _ (κ G);have N:=T.o _ (κ y);have U:=S.o _ g;have YH:J<|_:=U;have R:J<|_:=e5;clear U e5 f5 hcv;rw[a2]at *;clear a2;generalize es[n]=b4 at *;go_wp2_with fail;refine(qh B _ known n _ V V YH.o).mono ?_;rintro e t⟨rfl,rfl⟩;cases h:known.getD n false
        .have b6:J<|dF es known k (n+1)=false:=ω<|by rw[r.o,h];(first|done|rfl)
         clear h r;go_wp2_with fail;refine(qh B _ b4.saw k _ V V R.o).mono ?_;rintro e t⟨rfl,rfl⟩;generalize b4.saw.getD k false=x2;go_wp2_with fail
         go_quiet (fail)
         go_wp2;go_roundw;case rel=>exact⟨n+1,V,V,Λ,by rw[b6.o],nO l _,below_drewN g _⟩
         case measure=>simp[intOf];omega
        .go_wp2_with fail;refine(qh B _ b4.saw k _ V V R.o).mono ?_;rintro e t⟨rfl,rfl⟩;cases x:b4.saw.getD k false
         .have b6:J<|dF es known k (n+1)=false:=ω<|by rw[r.o,x];simp
          clear h x r;go_wp2_with fail
          go_quiet (fail)
          go_wp2;go_roundw;case rel=>exact⟨n+1,V,V,Λ,by rw[b6.o],nO l _,below_drewN g _⟩
          case measure=>simp[intOf];omega
         .have b6:J<|dF es known k (n+1)=jQ (toL b4.p) b4.a (toL b4.v) (toL f.p) f.a (toL f.v):=ω<|by rw[r.o,h,x];simp
          clear h x r;go_wp2_with fail;have W:J<|∀d a,Calls prog 232 #[.agg #[.string b4.p,.int .u8 (b4.a.toNat:Int),.string b4.v,.int .i64 b4.n,ag],.agg #[.string f.p,.int .u8 (f.a.toNat:Int),.string f.v,.int .i64 f.n,ai]] (grow (redrawn t d) a) λe aj=>e=.returned (.bool (jQ (toL b4.p) b4.a (toL b4.v) (toL f.p) f.a (toL f.v)))/\∃p:Regrown,aj=grow (redrawn t p.d) p.os:=λd a=>Calls.regrown_of (Ec _ _ _ _ _ _ _ _ _ _ _ M.1 N.1);have al:=λd a=>cell_regrown Z d a;have an:=λd a=>cell_regrown e1 d a;have ao:=λd a=>cell_regrown e2 d a;have ap:=λd a=>cell_regrown e3 d a;have aq:=λd a=>cell_regrown e4 d a;have ar:=λd a=>cell_regrown f0 d a;have av:=λd a=>cell_regrown f1 d a;have aw:=λd a=>cell_regrown f2 d a;have ax:=λd a=>cell_regrown f3 d a;have az:=λd a=>cell_regrown f4 d a;clear Z e1 e2 e3 e4 f0 f1 f2 f3 f4;refine wp_region_quiet_below (by kernel_rfl) (by kernel_rfl) ?_;repeat(first|go_big_quiet_step (exact W.o _ _)|quiet_step (exact W.o _ _))
          refine wpQuiet_nil ?_;intro _ ad;obtain⟨⟨Y,a7⟩,ae⟩:=ad;subst ae;have a0:=below_regrown t Y a7;have ac:=own_below l a0;generalize grow (redrawn t Y) a7=w6 at *;go_wp2;go_roundw;case rel=>exact⟨n+1,V,V,Λ,by rw[b6.o],ac,g.trans (a0.mono g.size)⟩
          case measure=>simp[intOf];omega
       .have b6:J<|dF es known k es.length=true:=Ei _ _ _ _ _ a9 hcv;clear hcv;go_wp2;go_roundw;case rel=>exact⟨k+1,V,Λ,by rw[m.o,b6.o];simpa using l,g⟩
        case measure=>simp[intOf];omega
      .have aa:n=es.length:=V
       subst aa;cases hcv:dF es known k es.length
       .go_wp2_with (at_builtin;refine wpList_append_own _ rfl _ _ 42 rfl w.heap.size 3 i0 (.int .i64 0) 1 8 underlying42 hi af M N rfl Ψ _ _ _ rfl (l.alloc _) (z _) 1 1 [.int .i64 k] rfl rfl (cell_one_new _ _ _) (by intro u hu;simp at hu;subst hu;rfl) (by unfold maxLen;omega) V (by have:=g.size;simp;omega) ?_;intro v5 w5 ab a4 _;have a8:=grown_below g (χ _) l a4;clear a4);go_roundw;case rel=>exact⟨k+1,V,Λ,by rw[m.o,hcv];simpa[nats]using ab,a8⟩
        case measure=>simp[intOf];omega
       .go_wp2;go_roundw;case rel=>exact⟨k+1,V,Λ,by rw[m.o,hcv];simpa using l,g⟩
        case measure=>simp[intOf];omega
  .have:k=es.length:=V
   subst this;go_wp2;go_ret;exact⟨_,rfl,K,i⟩
