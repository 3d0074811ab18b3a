import Derived.Below
import Derived.Test.YtfmmllpjgkgeaaaGreatDoorProg
import Derived.WalkKit
import Derived.WalkSpells
import Derived.WalkLawsBesides
import Derived.Deep.QuietTactic
import Derived.BigQuiet
import Derived.Handy
import Derived.Deep.DeepCutAuto
import Derived.Deep.RegionWith
import Derived.Lib.QuietBelow
set_option linter.unusedVariables false
set_option linter.unusedSimpArgs false
set_option maxHeartbeats 16000000
set_option maxRecDepth 100000
namespace Go.Proofs.YtfmmllpjgkgeaaaGreatDoor
open Go.Proofs.Tryz
namespace Thk
abbrev Bs:=List UInt8
def isLow(c:UInt8):Bool:=97<=c.toNat&&c.toNat<=122
def cO(c:UInt8):Bool:=48<=c.toNat&&c.toNat<=57
def isKind(c:UInt8):Bool:=c.toNat==115||c.toNat==102||c.toNat==114||c.toNat==99||c.toNat==109
def dG(c:UInt8):Bool:=c.toNat==43||c.toNat==45||c.toNat==94||c.toNat==95||c.toNat==61||c.toNat==62||c.toNat==33
def seg(l:Bs):Bool:=decide (2<=l.length)&&decide (l.length<=5)&&l.tail.all isLow&&(l.head?.map isKind).getD false
def val(l:Bs):Bool:=decide (1<=l.length)&&decide (l.length<=8)&&l.all (λc=>isLow c||cO c)
def bH(c:UInt8):Bs->Bs->List Bs
 | cur,[]=>[cur]
 | cur,x::r=>if x=c then cur::bH c [] r else bH c (cur++[x]) r
def split(c:UInt8)(l:Bs):List Bs:=bH c [] l
theorem VI(l:Bs)(h2:2<=l.length)(h5:l.length<=5)(ha:∀i(h:i<l.length),1<=i->isLow l[i]=true):seg l=isKind l[0]:=by
 have ht:l.tail.all isLow=true:=by rw[List.all_eq_true];intro x hx;obtain⟨i,hi,rfl⟩:=List.getElem_of_mem hx;rw[List.getElem_tail];exact ha _ _ (by omega)
 cases l with
 | nil=>simp at h2
 | cons a r=>simp only[seg,h2,h5,ht,List.head?_cons];simp
theorem rF(l:Bs)(h:l.length<2\/5<l.length):seg l=false:=by
 unfold seg;rcases h with h|h
 ·have:decide (2<=l.length)=false:=by simp;omega
  rw[this];simp
 ·have:decide (l.length<=5)=false:=by simp;omega
  rw[this];simp
theorem CS(l:Bs)(i:Nat)(h:i<l.length)(h1:1<=i)(hb:isLow l[i]=false):seg l=false:=by
 have ht:l.tail.all isLow=false:=by
  rw[List.all_eq_false];refine⟨l[i], ?_,by simp[hb]⟩;have:l[i]=l.tail[i-1]'(by simp;omega):=by rw[List.getElem_tail];congr 1;omega
  rw[this];exact List.getElem_mem _
 unfold seg;rw[ht];simp
theorem CU(l:Bs)(i:Nat)(h:i<l.length)(hb:(isLow l[i]||cO l[i])=false):val l=false:=by
 have ht:l.all (λc=>isLow c||cO c)=false:=by rw[List.all_eq_false];exact⟨l[i],List.getElem_mem _,by simp only[hb];simp⟩
 unfold val;rw[ht];simp
theorem VJ(l:Bs)(ha:∀i(h:i<l.length),(isLow l[i]||cO l[i])=true):val l=(decide (1<=l.length)&&decide (l.length<=8)):=by
 have ht:l.all (λc=>isLow c||cO c)=true:=by rw[List.all_eq_true];intro x hx;obtain⟨i,hi,rfl⟩:=List.getElem_of_mem hx;exact ha i hi
 unfold val;rw[ht];simp
end Thk
end Go.Proofs.YtfmmllpjgkgeaaaGreatDoor
namespace Go.Proofs.YtfmmllpjgkgeaaaGreatDoor.Thk
open Go.Proofs.Tryz
def begins(path p:Bs):Bool:=path==p||(decide (p.length<path.length)&&path.take p.length==p&&(path[p.length]?.map (·.toNat==47)).getD false)
end Go.Proofs.YtfmmllpjgkgeaaaGreatDoor.Thk
namespace Go.Proofs.YtfmmllpjgkgeaaaGreatDoor.Thk
open Go.Proofs.Tryz
theorem oP(c:UInt8)(cur:Bs)(x:UInt8)(r:Bs)(h:x≠c):bH c cur (x::r)=bH c (cur++[x]) r:=by rw[bH,if_neg h]
theorem lI(c:UInt8)(cur:Bs)(r:Bs):bH c cur (c::r)=cur::bH c [] r:=by rw[bH,if_pos rfl]
theorem xU(l:Bs)(f k:Nat)(hk:k<l.length)(hf:f<=k):(l.take (k+1)).drop f=(l.take k).drop f++[l[k]]:=by rw[List.take_succ_eq_append_getElem hk,List.drop_append_of_le_length (by simp;omega)]
theorem Ag(c:UInt8)(l:Bs)(ps:List Bs)(f k:Nat)(hk:k<l.length)(hf:f<=k)(hc:l[k]≠c)(h:split c l=ps++bH c ((l.take k).drop f) (l.drop k)):split c l=ps++bH c ((l.take (k+1)).drop f) (l.drop (k+1)):=by rw[h,List.drop_eq_getElem_cons hk,oP _ _ _ _ hc,xU l f k hk hf]
theorem Ah(c:UInt8)(l:Bs)(ps:List Bs)(f k:Nat)(hk:k<l.length)(hc:l[k]=c)(h:split c l=ps++bH c ((l.take k).drop f) (l.drop k)):split c l=(ps++[(l.take k).drop f])++bH c ((l.take (k+1)).drop (k+1)) (l.drop (k+1)):=by
 rw[h,List.drop_eq_getElem_cons hk,hc,lI];have:(l.take (k+1)).drop (k+1)=[]:=by apply List.drop_eq_nil_of_le;simp;omega
 rw[this];simp
theorem LK(c:UInt8)(l:Bs)(ps:List Bs)(f:Nat)(h:split c l=ps++bH c ((l.take l.length).drop f) (l.drop l.length)):split c l=ps++[l.drop f]:=by rw[h];simp[bH]
end Go.Proofs.YtfmmllpjgkgeaaaGreatDoor.Thk
namespace Go.Proofs.YtfmmllpjgkgeaaaGreatDoor
open Go.Proofs.Tryz Go.RowKit
variable{xs:List Value}{B:Nat}{v:Value}{w:World}
theorem aY{a b:Bool}(h:a=b):Ending.returned (.bool a)=.returned (.bool b):=by rw[h]
theorem xW(c:UInt8)(w:World):Calls prog 238 #[.int .u8 (c.toNat:Int)] w λe w'=>e=.returned (.bool (Thk.dG c))/\w'=w:=by
 go_enter func238,ntmps238;go_wp2;all_goals
  go_ret;refine⟨aY ?_,rfl⟩;unfold Thk.dG;rw[Bool.eq_iff_iff];simp;try omega
theorem byte_at(s:ByteArray)(k:Nat)(h:k<s.size):s.data.toList[k]'(by simpa using h)=s[k]:=by rw[Array.getElem_toList];(first|done|rfl)
theorem Iq(c:UInt8):Thk.isKind c=true↔((c.toNat:Int)=115\/(c.toNat:Int)=102\/(c.toNat:Int)=114\/(c.toNat:Int)=99\/(c.toNat:Int)=109):=by unfold Thk.isKind;simp;omega
theorem lJ(s:ByteArray)(w:World)(hs:s.size<=1048576):Calls prog 229 #[.string s] w λe w'=>e=.returned (.bool (Thk.seg s.data.toList))/\w'=w:=by
 by_cases hl:s.size<2\/5<s.size
 ·have hfin:Hid (Thk.seg s.data.toList=false):=Thk.rF _ (by simpa using hl);have hd:(decide ((s.size:Int)<2)||decide (5<(s.size:Int)))=true:=by simp;omega
  go_enter func229,ntmps229;go_wp2;all_goals
   go_ret;exact⟨aY hfin.out.symm,rfl⟩
 ·have h2:¬s.size<2:=by omega
  have h5:¬5<s.size:=by omega
  go_enter func229,ntmps229;go_wp2
  go_loop [3] (λi=>∃k:Nat,1<=k/\k<=s.size/\i=.int .i64 k/\∀j(h:j<s.data.toList.length),1<=j->j<k->Thk.isLow s.data.toList[j]=true) (λi=>s.size-(intOf i).toNat)
  case atStart=>exact⟨1,by omega,by omega,rfl,λj _ a b=>by omega⟩
  case round =>
   obtain⟨k,hk1,hk,rfl,hall⟩:=hrel;have dX:Hid (∀j(h:j<s.data.toList.length),1<=j->j<k->Thk.isLow s.data.toList[j]=true):=hall;clear hall;by_cases hlt:k<s.size
   ·by_cases hlow:97<=(s[k].toNat:Int)/\(s[k].toNat:Int)<=122
    ·obtain⟨ha,hb⟩:=hlow;go_wp2;all_goals
      go_round
      case rel =>
       refine⟨k+1,by omega,by omega,by go_num,λj h a b=>?_⟩;by_cases e:j=k
       ·subst e;rw[byte_at s j hlt];unfold Thk.isLow;simp;omega
       ·exact dX.out j h a (by omega)
      case measure=>simp[intOf];omega
    ·have hfin:Hid (Thk.seg s.data.toList=false):=Thk.CS _ k (by simpa using hlt) hk1 (by rw[byte_at s k hlt,Bool.eq_false_iff];unfold Thk.isLow;simp;omega);have hd:(decide ((s[k].toNat:Int)<97)||decide (122<(s[k].toNat:Int)))=true:=by simp;omega
     go_wp2;all_goals
      first
       | (go_ret;exact⟨aY hfin.out.symm,rfl⟩)
       | (exfalso;omega)
   ·have hfin:Hid (Thk.seg s.data.toList=Thk.isKind (s[0]'(by omega))):=by have h:=Thk.VI s.data.toList (by simp;omega) (by simp;omega) (λi h a=>dX.out i h a (by simp at h;omega));exact h.trans (by rw[byte_at s 0 (by omega)])
    go_wp2;all_goals
     go_ret;refine⟨aY ?_,rfl⟩;rw[hfin.out,Bool.eq_iff_iff,Iq];simp;try omega
theorem toList_eq(s:ByteArray):s.toList=s.data.toList:=ByteArray.toList_eq s
theorem extract_toList(s:ByteArray)(a b:Nat):(s.extract a b).toList=(s.data.toList.take b).drop a:=by rw[toList_eq];simp[ByteArray.data_extract,List.extract_eq_take_drop,List.drop_take]
theorem OT(s p:ByteArray)(h:(s.toList==p.toList)=true):Thk.begins s.data.toList p.data.toList=true:=by rw[toList_eq,toList_eq]at h;unfold Thk.begins;rw[h];(first|done|rfl)
theorem OU(s p:ByteArray)(h1:(s.toList==p.toList)=false)(h2:p.size<s.size)(h3:(s.extract 0 p.size).toList=p.toList):Thk.begins s.data.toList p.data.toList=((s[p.size].toNat:Int)==47):=by
 rw[toList_eq,toList_eq]at h1;rw[extract_toList,toList_eq]at h3;unfold Thk.begins;have e:s.data.toList.take p.data.toList.length=p.data.toList:=by simpa using h3
 have l:p.data.toList.length<s.data.toList.length:=by simpa using h2
 rw[h1,e,List.getElem?_eq_getElem l,byte_at s _ (by simpa using h2)];have hd:decide (p.data.toList.length<s.data.toList.length)=true:=by simpa using l
 rw[hd];simp;have:p.data.toList.length=p.size:=by simp
 rw[Bool.eq_iff_iff];simp;omega
theorem OV(s p:ByteArray)(h1:(s.toList==p.toList)=false)(h2:p.size<s.size)(h3:¬(s.extract 0 p.size).toList=p.toList):Thk.begins s.data.toList p.data.toList=false:=by
 rw[toList_eq,toList_eq]at h1;rw[extract_toList,toList_eq]at h3;unfold Thk.begins;have e:(s.data.toList.take p.data.toList.length==p.data.toList)=false:=by simpa using h3
 rw[h1,e];simp
theorem OW(s p:ByteArray)(h1:(s.toList==p.toList)=false)(h2:¬p.size<s.size):Thk.begins s.data.toList p.data.toList=false:=by
 rw[toList_eq,toList_eq]at h1;unfold Thk.begins;have hd:decide (p.data.toList.length<s.data.toList.length)=false:=by simpa using h2
 rw[h1,hd];simp
theorem xX(s p:ByteArray)(w:World)(hs:s.size<=1048576)(hp:p.size<=1048576):Calls prog 234 #[.string s,.string p] w λe w'=>e=.returned (.bool (Thk.begins s.data.toList p.data.toList))/\w'=w:=by
 go_enter func234,ntmps234;go_wp2
 ·go_ret;rename_i h;exact⟨aY (OT s p h).symm,rfl⟩
 ·go_ret;rename_i h1 h2 h3;exact⟨aY (OU s p h1 h2 h3).symm,rfl⟩
 ·go_ret;rename_i h1 h2 h3;exact⟨aY (OV s p h1 h2 h3).symm,rfl⟩
 ·go_ret;rename_i h1 h2;exact⟨aY (OW s p h1 h2).symm,rfl⟩
def dA(B:Nat)(w:World)(v:Value)(xs:List Value):Prop :=
 (v=.slice none 0 0/\xs=[]) \/
  ∃b off cap,v=.slice (some ⟨b,off,none⟩) xs.length cap/\xs.length<=cap/\b<B/\∀j(h:j<xs.length),w.cell? ⟨b,off+j,none⟩=some xs[j]
theorem dA.mono{B':Nat}(h:dA B w v xs)(hB:B<=B'):dA B' w v xs:=by
 rcases h with h|⟨b,off,cap,h1,h2,h3,h4⟩
 ·exact Or.inl h
 ·exact Or.inr ⟨b,off,cap,h1,h2,by omega,h4⟩
theorem dA.below{w':World}(h:dA B w v xs)(hb:Below B w w'):dA B w' v xs:=by
 rcases h with h|⟨b,off,cap,h1,h2,h3,h4⟩
 ·exact Or.inl h
 ·exact Or.inr ⟨b,off,cap,h1,h2,h3,λj hj=>(hb.cell (p:=⟨b,off+j,none⟩) h3).trans (h4 j hj)⟩
def bools(l:List Bool):List Value:=l.map Value.bool
def strs(l:List ByteArray):List Value:=l.map Value.string
def rY(l:List Nat):List Value:=l.map (λ(n:Nat)=>Value.int .i64 n)
def ig(a:UInt8):Bool:=a.toNat==43||a.toNat==94||a.toNat==61||a.toNat==62
theorem Ir(p:ByteArray)(a:UInt8)(v:ByteArray)(n:Int)(xC:Value)(w:World):Calls prog 230 #[.agg #[.string p,.int .u8 (a.toNat:Int),.string v,.int .i64 n,xC]] w λe w'=>e=.returned (.bool (ig a))/\Below w.heap.size w w':=by
 go_enter func230,ntmps230;go_wp2;all_goals
  go_ret;refine⟨aY ?_,(Below.refl _ _).alloc (Nat.le_refl _) _⟩;unfold ig;rw[Bool.eq_iff_iff];simp;try omega
theorem Iu(l:List Bool)(k:Nat)(h:k<(bools l).length):(bools l)[k]=.bool (l.getD k false):=by simp[bools,List.getElem?_eq_getElem (show k<l.length by simpa[bools]using h)]
theorem uQ(B:Nat)(v:Value)(l:List Bool)(k:Nat)(w:World)(hk:k<=1048576)(hl:l.length<=1048576)(hv:dA B w v (bools l)):Calls prog 231 #[v,.int .i64 k] w λe w'=>e=.returned (.bool (l.getD k false))/\w'=w:=by
 rcases hv with⟨rfl,hx⟩|⟨b,off,cap,rfl,hcap,hb,hc⟩
 ·have:l=[]:=by simpa[bools]using hx
  subst this;go_enter func231,ntmps231;go_wp2;go_ret;exact⟨by simp,rfl⟩
 ·have hlen:(bools l).length=l.length:=by simp[bools]
  rw[hlen];by_cases h:k<l.length
  ·have hck:w.cell? ⟨b,off+k,none⟩=some (.bool (l.getD k false)):=by rw[hc k (by omega),Iu]
   generalize hx:l.getD k false=x at *;clear hc hx hlen;go_enter func231,ntmps231;go_wp2;go_ret;exact⟨rfl,rfl⟩
  ·clear hc;have hd:l.getD k false=false:=by simp;rw[List.getElem?_eq_none (by omega)];(first|done|rfl)
   rw[hd];clear hd hlen;go_enter func231,ntmps231;go_wp2;go_ret;exact⟨rfl,rfl⟩
def ny(dp:Thk.Bs)(da:UInt8)(dv:Thk.Bs)(ep:Thk.Bs)(ea:UInt8)(ev:Thk.Bs):Bool :=
 if(da.toNat:Int)=33 then Thk.begins ep dp
 else if dp≠ep then false
 else if(ea.toNat:Int)=43 then((da.toNat:Int)==43||(da.toNat:Int)==45)&&dv==ev
 else if(ea.toNat:Int)=94 then(da.toNat:Int)==94||(da.toNat:Int)==95
 else if(ea.toNat:Int)=61 then(da.toNat:Int)==61
 else false
theorem Iw(dp dv ep ev:ByteArray)(da ea:UInt8)(dn en:Int)(ds es:Value)(w:World)(h1:dp.size<=1048576)(h2:ep.size<=1048576):Calls prog 232 #[.agg #[.string dp,.int .u8 (da.toNat:Int),.string dv,.int .i64 dn,ds],.agg #[.string ep,.int .u8 (ea.toNat:Int),.string ev,.int .i64 en,es]] w λe w'=>e=.returned (.bool (ny dp.data.toList da dv.data.toList ep.data.toList ea ev.data.toList))/\Below w.heap.size w w':=by
 go_enter func232,ntmps232;go_wp2_with (go_at_call 234;refine(xX _ _ _ h2 h1).mono ?_;rintro e w'⟨rfl,rfl⟩);all_goals
  go_ret;refine⟨aY ?_,((Below.refl _ _).alloc (Nat.le_refl _) _).alloc (by simp) _⟩;simp only[toList_eq,Bool.not_eq_true',Bool.not_eq_false',beq_iff_eq,beq_eq_false_iff_ne]at *;unfold ny;simp[*]
theorem Tryz.info9:(prog.info? 9).map (λi=>(i.zero,i.size,i.bytes))=some (some (.string ⟨#[]⟩),1,16):=by kernel_rfl
def ah(s:ByteArray):Thk.Bs:=s.data.toList
theorem eU(s:ByteArray)(a b:Nat):ah (s.extract a b)=((ah s).take b).drop a:=by have h:=extract_toList s a b;rw[toList_eq]at h;exact h
theorem grown_below{wr w1:World}{o:Obj}{e:TypeId}{size n:Nat}(hn:Below B w wr)(hB:B<=w.heap.size)(hown:wr.ownsRow B e size v n xs)(hg:(wr.alloc o).grownBy w1 v.ownBlock):Below B w w1 :=
 (hn.alloc (Nat.le_trans hB hn.size) o).grown hg (by have:=hn.size;simp;omega) (λk hk=>(hown.lt k hk).1)
theorem uS(s:ByteArray)(c:UInt8)(w:World)(hs:s.size<=1048576):Calls prog 228 #[.string s,.int .u8 (c.toNat:Int)] w λe w' => ∃v ps,e=.returned v/\w'.ownsRow w.heap.size 9 1 v ps.length (strs ps)/\ps.map ah=Thk.split c (ah s)/\ps.length<=s.size+1/\(∀p∈ps,p.size<=s.size)/\Below w.heap.size w w':=by
 obtain⟨i0,hi,hz0,hz1,hz2⟩:=info_parts Tryz.info9;go_enter func228,ntmps228;go_wp2;go_loopw [5,6,7] (λv f i wr=>∃(k a:Nat)(ps:List ByteArray),k<=s.size/\a<=k/\ps.length<=k/\i=.int .i64 k/\f=.int .i64 a/\wr.ownsRow w.heap.size 9 1 v ps.length (strs ps)/\Below w.heap.size w wr /\
   Hid (Thk.split c (ah s)=ps.map ah++Thk.bH c (((ah s).take k).drop a) ((ah s).drop k))/\Hid (∀p∈ps,p.size<=s.size)) (λ_ _ i _=>s.size-(intOf i).toNat)
 case atStart=>exact⟨0,0,[],by omega,by omega,by simp,rfl,rfl,World.ownsRow_nil _ _ _ _,Below.refl _ _,by unfold Hid Thk.split;simp,by intro p hp;simp at hp⟩
 case round =>
  obtain⟨k,a,ps,hk,ha,hpl,rfl,rfl,hown,hnx,XQ,Hps⟩:=hrel;by_cases hlt:k<s.size
  ·by_cases hc:s[k]=c
   ·have hd:((s[k].toNat:Int)==(c.toNat:Int))=true:=by rw[hc];simp
    go_wp2_with (at_builtin;refine wpList_append_own _ rfl _ _ 141 rfl w.heap.size 9 i0 (.string ⟨#[]⟩) 1 16 underlying141 hi hz0 hz1 hz2 rfl (by decide) _ _ _ rfl (hown.alloc _) ⟨wr.heap.size,0,none⟩ 1 1 [.string (s.extract a k)] rfl rfl ?c1 ?c2 ?c3 ?c4 ?c5 ?_);case c1=>exact cell_one_new _ _ _
    case c2=>intro u hu;simp at hu;subst hu;rfl
    case c3=>unfold maxLen;omega
    case c4=>omega
    case c5=>have:=hnx.size;simp;omega
    ·intro v' w1 hown' hgrow _;have hb1:=grown_below hnx (Nat.le_refl _) hown hgrow;clear hgrow hown;go_wp2;go_roundw;case rel =>
      refine⟨k+1,k+1,ps++[s.extract a k],by omega,by omega,by simp;omega,by go_num,by go_num,by simpa[strs]using hown',hb1, ?_, ?_⟩
      ·have h:=Thk.Ah c (ah s) (ps.map ah) a k (by simpa[ah]using hlt) (by simp only[ah];rw[byte_at s k hlt];exact hc) XQ.out;unfold Hid;rw[h,List.map_append];simp[eU]
      ·intro p hp;rcases List.mem_append.1 hp with hp|hp
       ·exact Hps.out p hp
       ·simp at hp;subst hp;simp[ByteArray.size_extract];omega
     case measure=>simp[intOf];omega
   ·have hd:((s[k].toNat:Int)==(c.toNat:Int))=false:=by rw[beq_eq_false_iff_ne];intro h;apply hc;apply UInt8.toNat_inj.1;omega
    go_wp2;go_roundw;case rel =>exact⟨k+1,a,ps,by omega,by omega,by omega,by go_num,rfl,hown,hnx,Thk.Ag c (ah s) (ps.map ah) a k (by simpa[ah]using hlt) ha (by simp only[ah];rw[byte_at s k hlt];exact hc) XQ.out,Hps⟩
    case measure=>simp[intOf];omega
  ·have hks:k=s.size:=by omega
   subst hks;go_wp2_with (at_builtin;refine wpList_append_own _ rfl _ _ 141 rfl w.heap.size 9 i0 (.string ⟨#[]⟩) 1 16 underlying141 hi hz0 hz1 hz2 rfl (by decide) _ _ _ rfl (hown.alloc _) ⟨wr.heap.size,0,none⟩ 1 1 [.string (s.extract a s.size)] rfl rfl ?d1 ?d2 ?d3 ?d4 ?d5 ?_);case d1=>exact cell_one_new _ _ _
   case d2=>intro u hu;simp at hu;subst hu;rfl
   case d3=>unfold maxLen;omega
   case d4=>omega
   case d5=>have:=hnx.size;simp;omega
   ·intro v' w1 hown' hgrow _;have hb1:=grown_below hnx (Nat.le_refl _) hown hgrow;clear hgrow hown;go_wp2;go_ret;refine⟨v',ps++[s.extract a s.size],rfl,by simpa[strs]using hown', ?_,by simp;omega, ?_,hb1⟩
    ·have e:(ah s).length=s.size:=by simp[ah]
     have h:=Thk.LK c (ah s) (ps.map ah) a (by rw[e];exact XQ.out);rw[h,List.map_append,List.map_cons,List.map_nil,eU,<- e,List.take_length]
    ·intro p hp;rcases List.mem_append.1 hp with hp|hp
     ·exact Hps.out p hp
     ·simp at hp;subst hp;simp[ByteArray.size_extract]
end Go.Proofs.YtfmmllpjgkgeaaaGreatDoor
namespace Go.Proofs.YtfmmllpjgkgeaaaGreatDoor.Thk
open Go.Proofs.Tryz
def kG(ps:List Bs):Bool:=decide (ps.length<=3)&&ps.all seg&&ps.dropLast.all (λp=>p.head?==some 109)
def path(l:Bs):Bool:=kG (split 47 l)
def kindOf(l:Bs):UInt8:=(((split 47 l).getLast?.getD []).head?).getD 0
theorem wR(c:UInt8):∀(cur l:Bs),bH c cur l≠[]:=by
 intro cur l;induction l generalizing cur with
 | nil=>simp[bH]
 | cons x r ih=>unfold bH;split<;>simp[ih]
theorem ji(c:UInt8)(l:Bs):split c l≠[]:=wR c [] l
theorem ou(ps:List Bs)(j:Nat)(h:j<ps.length)(hs:seg ps[j]=false):kG ps=false:=by
 have:ps.all seg=false:=by rw[List.all_eq_false];exact⟨ps[j],List.getElem_mem _,by simp[hs]⟩
 unfold kG;rw[this];simp
theorem oz(ps:List Bs)(j:Nat)(h:j+1<ps.length)(hs:(ps[j].head?==some 109)=false):kG ps=false:=by
 have:ps.dropLast.all (λp=>p.head?==some 109)=false:=by rw[List.all_eq_false];refine⟨ps[j], ?_,by rw[hs];simp⟩;have e:ps.dropLast[j]'(by simp;omega)=ps[j]:=List.getElem_dropLast _;rw[<- e];exact List.getElem_mem _
 unfold kG;rw[this];simp
theorem ED(ps:List Bs)(h1:∀j(h:j<ps.length),seg ps[j]=true)(h2:∀j(h:j<ps.length),j+1<ps.length->ps[j].head? = some 109):kG ps=decide (ps.length<=3):=by
 have a:ps.all seg=true:=by rw[List.all_eq_true];intro x hx;obtain⟨i,hi,rfl⟩:=List.getElem_of_mem hx;exact h1 i hi
 have b:ps.dropLast.all (λp=>p.head?==some 109)=true:=by rw[List.all_eq_true];intro x hx;obtain⟨i,hi,rfl⟩:=List.getElem_of_mem hx;rw[List.getElem_dropLast];simp at hi;rw[h2 i (by omega) (by omega)];(first|done|rfl)
 unfold kG;rw[a,b];simp
theorem CV(l:Bs)(h:seg l=true):2<=l.length:=by unfold seg at h;simp at h;omega
theorem A8(l:Bs)(h:path l=true):∃(hn:0<(split 47 l).length),2<=((split 47 l)[(split 47 l).length-1]'(by omega)).length/\(((split 47 l)[(split 47 l).length-1]'(by omega))[0]?)=some (kindOf l):=by
 have hn:0<(split 47 l).length:=List.length_pos_iff.2 (ji 47 l);refine⟨hn, ?_⟩;have hs:seg ((split 47 l)[(split 47 l).length-1]'(by omega))=true:=by unfold path kG at h;simp only[Bool.and_eq_true]at h;exact List.all_eq_true.1 h.1.2 _ (List.getElem_mem _)
 have h2:=CV _ hs;refine⟨h2, ?_⟩;have e:(split 47 l).getLast? = some ((split 47 l)[(split 47 l).length-1]'(by omega)):=by rw[List.getLast?_eq_getElem?,List.getElem?_eq_getElem]
 unfold kindOf;rw[e];generalize (split 47 l)[(split 47 l).length-1]'(by omega)=q at *;cases q with
 | nil=>simp at h2
 | cons a r=>rfl
def tu(c:UInt8):Nat:=c.toNat-48
def dY(l:Bs):Nat:=l.foldl (λn c=>10*n+tu c) 0
def jk(neg:Bool)(l:Bs):Bool:=decide (l.length<1)||decide (10<l.length)||(l.head?==some 48&&(decide (1<l.length)||neg))
def eY(neg:Bool)(l:Bs):Option Int :=
 if jk neg l then none else if l.all cO&&decide (dY l<=1000000000)then some (if neg then -(dY l:Int) else(dY l:Int))else none
def num(l:Bs):Option Int:=if l.head? = some 45 then eY true l.tail else eY false l
theorem mJ(l:Bs)(c:UInt8):dY (l++[c])=10*dY l+tu c:=by unfold dY;simp
theorem CW(l:Bs)(h:l.all cO=true):dY l<10 ^ l.length:=by
 have key:∀(r:Bs),r.all cO=true->∀n m:Nat,n<10 ^ m->r.foldl (λn c=>10*n+tu c) n<10 ^ (m+r.length):=by
  intro r;induction r with
  | nil=>intro _ n m h;simpa using h
  | cons x r ih =>
   intro hr n m hn;simp only[List.all_cons,Bool.and_eq_true]at hr;have hx:tu x<=9:=by have:=hr.1;unfold cO at this;unfold tu;simp at this;omega
   have:=ih hr.2 (10*n+tu x) (m+1) (by rw[Nat.pow_succ];omega);simp only[List.foldl_cons,List.length_cons];rw[show m+(r.length+1)=m+1+r.length by omega];exact this
 have:=key l h 0 0 (by simp);simpa[dY]using this
end Go.Proofs.YtfmmllpjgkgeaaaGreatDoor.Thk
namespace Go.Proofs.YtfmmllpjgkgeaaaGreatDoor
open Go.Proofs.Tryz Go.RowKit
theorem qK{w:World}{B:Nat}{e:TypeId}{v:Value}{n:Nat}{xs:List Value}(h:w.ownsRow B e 1 v n xs):(v=.slice none 0 0/\n=0/\xs=[])\/∃g cap,v=.slice (some ⟨g,0,none⟩) n cap/\n<=cap/\cap<=maxLen/\B<=g/\g<w.heap.size/\xs.length=n/\∀j(h:j<xs.length),w.cell? ⟨g,j,none⟩=some xs[j]:=by
 have h0:=h;obtain⟨hl,h|⟨g,cap,cur,rfl,hg,hh,hc,hm,hs,hx⟩⟩:=h
 ·exact Or.inl ⟨h.1,h.2,List.eq_nil_of_length_eq_zero (by rw[hl,h.2])⟩
 ·refine Or.inr ⟨g,cap,rfl,hc,hm,hg,(h0.lt g rfl).2,by omega,λj hj=>?_⟩;rw[h0.cellAt j (by omega),List.getElem?_eq_getElem hj]
theorem Ba{w:World}{B:Nat}{e:TypeId}{v:Value}{n:Nat}{xs:List Value}(h:w.ownsRow B e 1 v n xs):dA w.heap.size w v xs:=by
 rcases qK h with⟨h1,h2,h3⟩|⟨g,cap,h1,h2,h3,h4,h5,h6,h7⟩
 ·exact Or.inl ⟨h1,h3⟩
 ·refine Or.inr ⟨g,0,cap,by rw[h6];exact h1,by omega,h5,λj hj=>?_⟩;rw[Nat.zero_add];exact h7 j hj
theorem CX{k:IntKind}{a b:Int}(h:a=b):Ending.returned (.int k a)=.returned (.int k b):=by rw[h]
theorem aB(s:ByteArray):(ah s).length=s.size:=by simp[ah]
theorem EF(s:ByteArray)(w:World)(hs:s.size<=1048576)(hp:Thk.path (ah s)=true):Calls prog 233 #[.string s] w λe w'=>e=.returned (.int .u8 ((Thk.kindOf (ah s)).toNat:Int))/\Below w.heap.size w w':=by
 obtain⟨hn,h2,h0⟩:=Thk.A8 _ hp;have Hn:=hn;have H2:Hid (_):=h2;have H0:Hid (_):=h0;clear h2 h0 hp;go_enter func233,ntmps233;go_wp2_with fail;refine(uS s 47 _ hs).mono ?_;rintro e w1⟨v,ps,rfl,hown,hps,hpl,hpz,hb⟩;rcases qK hown with⟨rfl,h2,h3⟩|⟨g,cap,rfl,hcap,hcm,hg,hgs,hxl,hcells⟩
 ·exfalso;rw[<- hps]at Hn;simp at Hn;omega
 ·have hpos:0<ps.length:=by rw[<- hps]at Hn;simpa using Hn
  have hlast:=hcells (ps.length-1) (by simp[strs];omega);have hel:(strs ps)[ps.length-1]'(by simp[strs];omega)=.string (ps[ps.length-1]'(by omega)):=by simp[strs]
  rw[hel]at hlast;have hmem:(ps[ps.length-1]'(by omega)).size<=s.size:=hpz _ (List.getElem_mem _);obtain⟨q,hq⟩:∃q,q=ps[ps.length-1]'(by omega):=⟨_,rfl⟩;rw[<- hq]at hlast hmem;have hsp:(Thk.split 47 (ah s))[(Thk.split 47 (ah s)).length-1]'(by omega)=ah q:=by rw[hq];simp only[<- hps,List.getElem_map,List.length_map]
  have h2:=H2.out;have h0:=H0.out;rw[hsp]at h2 h0;have hqz:2<=q.size:=by rw[aB]at h2;exact h2
  have hfin:Hid (q[0].toNat=(Thk.kindOf (ah s)).toNat):=by rw[List.getElem?_eq_getElem (by omega)]at h0;simp only[Option.some.injEq]at h0;have:=byte_at q 0 (by omega);unfold Hid;rw[<- h0,<- this];(first|done|rfl)
  have hpl2:ps.length<=1048577:=by omega
  clear hsp h2 h0 H2 H0 hcells hel hq hps hpz hown;go_wp2;go_ret;exact⟨CX (congrArg Nat.cast hfin.out),hb⟩
theorem mM(q:ByteArray)(h:0<q.size):(ah q).head? = some q[0]:=by have:=byte_at q 0 h;rw[List.head?_eq_getElem?,List.getElem?_eq_getElem (by simpa[ah]using h)];simp only[ah,Option.some.injEq];exact this
theorem EG(s:ByteArray)(w:World)(hs:s.size<=1048576):Calls prog 172 #[.string s] w λe w'=>e=.returned (.bool (Thk.path (ah s)))/\Below w.heap.size w w':=by
 go_enter func172,ntmps172;go_wp2_with fail;refine(uS s 47 _ hs).mono ?_;rintro e w1⟨v,ps,rfl,hown,hps,hpl,hpz,hb⟩;rcases qK hown with⟨rfl,h2,h3⟩|⟨g,cap,rfl,hcap,hcm,hg,hgs,hxl,hcells⟩
 ·exfalso;have:=Thk.ji 47 (ah s);rw[<- hps]at this;simp at this;apply this;apply List.eq_nil_of_length_eq_zero h2
 ·have xY:Hid (Thk.path (ah s)=Thk.kG (ps.map ah)):=by unfold Hid Thk.path;rw[hps]
  have VK:Hid (∀j(h:j<ps.length),w1.cell? ⟨g,j,none⟩=some (.string ps[j])):=by intro j h;rw[hcells j (by simpa[strs]using h)];simp[strs]
  have Hpz:Hid (∀p∈ps,p.size<=s.size):=hpz;clear hcells hps hpz hown;go_wp2
  go_loop [4] (λi=>∃k:Nat,k<=ps.length/\i=.int .i64 k/\Hid (∀j(h:j<ps.length),j<k->Thk.seg (ah ps[j])=true/\(j+1<ps.length->(ah ps[j]).head? = some 109))) (λi=>ps.length-(intOf i).toNat)
  case atStart=>exact⟨0,by omega,rfl,λj _ b=>by omega⟩
  case round =>
   obtain⟨k,hk,rfl,hall⟩:=hrel;by_cases hlt:k<ps.length
   ·have hck:=VK.out k hlt;have hqz:=Hpz.out _ (List.getElem_mem hlt);have xZ:Hid (Thk.seg (ah ps[k])=true->(k+1<ps.length->(ah ps[k]).head? = some 109)->∀j(h:j<ps.length),j<k+1->Thk.seg (ah ps[j])=true/\(j+1<ps.length->(ah ps[j]).head? = some 109)):=by
     intro h1 h2 j h b;by_cases e:j=k
     ·subst e;exact⟨h1,h2⟩
     ·exact hall.out j h (by omega)
    have Hf1:Hid (Thk.seg (ah ps[k])=false->Thk.kG (ps.map ah)=false):=λh=>Thk.ou _ k (by simpa using hlt) (by simpa using h);have KC:Hid (k+1<ps.length->((ah ps[k]).head?==some 109)=false->Thk.kG (ps.map ah)=false):=λh1 h=>Thk.oz _ k (by simpa using h1) (by simpa using h);clear hall;generalize ps[k]=q at *;cases hseg:Thk.seg (ah q)
    ·have hfin:Hid (Thk.path (ah s)=false):=xY.out.trans (Hf1.out hseg);have tH:Hid (Thk.seg q.data.toList=false):=hseg;clear hseg xZ Hf1 KC;go_wp2_with (go_at_call 229;refine(lJ q _ (by omega)).mono ?_;rintro e w'⟨rfl,rfl⟩;rw[tH.out]);go_ret;exact⟨aY hfin.out.symm,hb⟩
    ·have hq2:2<=q.size:=by have:=Thk.CV _ hseg;rwa [aB]at this
     have tH:Hid (Thk.seg q.data.toList=true):=hseg;have OX:Hid (_):=xZ.out hseg;clear hseg xZ Hf1;have hh:=mM q (by omega);by_cases hl:k+1<ps.length
     ·by_cases hm:q[0]=109
      ·have Iy:Hid (_):=OX.out (λ_=>by rw[hh,hm]);have hd:((q[0].toNat:Int) !=109)=false:=by rw[hm];(first|done|rfl)
       clear KC OX hh hm;go_wp2_with (go_at_call 229;refine(lJ q _ (by omega)).mono ?_;rintro e w'⟨rfl,rfl⟩;rw[tH.out])
       go_round
       case rel=>exact⟨k+1,by omega,by go_num,Iy⟩
       case measure=>simp[intOf];omega
      ·have hfin:Hid (Thk.path (ah s)=false):=xY.out.trans (KC.out hl (by rw[hh];simpa using hm));have hd:((q[0].toNat:Int) !=109)=true:=by rw[bne_iff_ne];intro h;apply hm;apply UInt8.toNat_inj.1;have:(109:UInt8).toNat=109:=rfl;omega
       clear KC OX hh hm;go_wp2_with (go_at_call 229;refine(lJ q _ (by omega)).mono ?_;rintro e w'⟨rfl,rfl⟩;rw[tH.out]);go_ret;exact⟨aY hfin.out.symm,hb⟩
     ·have Iy:Hid (_):=OX.out (λh=>absurd h hl);clear KC OX hh;go_wp2_with (go_at_call 229;refine(lJ q _ (by omega)).mono ?_;rintro e w'⟨rfl,rfl⟩;rw[tH.out])
      go_round
      case rel=>exact⟨k+1,by omega,by go_num,Iy⟩
      case measure=>simp[intOf];omega
   ·have hfin:Hid (Thk.path (ah s)=decide (ps.length<=3)):=by
     refine xY.out.trans ((Thk.ED _ (λj h=>?_) (λj h h2=>?_)).trans (by simp))
     ·simp only[List.getElem_map];exact(hall.out j (by simpa using h) (by simp at h;omega)).1
     ·simp only[List.getElem_map];exact(hall.out j (by simpa using h) (by simp at h;omega)).2 (by simpa using h2)
    clear hall;go_wp2;go_ret;exact⟨aY (by rw[hfin.out];rw[Bool.eq_iff_iff];simp;omega),hb⟩
end Go.Proofs.YtfmmllpjgkgeaaaGreatDoor
namespace Go.Proofs.YtfmmllpjgkgeaaaGreatDoor.Thk
open Go.Proofs.Tryz
def oQ:Bs->Bs->Bool
 | [],[]=>false
 | [],_::_=>true
 | _::_,[]=>false
 | a::l,b::m=>decide (a.toNat<b.toNat)||(a==b&&oQ l m)
def ins(l:List Bs)(s:Bs):List Bs:=match l with
 | []=>[s]
 | x::r=>if s=x then x::r else if oQ s x then s::x::r else x::ins r s
def bG(s:Bs)(p:List Bs×Bool)(x:Bs):List Bs×Bool :=
 ((if x≠s then(if p.2=false/\(oQ s x||s==x)=true then p.1++[s]else p.1)++[x] else(if p.2=false/\(oQ s x||s==x)=true then p.1++[s]else p.1)),p.2||(oQ s x||s==x))
def kH(l:List Bs)(s:Bs):List Bs:=let p:=l.foldl (bG s) ([],false);if p.2 then p.1 else p.1++[s]
def KD(acc:Bs):List Bs->Bs
 | []=>acc
 | x::r=>KD (acc++[44]++x) r
def joined:List Bs->Bs
 | []=>[]
 | x::r=>KD x r
def jl(l:List Bs):Nat->Bs
 | 0=>[]
 | k+1=>(if k=0 then jl l k else jl l k++[44])++l.getD k []
def rZ(n:Nat):Bs:=if h:n<10 then [UInt8.ofNat (48+n)]else rZ (n / 10)++[UInt8.ofNat (48+n % 10)]
def digits(n:Int):Bs:=if n<0 then 45::rZ n.natAbs else rZ n.natAbs
theorem Iz(n:Nat)(h:n<10):rZ n=[UInt8.ofNat (48+n)]:=by rw[rZ,dif_pos h]
theorem OY(n:Nat)(h:¬n<10):rZ n=rZ (n / 10)++[UInt8.ofNat (48+n % 10)]:=by rw[rZ,dif_neg h]
def upper(m:Nat):Bs:=if m<10 then []else rZ (m / 10)
theorem x9(m:Nat):rZ m=upper m++[UInt8.ofNat (48+m % 10)]:=by
 unfold upper;by_cases h:m<10
 ·rw[if_pos h,Iz m h,Nat.mod_eq_of_lt h];(first|done|rfl)
 ·rw[if_neg h,OY m h]
theorem IB(m:Nat)(h:¬m<10):upper m=upper (m / 10)++[UInt8.ofNat (48+m / 10 % 10)]:=by
 conv=>lhs;unfold upper
 rw[if_neg h,x9]
end Go.Proofs.YtfmmllpjgkgeaaaGreatDoor.Thk
namespace Go.Proofs.YtfmmllpjgkgeaaaGreatDoor
open Go.Proofs.Tryz Go.RowKit
theorem jF(a b:ByteArray):ah (a++b)=ah a++ah b:=by simp[ah]
theorem lK{a b:ByteArray}(h:ah a=ah b):a=b:=by cases a with|mk a=>cases b with|mk b=>congr 1;exact Array.toList_inj.1 h
theorem IC(B:Nat)(v:Value)(ss:List ByteArray)(w:World)(hl:ss.length<=1000)(hz:∀s∈ss,s.size<=1000)(hv:dA B w v (strs ss)):Calls prog 237 #[v] w λe w'=>∃t,e=.returned (.string t)/\ah t=Thk.jl (ss.map ah) ss.length/\t.size<=1001*ss.length/\w'=w:=by
 rcases hv with⟨rfl,hx⟩|⟨b,off,cap,rfl,hcap,hb,hc⟩
 ·have:ss=[]:=by simpa[strs]using hx
  subst this;go_enter func237,ntmps237;go_wp2
  go_rounds 1
  go_ret;exact⟨ByteArray.empty,rfl,rfl,by simp,rfl⟩
 ·have hlen:(strs ss).length=ss.length:=by simp[strs]
  rw[hlen]at hcap⊢;have Hc:Hid (∀j(h:j<ss.length),w.cell? ⟨b,off+j,none⟩=some (.string ss[j])):=by intro j h;rw[hc j (by omega)];simp[strs]
  have Hz:Hid (_):=hz;clear hc hlen hz;go_enter func237,ntmps237;go_wp2
  go_loop [3,4] (λt i=>∃(k:Nat)(u:ByteArray),k<=ss.length/\i=.int .i64 k/\t=.string u/\Hid (ah u=Thk.jl (ss.map ah) k)/\u.size<=1001*k) (λ_ i=>ss.length-(intOf i).toNat)
  case atStart=>exact⟨0,ByteArray.empty,by omega,rfl,rfl,rfl,by simp⟩
  case round =>
   obtain⟨k,u,hk,rfl,rfl,Hu,hus⟩:=hrel;by_cases hlt:k<ss.length
   ·have hck:=Hc.out k hlt;have hqz:=Hz.out _ (List.getElem_mem hlt);have Hg:Hid ((ss.map ah).getD k []=ah ss[k]):=by unfold Hid;rw[List.getD_eq_getElem?_getD,List.getElem?_eq_getElem (by simpa using hlt)];simp
    generalize ss[k]=q at *;by_cases h0:k=0
    ·subst h0;rw[Nat.add_zero]at hck;have Hj:Hid (ah (u++q)=Thk.jl (ss.map ah) 1):=by unfold Hid;rw[jF,Hu.out];simp only[Thk.jl];rw[if_pos trivial,Hg.out]
     clear Hg Hu;go_wp2
     go_round
     case rel=>exact⟨1,u++q,by omega,by go_num,rfl,Hj,by simp;omega⟩
     case measure=>simp[intOf];omega
    ·have h0':0<k:=by omega
     have Hj:Hid (ah (u++⟨#[44]⟩++q)=Thk.jl (ss.map ah) (k+1)):=by unfold Hid;rw[jF,jF,Hu.out];simp only[Thk.jl];rw[if_neg h0,Hg.out];(first|done|rfl)
     have hsz:(u++⟨#[44]⟩++q).size<=1001*(k+1):=by rw[ByteArray.size_append,ByteArray.size_append];have:(ByteArray.mk #[44]).size=1:=rfl;omega
     have Yj:Hid (_):=hsz;clear Hg Hu hsz;go_wp2
     go_round
     case rel=>exact⟨k+1,u++⟨#[44]⟩++q,by omega,by go_num,rfl,Hj,Yj.out⟩
     case measure=>simp[intOf];omega
   ·go_wp2;go_ret;have:k=ss.length:=by omega
    subst this;exact⟨u,rfl,Hu.out,hus,rfl⟩
theorem OZ(wx:World)(x:Int):(convert 93 9 (.slice (some ⟨wx.heap.size,0,none⟩) 1 1)).run prog (wx.alloc (.cells #[.int .u8 x] 5))=.ok (.string (strOfNums [x])) (wx.alloc (.cells #[.int .u8 x] 5)):=by
 refine run_convert_bytes_arg (P:=prog) _ 93 5 underlying93 underlying5 wx.heap.size 0 1 1 [x] rfl ?_ 9 underlying9;intro i hi;have:i=0:=by omega
 subst this;simp
theorem rG(x:Int):ah (strOfNums [x])=[UInt8.ofNat x.toNat]:=rfl
theorem yg(n:Nat)(w:World)(hn:n<=1000000000000):Calls prog 236 #[.int .i64 n] w λe w'=>∃t,e=.returned (.string t)/\ah t=Thk.rZ n/\t.size<=100/\Below w.heap.size w w':=by
 have hcv:=OZ;go_enter func236,ntmps236;go_wp2;go_loopw [0,3] (λm s wr=>∃(k:Nat)(t:ByteArray)(j:Nat),m=.int .i64 k/\s=.string t/\k<=1000000000000/\t.size+j<=14/\Hid (Thk.rZ n=Thk.upper k++ah t)/\Hid (k<10 ^ j)/\Below w.heap.size w wr) (λm _ _=>(intOf m).toNat);case atStart =>
  refine⟨n,strOfNums [48+(n:Int) % 10],13,rfl,rfl,hn,by simp[strOfNums_size], ?_, ?_,by go_grown⟩
  ·unfold Hid;rw[rG,Thk.x9];congr 3
  ·unfold Hid;omega
 case round =>
  obtain⟨k,t,j,rfl,rfl,hk,hj,Hd,Hj,hb⟩:=hrel;by_cases hlt:k<10
  ·go_wp2;go_ret;refine⟨t,rfl, ?_,by omega,hb⟩;rw[Hd.out];unfold Thk.upper;rw[if_pos hlt];(first|done|rfl)
  ·have hu:(strOfNums [48+(k:Int) / 10 % 10]).size=1:=strOfNums_size _;have Hd2:Hid (Thk.rZ n=Thk.upper (k / 10)++ah (strOfNums [48+(k:Int) / 10 % 10]++t)):=by unfold Hid;rw[jF,rG,Hd.out,Thk.IB k hlt,List.append_assoc];congr 3
   have Hj2:Hid (k / 10<10 ^ (j-1)/\1<=j):=by
    have h:=Hj.out;cases j with
    | zero=>simp at h;omega
    | succ j=>rw[Nat.pow_succ]at h;exact⟨by simp;omega,by omega⟩
   have hsz:(strOfNums [48+(k:Int) / 10 % 10]++t).size=1+t.size:=by rw[ByteArray.size_append,hu]
   have Yj:Hid (_):=hsz;clear hsz Hd Hj;go_wp2;go_roundw;case rel=>exact⟨k / 10,strOfNums [48+(k:Int) / 10 % 10]++t,j-1,by go_num,rfl,by omega,by rw[Yj.out];have:=Hj2.out.2;omega,Hd2,Hj2.out.1,hb.alloc hb.size _⟩
   case measure=>simp[intOf];omega
theorem IE(n:Int)(w:World)(hn:n.natAbs<=1000000000000):Calls prog 236 #[.int .i64 n] w λe w'=>∃t,e=.returned (.string t)/\ah t=Thk.digits n/\t.size<=200/\Below w.heap.size w w':=by
 by_cases h:n<0
 ·obtain⟨m,hm⟩:∃m:Nat,n = -(m:Int)/\0<m:=⟨n.natAbs,by omega,by omega⟩;obtain⟨rfl,hm0⟩:=hm;have hm1:m<=1000000000000:=by omega
  have hd:(-(m:Int)==(m:Int))=false:=by rw[beq_eq_false_iff_ne];omega
  go_enter func236,ntmps236;go_wp2_with (go_at_call 236;refine(yg m _ hm1).mono ?_;rintro e w'⟨t,rfl,ht,hsz,hb⟩);go_ret;refine⟨⟨#[45]⟩++t,rfl, ?_, ?_,hb⟩
  ·rw[jF,ht];unfold Thk.digits;rw[if_pos h];simp[ah]
  ·rw[ByteArray.size_append];have:(ByteArray.mk #[45]).size=1:=rfl;omega
 ·obtain⟨m,rfl⟩:=Int.eq_ofNat_of_zero_le (show 0<=n by omega);refine(yg m w (by omega)).mono ?_;rintro e w'⟨t,rfl,ht,hsz,hb⟩;exact⟨t,rfl,by rw[ht];unfold Thk.digits;rw[if_neg h];simp,by omega,hb⟩
def cnt(l:List Bool):Nat:=(l.filter id).length
theorem cnt_le(l:List Bool):cnt l<=l.length:=List.length_filter_le _ _
theorem O1(l:List Bool)(b:Bool):cnt (l++[b])=cnt l+if b then 1 else 0:=by unfold cnt;rw[List.filter_append];cases b<;>simp
theorem take_snoc{α:Type}(l:List α)(k:Nat)(h:k<l.length):l.take (k+1)=l.take k++[l[k]]:=List.take_succ_eq_append_getElem h
theorem uT(B:Nat)(v:Value)(l:List Bool)(w:World)(hl:l.length<=1048576)(hv:dA B w v (bools l)):Calls prog 111 #[v] w λe w'=>e=.returned (.int .i64 (cnt l))/\w'=w:=by
 rcases hv with⟨rfl,hx⟩|⟨b,off,cap,rfl,hcap,hb,hc⟩
 ·have:l=[]:=by simpa[bools]using hx
  subst this;go_enter func111,ntmps111;go_wp2
  go_rounds 1
  go_ret;exact⟨rfl,rfl⟩
 ·have hlen:(bools l).length=l.length:=by simp[bools]
  rw[hlen]at hcap⊢;have Hc:Hid (∀j(h:j<l.length),w.cell? ⟨b,off+j,none⟩=some (.bool l[j])):=by intro j h;rw[hc j (by omega)];simp[bools]
  clear hc hlen;go_enter func111,ntmps111;go_wp2
  go_loop [3,4] (λn i=>∃(k:Nat),k<=l.length/\i=.int .i64 k/\n=.int .i64 (cnt (l.take k))) (λ_ i=>l.length-(intOf i).toNat)
  case atStart=>exact⟨0,by omega,rfl,rfl⟩
  case round =>
   obtain⟨k,hk,rfl,rfl⟩:=hrel;have hcl:=cnt_le (l.take k);have ak0:(l.take k).length<=k:=List.length_take_le _ _;by_cases hlt:k<l.length
   ·have hck:=Hc.out k hlt;have Hs:Hid (cnt (l.take (k+1))=cnt (l.take k)+if l[k]then 1 else 0):=by unfold Hid;rw[take_snoc l k hlt,O1]
    generalize l[k]=x at *;generalize cnt (l.take k)=m at *;cases x
    ·go_wp2
     go_round
     case rel=>exact⟨k+1,by omega,by go_num,by rw[Hs.out];rfl⟩
     case measure=>simp[intOf];omega
    ·go_wp2
     go_round
     case rel=>exact⟨k+1,by omega,by go_num,by rw[Hs.out];rfl⟩
     case measure=>simp[intOf];omega
   ·go_wp2;go_ret;exact⟨CX (by rw[List.take_of_length_le (by omega)]),rfl⟩
def bG(s:Thk.Bs)(p:List Thk.Bs×Bool)(x:Thk.Bs):List Thk.Bs×Bool :=
 ((if p.2=false/\(Op.bytesLess s x||s==x)=true then p.1++[s]else p.1)++(if x=s then []else [x]),p.2||(Op.bytesLess s x||s==x))
def kH(l:List Thk.Bs)(s:Thk.Bs):List Thk.Bs:=if(l.foldl (bG s) ([],false)).2 then(l.foldl (bG s) ([],false)).1 else(l.foldl (bG s) ([],false)).1++[s]
theorem Bc{α β:Type}(f:β->α->β)(b:β)(l:List α)(k:Nat)(h:k<l.length):(l.take (k+1)).foldl f b=f ((l.take k).foldl f b) l[k]:=by rw[List.take_succ_eq_append_getElem h,List.foldl_append];(first|done|rfl)
theorem EH(B:Nat)(v:Value)(ss:List ByteArray)(s:ByteArray)(w:World)(hl:ss.length<=1000)(hv:dA B w v (strs ss))(hB:B<=w.heap.size):Calls prog 235 #[v,.string s] w λe w'=>∃v' ss',e=.returned v'/\w'.ownsRow w.heap.size 9 1 v' ss'.length (strs ss')/\ss'.map ah=kH (ss.map ah) (ah s)/\(∀x∈ss',x∈ss\/x=s)/\ss'.length<=ss.length+1/\Below w.heap.size w w':=by
 obtain⟨i0,hi,hz0,hz1,hz2⟩:=info_parts Tryz.info9;rcases hv with⟨rfl,hx⟩|⟨b,off,cap,rfl,hcap,hb,hc⟩
 ·have:ss=[]:=by simpa[strs]using hx
  subst this;go_enter func235,ntmps235;go_wp2;refine wp_loop_rounds 1 ?_;rw[rounds_succ];go_wp2_with (at_builtin;refine wpList_append_own _ rfl _ _ 141 rfl w.heap.size 9 i0 (.string ⟨#[]⟩) 1 16 underlying141 hi hz0 hz1 hz2 rfl (by decide) (.slice none 0 0) 0 [] rfl (World.ownsRow_nil _ _ _ _) ⟨w.heap.size,0,none⟩ 1 1 [.string s] rfl rfl (cell_one_new _ _ _) (by intro u hu;simp at hu;subst hu;rfl) (by unfold maxLen;omega) (by omega) (by simp) ?_;intro v1 w1 hown1 hg1 _);go_ret;refine⟨v1,rfl,[s],by simpa[strs]using hown1,rfl,by simp,by simp, ?_⟩;exact((Below.refl _ _).alloc (Nat.le_refl _) _).grown hg1 (by simp) (λk hk=>by simp[Value.ownBlock]at hk)
 ·have hlen:(strs ss).length=ss.length:=by simp[strs]
  rw[hlen]at hcap⊢;have Hc:Hid (∀(wr:World),Below w.heap.size w wr->∀j(h:j<ss.length),wr.cell? ⟨b,off+j,none⟩=some (.string ss[j])):=by intro wr hbw j h;rw[hbw.cell (p:=⟨b,off+j,none⟩) (show b<_ by omega),hc j (by omega)];simp[strs]
  clear hc hlen;go_enter func235,ntmps235;go_wp2;go_loopw [5,6,7] (λo d i wr=>∃(k:Nat)(outs:List ByteArray)(dn:Bool),k<=ss.length/\i=.int .i64 k/\d=.bool dn/\wr.ownsRow w.heap.size 9 1 o outs.length (strs outs)/\Below w.heap.size w wr/\outs.length<=k+(if dn then 1 else 0) /\
    Hid ((outs.map ah,dn)=((ss.map ah).take k).foldl (bG (ah s)) ([],false))/\Hid (∀x∈outs,x∈ss\/x=s)) (λ_ _ i _=>ss.length-(intOf i).toNat)
  case atStart=>exact⟨0,[],false,by omega,rfl,rfl,World.ownsRow_nil _ _ _ _,Below.refl _ _,by simp,by simp[Hid],by simp[Hid]⟩
  case round =>
   obtain⟨k,outs,dn,hk,rfl,rfl,hown,hnx,hol,Hf,Hm⟩:=hrel;by_cases hlt:k<ss.length
   ·have hck:=Hc.out wr hnx k hlt;have ak1:∀o,(wr.alloc o).cell? ⟨b,off+k,none⟩=some (.string ss[k]):=λo=>Hc.out _ (hnx.alloc hnx.size o) k hlt;have hmem:Hid (ss[k]∈ss):=List.getElem_mem hlt;have Hn:Hid (((ss.map ah).take (k+1)).foldl (bG (ah s)) ([],false)=bG (ah s) (outs.map ah,dn) (ah ss[k])):=by unfold Hid;rw[Bc _ _ _ k (by simpa using hlt),<- Hf.out];simp
    clear Hf;cases dn
    ·simp only[Bool.false_eq_true,if_false,Nat.add_zero]at hol;cases hle:(Op.bytesLess s.toList ss[k].toList||s.toList==ss[k].toList)
     ·have hne:(ss[k].toList==s.toList)=false:=by rw[Bool.or_eq_false_iff]at hle;have:=hle.2;rw[beq_eq_false_iff_ne]at this⊢;exact λh=>this h.symm
      have Hw:Hid (bG (ah s) (outs.map ah,false) (ah ss[k])=((outs++[ss[k]]).map ah,false)):=by
       have h1:(Op.bytesLess (ah s) (ah ss[k])||ah s==ah ss[k])=false:=by simpa[toList_eq,ah]using hle
       have h2:¬ah ss[k]=ah s:=by rw[beq_eq_false_iff_ne,toList_eq,toList_eq]at hne;exact hne
       unfold Hid bG;rw[h1,if_neg (by simp),if_neg h2];simp
      go_wp2_with (at_builtin;refine wpList_append_own _ rfl (.tmp 34) (.tmp 39) 141 rfl w.heap.size 9 i0 (.string ⟨#[]⟩) 1 16 underlying141 hi hz0 hz1 hz2 rfl (by decide) _ _ _ rfl (hown.alloc _) ⟨wr.heap.size,0,none⟩ 1 1 [.string ss[k]] rfl rfl (cell_one_new _ _ _) (by intro u hu;simp at hu;subst hu;rfl) (by unfold maxLen;omega) (by omega) (by have:=hnx.size;simp;omega) ?_;intro v2 w2 hown2 hg2 _;have hb2:=grown_below hnx (Nat.le_refl _) hown hg2;clear hg2);go_roundw;case rel=>exact⟨k+1,outs++[ss[k]],false,by omega,by go_num,rfl,by simpa[strs]using hown2,hb2,by simp;omega,by unfold Hid;rw[Hn.out,Hw.out],by
       intro x hx;rcases List.mem_append.1 hx with h|h
       ·exact Hm.out x h
       ·simp at h;subst h;exact Or.inl hmem.out⟩
      case measure=>simp[intOf];omega
     ·cases hne:(ss[k].toList==s.toList)
      ·have Hw:Hid (bG (ah s) (outs.map ah,false) (ah ss[k])=((outs++[s]++[ss[k]]).map ah,true)):=by
        have h1:(Op.bytesLess (ah s) (ah ss[k])||ah s==ah ss[k])=true:=by simpa[toList_eq,ah]using hle
        have h2:¬ah ss[k]=ah s:=by rw[beq_eq_false_iff_ne,toList_eq,toList_eq]at hne;exact hne
        unfold Hid bG;rw[h1,if_pos (by simp),if_neg h2];simp
       go_wp2_with (first|(at_builtin;refine wpList_append_own _ rfl (.tmp 24) (.tmp 26) 141 rfl w.heap.size 9 i0 (.string ⟨#[]⟩) 1 16 underlying141 hi hz0 hz1 hz2 rfl (by decide) _ _ _ rfl (hown.alloc _) ⟨wr.heap.size,0,none⟩ 1 1 [.string s] rfl rfl (cell_one_new _ _ _) (by intro u hu;simp at hu;subst hu;rfl) (by unfold maxLen;omega) (by omega) (by have:=hnx.size;simp;omega) ?_;intro v1 w1 hown1 hg1 _;have hb1:=grown_below hnx (Nat.le_refl _) hown hg1;have hcB:=Hc.out _ (hb1) k hlt;have hcA:∀o,(w1.alloc o).cell? ⟨b,off+k,none⟩=some (.string ss[k]):=λo=>Hc.out _ (hb1.alloc hb1.size o) k hlt;clear hg1)|(at_builtin;refine wpList_append_own _ rfl (.tmp 34) (.tmp 39) 141 rfl w.heap.size 9 i0 (.string ⟨#[]⟩) 1 16 underlying141 hi hz0 hz1 hz2 rfl (by decide) _ _ _ rfl (hown1.alloc _) ⟨w1.heap.size,0,none⟩ 1 1 [.string ss[k]] rfl rfl (cell_one_new _ _ _) (by intro u hu;simp at hu;subst hu;rfl) (by unfold maxLen;omega) (by omega) (by have:=hb1.size;simp;omega) ?_;intro v2 w2 hown2 hg2 _;have hb2:=grown_below hb1 (Nat.le_refl _) hown1 hg2;clear hg2));go_roundw;case rel=>exact⟨k+1,outs++[s]++[ss[k]],true,by omega,by go_num,rfl,by simpa[strs]using hown2,hb2,by simp;omega,by unfold Hid;rw[Hn.out,Hw.out],by
        intro x hx;rcases List.mem_append.1 hx with h|h
        ·rcases List.mem_append.1 h with h|h
         ·exact Hm.out x h
         ·simp at h;exact Or.inr h
        ·simp at h;subst h;exact Or.inl hmem.out⟩
       case measure=>simp[intOf];omega
      ·have Hw:Hid (bG (ah s) (outs.map ah,false) (ah ss[k])=((outs++[s]).map ah,true)):=by
        have h1:(Op.bytesLess (ah s) (ah ss[k])||ah s==ah ss[k])=true:=by simpa[toList_eq,ah]using hle
        have h2:ah ss[k]=ah s:=by rw[beq_iff_eq,toList_eq,toList_eq]at hne;exact hne
        unfold Hid bG;rw[h1,if_pos (by simp),if_pos h2];simp
       go_wp2_with (at_builtin;refine wpList_append_own _ rfl (.tmp 24) (.tmp 26) 141 rfl w.heap.size 9 i0 (.string ⟨#[]⟩) 1 16 underlying141 hi hz0 hz1 hz2 rfl (by decide) _ _ _ rfl (hown.alloc _) ⟨wr.heap.size,0,none⟩ 1 1 [.string s] rfl rfl (cell_one_new _ _ _) (by intro u hu;simp at hu;subst hu;rfl) (by unfold maxLen;omega) (by omega) (by have:=hnx.size;simp;omega) ?_;intro v1 w1 hown1 hg1 _;have hb1:=grown_below hnx (Nat.le_refl _) hown hg1;have hcB:=Hc.out _ (hb1) k hlt;have hcA:∀o,(w1.alloc o).cell? ⟨b,off+k,none⟩=some (.string ss[k]):=λo=>Hc.out _ (hb1.alloc hb1.size o) k hlt;clear hg1);go_roundw;case rel=>exact⟨k+1,outs++[s],true,by omega,by go_num,rfl,by simpa[strs]using hown1,hb1,by simp;omega,by unfold Hid;rw[Hn.out,Hw.out],by
        intro x hx;rcases List.mem_append.1 hx with h|h
        ·exact Hm.out x h
        ·simp at h;exact Or.inr h⟩
       case measure=>simp[intOf];omega
    ·simp only[if_true]at hol;cases hne:(ss[k].toList==s.toList)
     ·have Hw:Hid (bG (ah s) (outs.map ah,true) (ah ss[k])=((outs++[ss[k]]).map ah,true)):=by
       have h2:¬ah ss[k]=ah s:=by rw[beq_eq_false_iff_ne,toList_eq,toList_eq]at hne;exact hne
       unfold Hid bG;rw[if_neg (by simp),if_neg h2];simp
      go_wp2_with (at_builtin;refine wpList_append_own _ rfl (.tmp 34) (.tmp 39) 141 rfl w.heap.size 9 i0 (.string ⟨#[]⟩) 1 16 underlying141 hi hz0 hz1 hz2 rfl (by decide) _ _ _ rfl (hown.alloc _) ⟨wr.heap.size,0,none⟩ 1 1 [.string ss[k]] rfl rfl (cell_one_new _ _ _) (by intro u hu;simp at hu;subst hu;rfl) (by unfold maxLen;omega) (by omega) (by have:=hnx.size;simp;omega) ?_;intro v2 w2 hown2 hg2 _;have hb2:=grown_below hnx (Nat.le_refl _) hown hg2;clear hg2);go_roundw;case rel=>exact⟨k+1,outs++[ss[k]],true,by omega,by go_num,rfl,by simpa[strs]using hown2,hb2,by simp;omega,by unfold Hid;rw[Hn.out,Hw.out],by
       intro x hx;rcases List.mem_append.1 hx with h|h
       ·exact Hm.out x h
       ·simp at h;subst h;exact Or.inl hmem.out⟩
      case measure=>simp[intOf];omega
     ·have Hw:Hid (bG (ah s) (outs.map ah,true) (ah ss[k])=(outs.map ah,true)):=by
       have h2:ah ss[k]=ah s:=by rw[beq_iff_eq,toList_eq,toList_eq]at hne;exact hne
       unfold Hid bG;rw[if_neg (by simp),if_pos h2];simp
      go_wp2;go_roundw;case rel=>exact⟨k+1,outs,true,by omega,by go_num,rfl,hown,hnx,by simp;omega,by unfold Hid;rw[Hn.out,Hw.out],Hm.out⟩
      case measure=>simp[intOf];omega
   ·have hks:k=ss.length:=by omega
    subst hks;have KC:Hid ((outs.map ah,dn)=(ss.map ah).foldl (bG (ah s)) ([],false)):=by have h:=Hf.out;rw[List.take_of_length_le (by simp)]at h;exact h
    clear Hf;cases dn
    ·simp only[Bool.false_eq_true,if_false,Nat.add_zero]at hol;go_wp2_with (at_builtin;refine wpList_append_own _ rfl (.tmp 43) (.tmp 45) 141 rfl w.heap.size 9 i0 (.string ⟨#[]⟩) 1 16 underlying141 hi hz0 hz1 hz2 rfl (by decide) _ _ _ rfl (hown.alloc _) ⟨wr.heap.size,0,none⟩ 1 1 [.string s] rfl rfl (cell_one_new _ _ _) (by intro u hu;simp at hu;subst hu;rfl) (by unfold maxLen;omega) (by omega) (by have:=hnx.size;simp;omega) ?_;intro v2 w2 hown2 hg2 _;have hb2:=grown_below hnx (Nat.le_refl _) hown hg2;clear hg2);go_ret;refine⟨v2,outs++[s],rfl,by simpa[strs]using hown2, ?_, ?_,by simp;omega,hb2⟩
     ·unfold kH;rw[<- KC.out];simp
     ·intro x hx;rcases List.mem_append.1 hx with h|h
      ·exact Hm.out x h
      ·simp at h;exact Or.inr h
    ·simp only[if_true]at hol;go_wp2;go_ret;refine⟨_,outs,rfl,hown, ?_,Hm.out,by omega,hnx⟩;unfold kH;rw[<- KC.out];simp
end Go.Proofs.YtfmmllpjgkgeaaaGreatDoor
namespace Go.Proofs.YtfmmllpjgkgeaaaGreatDoor
open Go.Proofs.Tryz Go.RowKit Go.Sort
variable{B:Nat}{v:Value}{w:World}
structure Ev where
 p:ByteArray
 a:UInt8
 v:ByteArray
 n:Int
 xC:List Bool
def oU(B:Nat)(w:World)(v:Value)(es:List Ev):Prop :=
 (v=.slice none 0 0/\es=[]) \/
  ∃b off cap,v=.slice (some ⟨b,off,none⟩) es.length cap/\es.length<=cap/\b<B/\∀j(h:j<es.length),∃sv,
   w.cell? ⟨b,off+j*5,none⟩=some (.string es[j].p)/\w.cell? ⟨b,off+j*5+1,none⟩=some (.int .u8 (es[j].a.toNat:Int))/\w.cell? ⟨b,off+j*5+2,none⟩=some (.string es[j].v) /\
   w.cell? ⟨b,off+j*5+3,none⟩=some (.int .i64 es[j].n)/\w.cell? ⟨b,off+j*5+4,none⟩=some sv/\dA B w sv (bools es[j].xC)
def rH(es:List Ev)(known:List Bool)(k d:Nat):Bool :=
 match es[d]?,es[k]? with
 | some x,some y=>known.getD d false&&x.xC.getD k false&&ny (ah x.p) x.a (ah x.v) (ah y.p) y.a (ah y.v)
 | _,_=>false
def fH(es:List Ev)(known:List Bool)(k:Nat):Nat->Bool
 | 0=>false
 | d+1=>fH es known k d||(decide (k<d)&&rH es known k d)
def alive(es:List Ev)(known:List Bool)(k:Nat):Bool :=
 match es[k]? with
 | some y=>ig y.a&&known.getD k false&&!fH es known k es.length
 | none=>false
def aX(es:List Ev)(known:List Bool)(n:Nat):List Nat:=(List.range n).filter (alive es known)
theorem Tryz.info3:(prog.info? 3).map (λi=>(i.zero,i.size,i.bytes))=some (some (.int .i64 0),1,8):=by kernel_rfl
theorem oU.below{w':World}{es:List Ev}(h:oU B w v es)(hb:Below B w w'):oU B w' v es:=by
 rcases h with h|⟨b,off,cap,h1,h2,h3,h4⟩
 ·exact Or.inl h
 ·refine Or.inr ⟨b,off,cap,h1,h2,h3,λj hj=>?_⟩;obtain⟨sv,c0,c1,c2,c3,c4,c5⟩:=h4 j hj;exact⟨sv,(hb.cell (p:=⟨b,_,none⟩) h3).trans c0,(hb.cell (p:=⟨b,_,none⟩) h3).trans c1,(hb.cell (p:=⟨b,_,none⟩) h3).trans c2,(hb.cell (p:=⟨b,_,none⟩) h3).trans c3,(hb.cell (p:=⟨b,_,none⟩) h3).trans c4,c5.below hb⟩
theorem own_below{w':World}{e:TypeId}{n size:Nat}{xs:List Value}(h:w.ownsRow B e size v n xs)(hb:Below w.heap.size w w'):w'.ownsRow B e size v n xs :=
 h.kept (row:=none) ⟨hb.os,hb.tape,hb.output,hb.size,λk hk _=>hb.block k hk⟩ (by cases h:v.ownBlock<;>simp)
theorem rJ{e:TypeId}{n size:Nat}{xs:List Value}(h:w.ownsRow B e size v n xs)(k:Nat):(w.drewN k).ownsRow B e size v n xs:=by exact own_below h (below_drewN (Below.refl _ _) k)
theorem su(es:List Ev)(known:List Bool)(k:Nat):(aX es known k).length<=k:=by have:=List.length_filter_le (alive es known) (List.range k);simpa[aX]using this
theorem EI(es:List Ev)(known:List Bool)(k:Nat):∀n,n<=k+1->fH es known k n=false:=by
 intro n;induction n with
 | zero=>intro _;rfl
 | succ n ih=>intro h;unfold fH;rw[ih (by omega)];simp;omega
theorem IG(es:List Ev)(known:List Bool)(k:Nat):∀m n,n<=m->fH es known k n=true->fH es known k m=true:=by
 intro m;induction m with
 | zero =>
  intro n h;have:n=0:=by omega
  subst this;exact id
 | succ m ih =>
  intro n h hn;rcases Nat.lt_or_ge m n with h1|h1
  ·have:n=m+1:=by omega
   subst this;exact hn
  ·unfold fH;rw[ih n h1 hn];(first|done|rfl)
theorem II(B b off cap:Nat)(es:List Ev)(kv:Value)(known:List Bool)(w:World)(hB:B<=w.heap.size)(hcap:es.length<=cap)(hn:es.length<=1000)(hkn:known.length<=1000)(hev:oU B w (.slice (some ⟨b,off,none⟩) es.length cap) es)(hkv:dA B w kv (bools known))(hz:∀e∈es,e.p.size<=1048576/\e.xC.length<=1000):Calls prog 173 #[.slice (some ⟨b,off,none⟩) es.length cap,kv] w λe w'=>∃v,e=.returned v/\w'.ownsRow w.heap.size 3 1 v (aX es known es.length).length (rY (aX es known es.length))/\Below w.heap.size w w':=by
 obtain⟨i0,hi,hz0,hz1,hz2⟩:=info_parts Tryz.info3;have Yk:Hid (∀wr,Below w.heap.size w wr->∀j(h:j<es.length),∃sv,
   wr.cell? ⟨b,off+j*5,none⟩=some (.string es[j].p)/\wr.cell? ⟨b,off+j*5+1,none⟩=some (.int .u8 (es[j].a.toNat:Int))/\wr.cell? ⟨b,off+j*5+2,none⟩=some (.string es[j].v) /\
   wr.cell? ⟨b,off+j*5+3,none⟩=some (.int .i64 es[j].n)/\wr.cell? ⟨b,off+j*5+4,none⟩=some sv/\dA B wr sv (bools es[j].xC)):=by
  intro wr hbw j h;rcases hev.below (hbw.mono hB) with⟨h1,_⟩|⟨b',off',cap',h1,h2,h3,h4⟩
  ·cases h1
  ·cases h1;exact h4 j h
 have Hkv:Hid (∀wr,Below w.heap.size w wr->dA B wr kv (bools known)):=λwr hbw=>hkv.below (hbw.mono hB);have Hz:Hid (_):=hz;clear hev hkv hz;go_enter func173,ntmps173;go_wp2;go_loopw [5,6,7,8,9,10,11,12] (λo i _ _ _ _ _ _ wr=>∃(k:Nat),k<=es.length/\i=.int .i64 k/\wr.ownsRow w.heap.size 3 1 o (aX es known k).length (rY (aX es known k))/\Below w.heap.size w wr) (λ_ i _ _ _ _ _ _ _=>es.length-(intOf i).toNat);case atStart=>exact⟨0,by omega,rfl,World.ownsRow_nil _ _ _ _,Below.refl _ _⟩
 case round =>
  obtain⟨k,hk,rfl,hown,hnx⟩:=hrel;by_cases hlt:k<es.length
  ·obtain⟨sv,c0,c1,c2,c3,c4,c5⟩:=Yk.out wr hnx k hlt;have hck:∀w',Below wr.heap.size wr w'->dA B w' kv (bools known):=λw' h=>Hkv.out w' (hnx.trans (h.mono hnx.size));have Hck:Hid (_):=hck;clear hck c5;have hget:es[k]?=some es[k]:=List.getElem?_eq_getElem hlt;have O4:Hid (alive es known k=(ig es[k].a&&known.getD k false&&!fH es known k es.length)):=by unfold Hid alive;rw[hget]
   have Bd:Hid (aX es known (k+1)=aX es known k++if alive es known k then [k]else []):=by unfold Hid aX;rw[List.range_succ,List.filter_append];congr 1;cases h:alive es known k<;>simp[h]
   have hall:=su es known k;clear hget;generalize hek:es[k]=ek at *;go_wp2_with fail;refine(Ir _ _ _ _ _ _).mono ?_;rintro e w1⟨rfl,hb1⟩;have hnx1:Below w.heap.size w w1:=hnx.trans (hb1.mono hnx.size);have hown1:=own_below hown hb1;go_wp2_with fail;refine(uQ B _ known k _ (by omega) (by omega) (Hck.out _ hb1)).mono ?_;rintro e w2⟨rfl,rfl⟩;clear hown hnx c0 c1 c2 c3 c4 hb1 Hck;cases heff:ig ek.a
   ·have tH:Hid (aX es known (k+1)=aX es known k):=by unfold Hid;rw[Bd.out,O4.out,heff];simp
    clear heff O4 Bd;go_wp2;go_roundw;case rel=>exact⟨k+1,by omega,by go_num,by rw[tH.out];exact hown1,hnx1⟩
    case measure=>simp[intOf];omega
   ·cases hkn2:known.getD k false
    ·have tH:Hid (aX es known (k+1)=aX es known k):=by unfold Hid;rw[Bd.out,O4.out,hkn2];simp
     clear heff hkn2 O4 Bd;go_wp2;go_roundw;case rel=>exact⟨k+1,by omega,by go_num,by rw[tH.out];exact hown1,hnx1⟩
     case measure=>simp[intOf];omega
    ·have tH:Hid (aX es known (k+1)=aX es known k++if fH es known k es.length then []else [k]):=by unfold Hid;rw[Bd.out,O4.out,hkn2,heff];cases fH es known k es.length<;>rfl
     clear heff hkn2 O4 Bd;go_wp2;go_loopw [9,10,11,12] (λc d _ _ wr=>∃(n:Nat),k+1<=n/\n<=es.length/\d=.int .i64 n/\c=.bool (fH es known k n)/\wr.ownsRow w.heap.size 3 1 u5 (aX es known k).length (rY (aX es known k))/\Below w.heap.size w wr) (λ_ d _ _ _=>es.length-(intOf d).toNat);case atStart=>exact⟨k+1,by omega,by omega,by go_num,by rw[EI _ _ _ _ (Nat.le_refl _)],hown1,hnx1⟩
     case round =>
      obtain⟨n,hn1,hn2,rfl,rfl,hownr,yh⟩:=hrel;by_cases hlt2:n<es.length
      ·cases hcv:fH es known k n
       ·obtain⟨svd,e0,e1,e2,e3,e4,e5⟩:=Yk.out _ yh n hlt2;obtain⟨svk,f0,f1,f2,f3,f4,f5⟩:=Yk.out _ yh k hlt;have XR:Hid (fH es known k (n+1)=(known.getD n false&&es[n].xC.getD k false&&ny (ah es[n].p) es[n].a (ah es[n].v) (ah es[k].p) es[k].a (ah es[k].v))):=by
         unfold Hid fH;rw[hcv];unfold rH;rw[List.getElem?_eq_getElem hlt2,List.getElem?_eq_getElem hlt];have:decide (k<n)=true:=by simp;omega
         rw[this];simp
        have hz1:=Hz.out _ (List.getElem_mem hlt2);have hz2:=Hz.out _ (List.getElem_mem hlt);have Yl:=Hkv.out _ yh;have ac6:Hid (_):=Yl;have He5:Hid (_):=e5;clear Yl e5 f5 hcv;rw[hek]at *;clear hek;generalize es[n]=en at *;go_wp2_with fail;refine(uQ B _ known n _ (by omega) (by omega) ac6.out).mono ?_;rintro e w3⟨rfl,rfl⟩;cases h1:known.getD n false
        ·have EJ:Hid (fH es known k (n+1)=false):=by unfold Hid;rw[XR.out,h1];(first|done|rfl)
         clear h1 XR;go_wp2_with fail;refine(uQ B _ en.xC k _ (by omega) (by omega) He5.out).mono ?_;rintro e w3⟨rfl,rfl⟩;generalize en.xC.getD k false=x2;go_wp2_with fail
         go_quiet (fail)
         go_wp2;go_roundw;case rel=>exact⟨n+1,by omega,by omega,by go_num,by rw[EJ.out],rJ hownr _,below_drewN yh _⟩
         case measure=>simp[intOf];omega
        ·go_wp2_with fail;refine(uQ B _ en.xC k _ (by omega) (by omega) He5.out).mono ?_;rintro e w3⟨rfl,rfl⟩;cases h2:en.xC.getD k false
         ·have EJ:Hid (fH es known k (n+1)=false):=by unfold Hid;rw[XR.out,h2];simp
          clear h1 h2 XR;go_wp2_with fail
          go_quiet (fail)
          go_wp2;go_roundw;case rel=>exact⟨n+1,by omega,by omega,by go_num,by rw[EJ.out],rJ hownr _,below_drewN yh _⟩
          case measure=>simp[intOf];omega
         ·have EJ:Hid (fH es known k (n+1)=ny (ah en.p) en.a (ah en.v) (ah ek.p) ek.a (ah ek.v)):=by unfold Hid;rw[XR.out,h1,h2];simp
          clear h1 h2 XR;go_wp2_with fail;have Ym:Hid (∀d os,Calls prog 232 #[.agg #[.string en.p,.int .u8 (en.a.toNat:Int),.string en.v,.int .i64 en.n,svd],.agg #[.string ek.p,.int .u8 (ek.a.toNat:Int),.string ek.v,.int .i64 ek.n,svk]] (grow (redrawn w3 d) os) λe w''=>e=.returned (.bool (ny (ah en.p) en.a (ah en.v) (ah ek.p) ek.a (ah ek.v)))/\∃p:Regrown,w''=grow (redrawn w3 p.d) p.os):=λd os=>Calls.regrown_of (Iw _ _ _ _ _ _ _ _ _ _ _ hz1.1 hz2.1);have e0':=λd os=>cell_regrown e0 d os;have e1':=λd os=>cell_regrown e1 d os;have e2':=λd os=>cell_regrown e2 d os;have e3':=λd os=>cell_regrown e3 d os;have e4':=λd os=>cell_regrown e4 d os;have f0':=λd os=>cell_regrown f0 d os;have f1':=λd os=>cell_regrown f1 d os;have f2':=λd os=>cell_regrown f2 d os;have f3':=λd os=>cell_regrown f3 d os;have f4':=λd os=>cell_regrown f4 d os;clear e0 e1 e2 e3 e4 f0 f1 f2 f3 f4;refine wp_region_quiet_below (by kernel_rfl) (by kernel_rfl) ?_;repeat(first|go_big_quiet_step (exact Ym.out _ _)|quiet_step (exact Ym.out _ _))
          refine wpQuiet_nil ?_;intro _ hw';obtain⟨⟨dq,osq⟩,hw''⟩:=hw';subst hw'';have hb6:=below_regrown w3 dq osq;have hown6:=own_below hownr hb6;generalize grow (redrawn w3 dq) osq=w6 at *;go_wp2;go_roundw;case rel=>exact⟨n+1,by omega,by omega,by go_num,by rw[EJ.out],hown6,yh.trans (hb6.mono yh.size)⟩
          case measure=>simp[intOf];omega
       ·have EJ:Hid (fH es known k es.length=true):=IG _ _ _ _ _ hn2 hcv;clear hcv;go_wp2;go_roundw;case rel=>exact⟨k+1,by omega,by go_num,by rw[tH.out,EJ.out];simpa using hownr,yh⟩
        case measure=>simp[intOf];omega
      ·have hne:n=es.length:=by omega
       subst hne;cases hcv:fH es known k es.length
       ·go_wp2_with (at_builtin;refine wpList_append_own _ rfl _ _ 42 rfl w.heap.size 3 i0 (.int .i64 0) 1 8 underlying42 hi hz0 hz1 hz2 rfl (by decide) _ _ _ rfl (hownr.alloc _) ⟨_,0,none⟩ 1 1 [.int .i64 k] rfl rfl (cell_one_new _ _ _) (by intro u hu;simp at hu;subst hu;rfl) (by unfold maxLen;omega) (by omega) (by have:=yh.size;simp;omega) ?_;intro v5 w5 hown5 hg5 _;have hb5:=grown_below yh (Nat.le_refl _) hownr hg5;clear hg5);go_roundw;case rel=>exact⟨k+1,by omega,by go_num,by rw[tH.out,hcv];simpa[rY]using hown5,hb5⟩
        case measure=>simp[intOf];omega
       ·go_wp2;go_roundw;case rel=>exact⟨k+1,by omega,by go_num,by rw[tH.out,hcv];simpa using hownr,yh⟩
        case measure=>simp[intOf];omega
  ·have:k=es.length:=by omega
   subst this;go_wp2;go_ret;exact⟨_,rfl,hown,hnx⟩
