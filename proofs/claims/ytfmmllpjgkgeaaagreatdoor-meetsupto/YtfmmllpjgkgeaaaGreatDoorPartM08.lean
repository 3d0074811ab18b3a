import Derived.Lib.Split
import Derived.Lib.IndexBytes
import Derived.Maps.OwnSet
import Derived.Maps.OwnOps
import Derived.Maps.RangeWalk
import Derived.Maps.Ext
import Derived.DeepKeys4
import Derived.Deep.LoopGhost
import Derived.Test.YtfmmllpjgkgeaaaGreatDoorPartM03
import Derived.Test.YtfmmllpjgkgeaaaGreatDoorPartM06
set_option linter.unusedVariables false
set_option linter.unusedSimpArgs false
set_option maxHeartbeats 16000000
set_option maxRecDepth 100000
namespace Go.Proofs.YtfmmllpjgkgeaaaGreatDoor
open Go.Proofs.Tryz Go.RowKit
theorem gU(e:Int)(w:World):Calls prog 108 #[.int .i64 e] w λr w'=>r=.returned (.int .i64 e)/\w'=w:=by go_enter func108,ntmps108;go_wp2;go_ret;exact⟨rfl,rfl⟩
def Thk.pG(c:UInt8):Bool:=Thk.isLow c||Thk.cO c
def Thk.word(p:UInt8->Bool)(m:Nat)(l:Thk.Bs):Bool:=decide (1<=l.length)&&decide (l.length<=m)&&l.all p
theorem kL(c:UInt8)(w:World):Calls prog 155 #[.int .u8 (c.toNat:Int)] w λe w'=>e=.returned (.bool (Thk.isLow c))/\w'=w:=by
 go_enter func155,ntmps155;go_wp2;all_goals
  go_ret;refine⟨aY ?_,rfl⟩;unfold Thk.isLow;rw[Bool.eq_iff_iff];simp;try omega
theorem qZ(c:UInt8)(w:World):Calls prog 144 #[.int .u8 (c.toNat:Int)] w λe w'=>e=.returned (.bool (Thk.isLow c||Thk.cO c))/\w'=w:=by
 cases hl:Thk.isLow c
 ·have Hl:Hid (_):=hl;have hl2:¬(97<=c.toNat/\c.toNat<=122):=by unfold Thk.isLow at hl;simp at hl;omega
  clear hl;go_enter func144,ntmps144;go_wp2_with (go_at_call 155;refine(kL _ _).mono ?_;rintro e w'⟨rfl,rfl⟩;rw[Hl.out]);all_goals
   go_ret;refine⟨aY ?_,rfl⟩;unfold Thk.cO;rw[Bool.eq_iff_iff];simp;try omega
 ·have Hl:Hid (_):=hl;clear hl;go_enter func144,ntmps144;go_wp2_with (go_at_call 155;refine(kL _ _).mono ?_;rintro e w'⟨rfl,rfl⟩;rw[Hl.out]);go_ret;exact⟨aY rfl,rfl⟩
theorem Bv(c:UInt8)(w:World):Calls prog 144 #[.int .u8 (c.toNat:Int)] w λe w'=>e=.returned (.bool (Thk.pG c))/\w'=w:=qZ c w
theorem pI(p:UInt8->Bool)(l:Thk.Bs)(m:Nat)(h:l.length<1\/m<l.length):Thk.word p m l=false:=by
 unfold Thk.word;rcases h with h|h
 ·have:decide (1<=l.length)=false:=by rw[decide_eq_false_iff_not];omega
  rw[this];(first|done|rfl)
 ·have:decide (l.length<=m)=false:=by rw[decide_eq_false_iff_not];omega
  rw[this];simp
theorem rO(p:UInt8->Bool)(s:ByteArray)(m k:Nat)(hk:k<s.size)(h:p s[k]=false):Thk.word p m (ah s)=false:=by
 have:(ah s).all p=false:=by rw[List.all_eq_false];refine⟨(ah s)[k]'(by rw[aB];exact hk),List.getElem_mem _, ?_⟩;rw[jm s k hk,h];simp
 unfold Thk.word;rw[this];simp
theorem Bz(p:UInt8->Bool)(s:ByteArray)(m:Nat)(h1:1<=s.size)(h2:s.size<=m)(h:∀j(hj:j<s.size),p s[j]=true):Thk.word p m (ah s)=true:=by
 have:(ah s).all p=true:=by rw[List.all_eq_true];intro x hx;obtain⟨i,hi,rfl⟩:=List.getElem_of_mem hx;rw[aB]at hi;rw[jm s i hi];exact h i hi
 unfold Thk.word;rw[this,aB];simp[h1,h2]
theorem yx(s:ByteArray)(m:Nat)(w:World)(hs:s.size<=1048576)(hm:m<=100):Calls prog 143 #[.string s,.int .i64 m,.func (.func 155) #[] #[]] w λe w'=>e=.returned (.bool (Thk.word Thk.isLow m (ah s)))/\w'=w:=by
 by_cases hl:s.size<1\/m<s.size
 ·have hfin:Hid (Thk.word Thk.isLow m (ah s)=false):=pI _ _ _ (by rw[aB];exact hl);rcases hl with hl|hl
  all_goals
   go_enter func143,ntmps143;go_wp2;all_goals first|(go_ret;exact⟨aY hfin.out.symm,rfl⟩)|(exfalso;omega)
 ·have h1:¬s.size<1:=by omega
  have h2:¬m<s.size:=by omega
  clear hl;go_enter func143,ntmps143;go_wp2
  go_loop [19] (λi=>∃k:Nat,k<=s.size/\i=.int .i64 k/\Hid (∀j(hj:j<s.size),j<k->Thk.isLow s[j]=true)) (λi=>s.size-(intOf i).toNat)
  case atStart=>exact⟨0,by omega,rfl,λj _ h=>by omega⟩
  case round =>
   obtain⟨k,hk,rfl,dX⟩:=hrel;by_cases hlt:k<s.size
   ·cases hp:Thk.isLow s[k]
    ·have hfin:Hid (Thk.word Thk.isLow m (ah s)=false):=rO _ s m k hlt hp;have Hp:Hid (_):=hp;clear hp dX;go_wp2_with (go_at_call 155;refine(kL _ _).mono ?_;rintro e w'⟨rfl,rfl⟩;rw[Hp.out]);go_ret;exact⟨aY hfin.out.symm,rfl⟩
    ·have Hn:Hid (∀j(hj:j<s.size),j<k+1->Thk.isLow s[j]=true):=by
      intro j hj h;by_cases e:j=k
      ·subst e;exact hp
      ·exact dX.out j hj (by omega)
     have Hp:Hid (_):=hp;clear hp dX;go_wp2_with (go_at_call 155;refine(kL _ _).mono ?_;rintro e w'⟨rfl,rfl⟩;rw[Hp.out])
     go_round
     case rel=>exact⟨k+1,by omega,by go_num,Hn⟩
     case measure=>simp[intOf];omega
   ·have hfin:Hid (Thk.word Thk.isLow m (ah s)=true):=Bz _ s m (by omega) (by omega) (λj hj=>dX.out j hj (by omega));clear dX;go_wp2;go_ret;exact⟨aY hfin.out.symm,rfl⟩
theorem Dh(s:ByteArray)(m:Nat)(w:World)(hs:s.size<=1048576)(hm:m<=100):Calls prog 143 #[.string s,.int .i64 m,.func (.func 144) #[] #[]] w λe w'=>e=.returned (.bool (Thk.word Thk.pG m (ah s)))/\w'=w:=by
 by_cases hl:s.size<1\/m<s.size
 ·have hfin:Hid (Thk.word Thk.pG m (ah s)=false):=pI _ _ _ (by rw[aB];exact hl);rcases hl with hl|hl
  all_goals
   go_enter func143,ntmps143;go_wp2;all_goals first|(go_ret;exact⟨aY hfin.out.symm,rfl⟩)|(exfalso;omega)
 ·have h1:¬s.size<1:=by omega
  have h2:¬m<s.size:=by omega
  clear hl;go_enter func143,ntmps143;go_wp2
  go_loop [19] (λi=>∃k:Nat,k<=s.size/\i=.int .i64 k/\Hid (∀j(hj:j<s.size),j<k->Thk.pG s[j]=true)) (λi=>s.size-(intOf i).toNat)
  case atStart=>exact⟨0,by omega,rfl,λj _ h=>by omega⟩
  case round =>
   obtain⟨k,hk,rfl,dX⟩:=hrel;by_cases hlt:k<s.size
   ·cases hp:Thk.pG s[k]
    ·have hfin:Hid (Thk.word Thk.pG m (ah s)=false):=rO _ s m k hlt hp;have Hp:Hid (_):=hp;clear hp dX;go_wp2_with (go_at_call 144;refine(Bv _ _).mono ?_;rintro e w'⟨rfl,rfl⟩;rw[Hp.out]);go_ret;exact⟨aY hfin.out.symm,rfl⟩
    ·have Hn:Hid (∀j(hj:j<s.size),j<k+1->Thk.pG s[j]=true):=by
      intro j hj h;by_cases e:j=k
      ·subst e;exact hp
      ·exact dX.out j hj (by omega)
     have Hp:Hid (_):=hp;clear hp dX;go_wp2_with (go_at_call 144;refine(Bv _ _).mono ?_;rintro e w'⟨rfl,rfl⟩;rw[Hp.out])
     go_round
     case rel=>exact⟨k+1,by omega,by go_num,Hn⟩
     case measure=>simp[intOf];omega
   ·have hfin:Hid (Thk.word Thk.pG m (ah s)=true):=Bz _ s m (by omega) (by omega) (λj hj=>dX.out j hj (by omega));clear dX;go_wp2;go_ret;exact⟨aY hfin.out.symm,rfl⟩
theorem index_ge(l:Thk.Bs)(c:UInt8):-1<=Lib.indexByte l c:=by
 induction l with
 | nil=>simp[Lib.indexByte]
 | cons b r ih=>unfold Lib.indexByte;split;omega;split;omega;omega
theorem BA(l:Thk.Bs)(c:UInt8):(0<=Lib.indexByte l c)↔c∈l:=by
 induction l with
 | nil=>simp[Lib.indexByte]
 | cons b r ih =>
  have hge:=index_ge r c;unfold Lib.indexByte;by_cases h:b=c
  ·simp[h]
  ·rw[if_neg (by simpa using h)];by_cases h2:Lib.indexByte r c = -1
   ·rw[if_pos (by simpa using h2)];have:¬c∈r:=λhm=>by have:=ih.2 hm;omega
    simp[this,Ne.symm h]
   ·rw[if_neg (by simpa using h2)];have:c∈r:=ih.1 (by omega);simp[this];omega
theorem byte_back(c:UInt8):((c.toNat:Int).toNat.toUInt8)=c:=by simp
theorem L8(c:UInt8):c∈([115,102,114,99,109]:Thk.Bs)↔Thk.isKind c=true:=by
 have key:∀n:Nat,n<256->(c=UInt8.ofNat n↔c.toNat=n):=λn hn=>by
  constructor
  ·intro h;rw[h];simp;omega
  ·intro h;rw[<- h];simp
 unfold Thk.isKind;simp only[List.mem_cons,List.mem_nil_iff,or_false,Bool.or_eq_true,beq_iff_eq];have a1:=key 115 (by omega);have a2:=key 102 (by omega);have a3:=key 114 (by omega);have a4:=key 99 (by omega);have a5:=key 109 (by omega);constructor
 ·rintro(h|h|h|h|h)
  ·left;left;left;left;exact a1.1 h
  ·left;left;left;right;exact a2.1 h
  ·left;left;right;exact a3.1 h
  ·left;right;exact a4.1 h
  ·right;exact a5.1 h
 ·rintro((((h|h)|h)|h)|h)
  ·left;exact a1.2 h
  ·right;left;exact a2.2 h
  ·right;right;left;exact a3.2 h
  ·right;right;right;left;exact a4.2 h
  ·right;right;right;right;exact a5.2 h
theorem Pz(s:ByteArray)(h:0<s.size):Thk.seg (ah s)=(Thk.isKind s[0]&&Thk.word Thk.isLow 4 (ah (s.extract 1 s.size))):=by
 have e:ah (s.extract 1 s.size)=(ah s).tail:=by rw[eU,<- aB s,List.take_length,List.drop_one]
 unfold Thk.seg Thk.word;rw[e,mM s h];rw[Bool.eq_iff_iff];simp only[Bool.and_eq_true,decide_eq_true_eq,List.length_tail,Option.map_some,Option.getD_some];constructor
 ·rintro⟨⟨⟨a,b⟩,c⟩,d⟩;exact⟨d,⟨by omega,by omega⟩,c⟩
 ·rintro⟨d,⟨a,b⟩,c⟩;exact⟨⟨⟨by omega,by omega⟩,c⟩,d⟩
theorem jQ(s:ByteArray)(w:World)(hs:s.size<=1048576):Calls prog 94 #[.string s] w λe w'=>e=.returned (.bool (Thk.seg (ah s)))/\w'=w:=by
 by_cases h0:s.size=0
 ·have hfin:Hid (Thk.seg (ah s)=false):=Thk.rF _ (by rw[aB];omega);have hem:s.toList.isEmpty=true:=by rw[toList_eq];rw[List.isEmpty_iff];apply List.eq_nil_of_length_eq_zero;simpa using h0
  go_enter func94,ntmps94;go_wp2;go_ret;exact⟨aY hfin.out.symm,rfl⟩
 ·have hp:0<s.size:=by omega
  have hem:s.toList.isEmpty=false:=by rw[toList_eq,List.isEmpty_eq_false_iff];intro h;apply h0;have:=congrArg List.length h;simpa using this
  have Hsw:Hid (_):=Pz s hp;have hix:Hid ((0<=Lib.indexByte [115,102,114,99,109] s[0])↔Thk.isKind s[0]=true):=(BA _ _).trans (L8 _);have EY:Hid (∀wx,Calls prog 81 #[.string ⟨#[115,102,114,99,109]⟩,.int .u8 (s[0].toNat:Int)] wx λe w'=>e=.returned (.int .i64 (Lib.indexByte [115,102,114,99,109] s[0]))/\w'=wx):=by intro wx;refine(Tryz.strings_IndexByte ⟨#[115,102,114,99,109]⟩ (s[0].toNat:Int) wx).mono ?_;rintro e w'⟨rfl,rfl⟩;rw[byte_back];exact⟨rfl,rfl⟩
  cases hk:Thk.isKind s[0]
  ·have hfin:Hid (Thk.seg (ah s)=false):=by unfold Hid;rw[Hsw.out,hk];(first|done|rfl)
   have hneg:¬0<=Lib.indexByte [115,102,114,99,109] s[0]:=λh=>by have:=hix.out.1 h;rw[hk]at this;cases this
   generalize Lib.indexByte [115,102,114,99,109] s[0]=ix at *;clear hk Hsw;go_enter func94,ntmps94;go_wp2_with (go_at_call 81;refine(EY.out _).mono ?_;rintro e w'⟨rfl,rfl⟩);all_goals
    go_ret;exact⟨aY hfin.out.symm,rfl⟩
  ·have hpos:0<=Lib.indexByte [115,102,114,99,109] s[0]:=hix.out.2 hk;have hfin:Hid (Thk.seg (ah s)=Thk.word Thk.isLow 4 (ah (s.extract 1 s.size))):=by unfold Hid;rw[Hsw.out,hk];(first|done|rfl)
   generalize Lib.indexByte [115,102,114,99,109] s[0]=ix at *;clear hk Hsw;go_enter func94,ntmps94;go_wp2_with (first|(go_at_call 81;refine(EY.out _).mono ?_;rintro e w'⟨rfl,rfl⟩)|(go_at_call 143;refine(yx (s.extract 1 s.size) 4 _ (by simp[ByteArray.size_extract];omega) (by omega)).mono ?_;rintro e w'⟨rfl,rfl⟩));all_goals
    go_ret;exact⟨aY hfin.out.symm,rfl⟩
theorem xH(b:UInt8)(l:Thk.Bs)(c:UInt8):Lib.indexByte (b::l) c=if b==c then 0 else if Lib.indexByte l c==-1 then -1 else Lib.indexByte l c+1:=rfl
theorem pJ(c:UInt8):∀(l cur:Thk.Bs),Thk.bH c cur l=if Lib.indexByte l c = -1 then [cur++l] else(cur++l.take (Lib.indexByte l c).toNat)::Thk.split c (l.drop ((Lib.indexByte l c).toNat+1)):=by
 intro l;induction l with
 | nil=>intro cur;simp[Thk.bH,Lib.indexByte]
 | cons x r ih =>
  intro cur;have hge:=index_ge r c;by_cases h:x=c
  ·subst h;rw[Thk.lI];have e:Lib.indexByte (x::r) x=0:=by rw[xH];simp
   rw[e];simp[Thk.split]
  ·rw[Thk.oP _ _ _ _ h,ih (cur++[x])];by_cases h2:Lib.indexByte r c = -1
   ·have e:Lib.indexByte (x::r) c = -1:=by rw[xH,if_neg (by simpa using h),if_pos (by simpa using h2)]
    rw[if_pos h2,if_pos e];simp
   ·have e:Lib.indexByte (x::r) c=Lib.indexByte r c+1:=by rw[xH,if_neg (by simpa using h),if_neg (by simpa using h2)]
    rw[if_neg h2,if_neg (by rw[e];omega),e];have e2:(Lib.indexByte r c+1).toNat=(Lib.indexByte r c).toNat+1:=by omega
    rw[e2];simp
theorem pK(c:UInt8)(l:Thk.Bs):Thk.split c l=if Lib.indexByte l c = -1 then [l]else l.take (Lib.indexByte l c).toNat::Thk.split c (l.drop ((Lib.indexByte l c).toNat+1)):=by have:=pJ c l [];simpa[Thk.split]using this
theorem Di(c:UInt8):∀(k:Nat)(l:Thk.Bs),((Thk.split c l).length<=k+1->Lib.splitK [c] 0 k l=Thk.split c l)/\(k+1<(Thk.split c l).length->(Lib.splitK [c] 0 k l).length=k+1):=by
 intro k;induction k with
 | zero =>
  intro l;refine⟨λh=>?_,λ_=>rfl⟩;rw[pK]at h⊢;by_cases h2:Lib.indexByte l c = -1
  ·rw[if_pos h2];(first|done|rfl)
  ·rw[if_neg h2]at h;have:=List.length_pos_iff.2 (Thk.ji c (l.drop ((Lib.indexByte l c).toNat+1)));simp only[List.length_cons]at h;omega
 | succ k ih =>
  intro l;obtain⟨a,b⟩:=ih (l.drop ((Lib.indexByte l c).toNat+1));unfold Lib.splitK;rw[Lib.index_one,pK];by_cases h2:Lib.indexByte l c = -1
  ·rw[if_pos h2,if_pos (by simpa using h2)];exact⟨λ_=>rfl,λh=>by simp at h⟩
  ·rw[if_neg h2,if_neg (by simpa using h2)];simp only[List.length_cons,Nat.add_zero,List.length_nil,Nat.zero_add];exact⟨λh=>by rw[a (by omega)],λh=>by rw[b (by omega)]⟩
theorem EZ(s:ByteArray)(ps:List ByteArray)(hps:ps=Lib.splitB ⟨#[47]⟩ 0 (min 4 (s.size+1)-1) s):(ps.length<=3->ps.map ah=Thk.split 47 (ah s))/\(3<ps.length->Thk.path (ah s)=false)/\ps.length<=4/\ps≠[]:=by
 have hd:ps.map ah=Lib.splitK [47] 0 (min 4 (s.size+1)-1) (ah s):=by rw[hps];exact Lib.splitB_data ⟨#[47]⟩ 0 _ s
 have hl:(Thk.split 47 (ah s)).length<=s.size+1:=by have:=Thk.tJ 47 (ah s) [];rw[aB]at this;unfold Thk.split;simp at this;omega
 obtain⟨a,b⟩:=Di 47 (min 4 (s.size+1)-1) (ah s);have hle:ps.length<=min 4 (s.size+1)-1+1:=by rw[hps];exact Lib.splitB_length_le _ _ _ _
 have hlen:ps.length=(Lib.splitK [47] 0 (min 4 (s.size+1)-1) (ah s)).length:=by rw[<- hd,List.length_map]
 have hbig:∀l:Thk.Bs,3<(Thk.split 47 l).length->Thk.path l=false:=by
  intro l h;unfold Thk.path Thk.kG;have:decide ((Thk.split 47 l).length<=3)=false:=by rw[decide_eq_false_iff_not];omega
  rw[this];(first|done|rfl)
 by_cases hS:(Thk.split 47 (ah s)).length<=min 4 (s.size+1)-1+1
 ·have e:=a hS;rw[e]at hd hlen;refine⟨λ_=>hd,λh=>hbig _ (by omega),by omega, ?_⟩;intro h;rw[h]at hd;exact Thk.ji 47 (ah s) hd.symm
 ·have e:=b (by omega);rw[e]at hlen;refine⟨λh=>by omega,λ_=>hbig _ (by omega),by omega, ?_⟩;intro h;rw[h]at hlen;simp at hlen
def U7(b:Bool)(s:ByteArray):ByteArray:=match b with|true=>s|false=>⟨#[]⟩
theorem Dj(sep:ByteArray)(save:Nat):∀(k:Nat)(s:ByteArray),∀p∈_root_.Go.Lib.splitB sep save k s,p.size<=s.size:=by
 intro k;induction k with
 | zero=>intro s p hp;simp[_root_.Go.Lib.splitB]at hp;rw[hp];exact Nat.le_refl _
 | succ k ih =>
  intro s p hp;unfold _root_.Go.Lib.splitB at hp;split at hp
  ·simp at hp;rw[hp];exact Nat.le_refl _
  ·rcases List.mem_cons.1 hp with h|h
   ·rw[h];simp[ByteArray.size_extract];omega
   ·have:=ih _ p h;simp[ByteArray.size_extract]at this;omega
theorem tX(s:ByteArray)(m:Int)(w:World)(hs:s.size<=1048576)(hm:w.cell? ⟨0,0,none⟩=some (.int .i64 m)):Calls prog 50 #[.string s] w λe w'=>e=.returned (.tuple #[.string (U7 (Thk.path (ah s)) s),.bool (Thk.path (ah s))])/\Below w.heap.size w w':=by
 have EY:Hid (_):=Tryz.strings_SplitN s ⟨#[47]⟩ 4 m w (by omega) hm (by decide) (by omega) (by omega);obtain⟨ps,hps⟩:∃ps,ps=Lib.splitB ⟨#[47]⟩ 0 (min 4 (s.size+1)-1) s:=⟨_,rfl⟩;obtain⟨p1,p2,p3,p4⟩:=EZ s ps hps;clear hm;go_enter func50,ntmps50;go_wp2_with fail;refine Calls.mono EY.out ?_;rw[<- hps];rintro e w1⟨rfl,rfl⟩;have hb1:Below w.heap.size w (w.alloc (.cells (Lib.cellsOf ps (min 4 (s.size+1))) 9)):=(Below.refl _ _).alloc (Nat.le_refl _) _;have gG:Hid (∀j(h:j<ps.length),(w.alloc (.cells (Lib.cellsOf ps (min 4 (s.size+1))) 9)).cell? ⟨w.heap.size,j,none⟩=some (.string ps[j])):=by
  intro j h;have:(Lib.cellsOf ps (min 4 (s.size+1)))[j]?=some (.string ps[j]):=by unfold Lib.cellsOf;simp only[List.getElem?_toArray];rw[List.getElem?_append_left (by simpa using h),List.getElem?_map,List.getElem?_eq_getElem h];(first|done|rfl)
  simpa using this
 have Yj:Hid (∀p∈ps,p.size<=1048576):=by intro p hp;have h1:=Dj ⟨#[47]⟩ 0 (min 4 (s.size+1)-1) s p (by rw[<- hps];exact hp);omega
 have hcap:ps.length<=min 4 (s.size+1):=by have:=Lib.splitB_length_le ⟨#[47]⟩ 0 (min 4 (s.size+1)-1) s;rw[<- hps]at this;omega
 clear EY hps;generalize w.alloc (.cells (Lib.cellsOf ps (min 4 (s.size+1))) 9)=w1 at *;generalize min 4 (s.size+1)=cp at *;by_cases h3:3<ps.length
 ·have hfin:Hid (Thk.path (ah s)=false):=p2 h3;clear p1 p2;go_wp2;go_ret2;exact⟨by rw[hfin.out];rfl,hb1⟩
 ·have xY:Hid (Thk.path (ah s)=Thk.kG (ps.map ah)):=by unfold Hid Thk.path;rw[p1 (by omega)]
  have hpos:0<ps.length:=List.length_pos_iff.2 p4;clear p1 p2 p3 p4;go_wp2
  go_loop [18] (λi=>∃k:Nat,k<=ps.length/\i=.int .i64 k/\Hid (∀j(h:j<ps.length),j<k->Thk.seg (ah ps[j])=true/\(j+1<ps.length->(ah ps[j]).head? = some 109))) (λi=>ps.length-(intOf i).toNat)
  case atStart=>exact⟨0,by omega,rfl,λj _ b=>by omega⟩
  case round =>
   obtain⟨k,hk,rfl,hall⟩:=hrel;by_cases hlt:k<ps.length
   ·have hck:=gG.out k hlt;have hqz:=Yj.out _ (List.getElem_mem hlt);have xZ:Hid (Thk.seg (ah ps[k])=true->(k+1<ps.length->(ah ps[k]).head? = some 109)->∀j(h:j<ps.length),j<k+1->Thk.seg (ah ps[j])=true/\(j+1<ps.length->(ah ps[j]).head? = some 109)):=by
     intro h1 h2 j h b;by_cases e:j=k
     ·subst e;exact⟨h1,h2⟩
     ·exact hall.out j h (by omega)
    have Hf1:Hid (Thk.seg (ah ps[k])=false->Thk.kG (ps.map ah)=false):=λh=>Thk.ou _ k (by simpa using hlt) (by simpa using h);have KC:Hid (k+1<ps.length->((ah ps[k]).head?==some 109)=false->Thk.kG (ps.map ah)=false):=λh1 h=>Thk.oz _ k (by simpa using h1) (by simpa using h);clear hall;generalize ps[k]=q at *;cases hseg:Thk.seg (ah q)
    ·have hfin:Hid (Thk.path (ah s)=false):=xY.out.trans (Hf1.out hseg);have tH:Hid (_):=hseg;clear hseg xZ Hf1 KC;go_wp2_with (go_at_call 94;refine(jQ q _ (by omega)).mono ?_;rintro e w'⟨rfl,rfl⟩;rw[tH.out]);go_ret2;exact⟨by rw[hfin.out];rfl,hb1⟩
    ·have hq2:2<=q.size:=by have:=Thk.CV _ hseg;rwa [aB]at this
     have tH:Hid (_):=hseg;have OX:Hid (_):=xZ.out hseg;clear hseg xZ Hf1;have hh:=mM q (by omega);by_cases hl:k+1<ps.length
     ·by_cases hm:q[0]=109
      ·have Iy:Hid (_):=OX.out (λ_=>by rw[hh,hm]);have hd:((q[0].toNat:Int) !=109)=false:=by rw[hm];(first|done|rfl)
       clear KC OX hh hm;go_wp2_with (go_at_call 94;refine(jQ q _ (by omega)).mono ?_;rintro e w'⟨rfl,rfl⟩;rw[tH.out])
       go_round
       case rel=>exact⟨k+1,by omega,by go_num,Iy⟩
       case measure=>simp[intOf];omega
      ·have hfin:Hid (Thk.path (ah s)=false):=xY.out.trans (KC.out hl (by rw[hh];simpa using hm));have hd:((q[0].toNat:Int) !=109)=true:=by rw[bne_iff_ne];intro h;apply hm;apply UInt8.toNat_inj.1;have:(109:UInt8).toNat=109:=rfl;omega
       clear KC OX hh hm;go_wp2_with (go_at_call 94;refine(jQ q _ (by omega)).mono ?_;rintro e w'⟨rfl,rfl⟩;rw[tH.out]);go_ret2;exact⟨by rw[hfin.out];rfl,hb1⟩
     ·have Iy:Hid (_):=OX.out (λh=>absurd h hl);clear KC OX hh;go_wp2_with (go_at_call 94;refine(jQ q _ (by omega)).mono ?_;rintro e w'⟨rfl,rfl⟩;rw[tH.out])
      go_round
      case rel=>exact⟨k+1,by omega,by go_num,Iy⟩
      case measure=>simp[intOf];omega
   ·have hfin:Hid (Thk.path (ah s)=true):=by
     refine xY.out.trans ((Thk.ED _ (λj h=>?_) (λj h h2=>?_)).trans (by simp;omega))
     ·simp only[List.getElem_map];exact(hall.out j (by simpa using h) (by simp at h;omega)).1
     ·simp only[List.getElem_map];exact(hall.out j (by simpa using h) (by simp at h;omega)).2 (by simpa using h2)
    clear hall;go_wp2;go_ret2;exact⟨by rw[hfin.out];rfl,hb1⟩
theorem rP(c:UInt8)(l cur:Thk.Bs)(h:¬c∈l):Thk.bH c cur l=[cur++l]:=by rw[pJ,if_pos];have h1:=index_ge l c;have h2:=(not_congr (BA l c)).2 h;omega
theorem Am(c:UInt8):∀(l cur:Thk.Bs)(i:Nat),l[i]?=some c->(∀j,i<j->l[j]?≠some c)->(Thk.bH c cur l).getLast? = some (l.drop (i+1)):=by
 intro l;induction l with
 | nil=>intro cur i h;simp at h
 | cons x r ih =>
  intro cur i hi hj;cases i with
  | zero =>
   have hx:x=c:=by simpa using hi
   subst hx;have hn:¬x∈r:=λhm=>by obtain⟨j,hj1,hj2⟩:=List.getElem_of_mem hm;exact hj (j+1) (by omega) (by simp[List.getElem?_eq_getElem hj1,hj2])
   rw[Thk.lI,rP _ _ _ hn];simp
  | succ i =>
   have hi':r[i]?=some c:=by simpa using hi
   have hj':∀j,i<j->r[j]?≠some c:=λj h=>by have:=hj (j+1) (by omega);simpa using this
   by_cases hx:x=c
   ·subst hx;rw[Thk.lI,List.getLast?_cons,ih [] i hi' hj'];simp
   ·rw[Thk.oP _ _ _ _ hx,ih _ i hi' hj'];simp
theorem yA(s:ByteArray)(j:Nat)(h:j<s.size):s.data[j]! = s[j]:=by rw[getElem!_pos s.data j h];(first|done|rfl)
theorem TP(s:ByteArray)(hp:Thk.path (ah s)=true):∃k:Nat,Lib.lastIndexByte s 47+1=(k:Int)/\∃h:k<s.size,s[k]=Thk.kindOf (ah s):=by
 obtain⟨hn,h2,h0⟩:=Thk.A8 _ hp;have hl:(Thk.split 47 (ah s)).getLast? = some ((Thk.split 47 (ah s))[(Thk.split 47 (ah s)).length-1]'(by omega)):=by rw[List.getLast?_eq_getElem?,List.getElem?_eq_getElem]
 have key:∀k:Nat,(Thk.split 47 (ah s)).getLast? = some ((ah s).drop k)->∃h:k<s.size,s[k]=Thk.kindOf (ah s):=by
  intro k hk;rw[hl]at hk;simp only[Option.some.injEq]at hk;rw[hk]at h2 h0;simp only[List.length_drop,aB]at h2;have hks:k<s.size:=by omega
  refine⟨hks, ?_⟩;rw[List.getElem?_drop,Nat.add_zero,List.getElem?_eq_getElem (by rw[aB];exact hks),jm s k hks]at h0;simpa using h0
 rcases Lib.lastIdx_spec s 47 s.size with⟨h1,hno⟩|⟨i,hi,h1,hc,hno⟩
 ·refine⟨0,by unfold Lib.lastIndexByte;rw[h1];rfl,key 0 ?_⟩;have hmem:¬(47:UInt8)∈ah s:=λhm=>by obtain⟨j,hj1,hj2⟩:=List.getElem_of_mem hm;rw[aB]at hj1;have:=hno j hj1;rw[yA s j hj1,<- jm s j hj1,hj2]at this;exact this rfl
  unfold Thk.split;rw[rP _ _ _ hmem];simp
 ·refine⟨i+1,by unfold Lib.lastIndexByte;rw[h1];omega,key (i+1) ?_⟩;unfold Thk.split;apply Am
  ·rw[List.getElem?_eq_getElem (by rw[aB];exact hi),jm s i hi];rw[yA s i hi]at hc;congr 1;apply UInt8.toNat_inj.1;have:(47:UInt8).toNat=47:=rfl;omega
  ·intro j hj e;have hjs:j<s.size:=by
    rcases Nat.lt_or_ge j s.size with h|h
    ·exact h
    ·rw[List.getElem?_eq_none (by rw[aB];exact h)]at e;cases e
   rw[List.getElem?_eq_getElem (by rw[aB];exact hjs),jm s j hjs]at e;have:=hno j hj hjs;rw[yA s j hjs]at this;simp only[Option.some.injEq]at e;rw[e]at this;exact this rfl
theorem E5(s:ByteArray)(w:World)(hs:s.size<=1048576)(hp:Thk.path (ah s)=true):Calls prog 83 #[.string s] w λe w'=>e=.returned (.int .u8 ((Thk.kindOf (ah s)).toNat:Int))/\w'=w:=by
 obtain⟨k,h1,h2,h3⟩:=TP s hp;have Hc:Hid (_):=Tryz.strings_LastIndexByte s 47 (by omega) w;obtain⟨ix,hix⟩:∃ix,ix=Lib.lastIndexByte s 47:=⟨_,rfl⟩;rw[<- hix]at h1;have YJ:ix=(k:Int)-1:=by omega
 have H3:Hid (_):=h3;clear h3 h1 hp;go_enter func83,ntmps83;go_wp2_with fail;refine Calls.mono Hc.out ?_;rintro e w'⟨rfl,rfl⟩;rw[<- hix,YJ];clear hix YJ;go_wp2;go_ret;exact⟨CX (by rw[H3.out]),rfl⟩
def pO(k:UInt8):Thk.Bs:=if(k.toNat:Int)=115 then [43,45,33]else if(k.toNat:Int)=102 then [94,95,33]else if(k.toNat:Int)=114 then [61,33]else if(k.toNat:Int)=99 then [62,33]else [33]
theorem Ap(k:UInt8)(w:World):Calls prog 82 #[.int .u8 (k.toNat:Int)] w λe w'=>∃t,e=.returned (.string t)/\ah t=pO k/\w'=w:=by
 go_enter func82,ntmps82;go_wp2;all_goals
  go_ret;refine⟨_,rfl, ?_,rfl⟩;simp only[beq_iff_eq,beq_eq_false_iff_ne]at *;unfold pO;simp[*];try rfl
theorem tY(p:ByteArray)(a:UInt8)(v:ByteArray)(n:Int)(w:World):Calls prog 90 #[.agg #[.string p,.int .u8 (a.toNat:Int),.string v,.int .i64 n]] w λe w'=>e=.returned (.bool (ig a))/\Below w.heap.size w w':=by
 go_enter func90,ntmps90;go_wp2;all_goals
  go_ret;refine⟨aY ?_,(Below.refl _ _).alloc (Nat.le_refl _) _⟩;simp only[beq_iff_eq,beq_eq_false_iff_ne]at *;unfold ig;rw[Bool.eq_iff_iff];simp;try omega
theorem rQ(l p:Thk.Bs):Thk.begins l p=(l==p||(p++[47]).isPrefixOf l):=by
 unfold Thk.begins;cases h:(l==p)
 ·simp only[Bool.false_or];rw[Bool.eq_iff_iff];simp only[Bool.and_eq_true,decide_eq_true_eq,beq_iff_eq,List.isPrefixOf_iff_prefix];constructor
  ·rintro⟨⟨h1,h2⟩,h3⟩;rw[List.getElem?_eq_getElem h1]at h3;have h4:l[p.length]=47:=by apply UInt8.toNat_inj.1;simpa using h3
   refine⟨l.drop (p.length+1), ?_⟩
   conv=>rhs;rw[<- List.take_append_drop p.length l,h2,List.drop_eq_getElem_cons h1,h4]
   simp
  ·rintro⟨t,rfl⟩;simp
 ·rfl
def gV(p l:Thk.Bs):Thk.Bs:=(Thk.split 47 (l.drop (p.length+1))).headD []
theorem PD(l:Thk.Bs):(Lib.cut l [47]).1=(Thk.split 47 l).headD []:=by
 unfold Lib.cut;rw[Lib.index_one,pK];have hge:=index_ge l 47;by_cases h:Lib.indexByte l 47 = -1
 ·rw[if_neg (by rw[h];omega),if_pos h];(first|done|rfl)
 ·rw[if_pos (by omega),if_neg h];(first|done|rfl)
theorem E8(p l:ByteArray)(m:Int)(w:World)(hp:p.size<=1048576)(hl:l.size<=1048576)(hm:w.cell? ⟨0,0,none⟩=some (.int .i64 m)):Calls prog 217 #[.string p,.string l] w λe w'=>∃t,e=.returned (.tuple #[.string t,.bool ((ah p++[47]).isPrefixOf (ah l))])/\((ah p++[47]).isPrefixOf (ah l)=true->ah t=gV (ah p) (ah l))/\t.size<=l.size/\Below w.heap.size w w':=by
 have L9:Hid (_):=Tryz.strings_CutPrefix l (p++⟨#[47]⟩) w;have e1:(p++⟨#[47]⟩:ByteArray).data.toList=ah p++[47]:=jF p ⟨#[47]⟩;have hsz:p.size+1<=9223372036854775807:=by omega
 cases hx:(ah p++[47]).isPrefixOf (ah l)
 ·have hh:Hid (Lib.hasPrefix l.data.toList (p++⟨#[47]⟩:ByteArray).data.toList=false):=by unfold Hid Lib.hasPrefix;rw[e1];exact hx
  clear hx hm e1;go_enter func217,ntmps217;go_wp2_with fail;refine Calls.mono L9.out ?_;rw[hh.out];rintro e w'⟨rfl,rfl⟩;go_wp2;go_ret2;exact⟨ByteArray.empty,rfl,(λh=>by cases h),Nat.zero_le _,Below.refl _ _⟩
 ·have hh:Hid (Lib.hasPrefix l.data.toList (p++⟨#[47]⟩:ByteArray).data.toList=true):=by unfold Hid Lib.hasPrefix;rw[e1];exact hx
  have ht:Hid (Lib.trimPrefix l.data.toList (p++⟨#[47]⟩:ByteArray).data.toList=(ah l).drop (p.size+1)):=by unfold Hid Lib.trimPrefix;rw[hh.out,if_pos rfl,e1];congr 1;simp[aB]
  obtain⟨q,hq⟩:∃q:ByteArray,q=⟨((ah l).drop (p.size+1)).toArray⟩:=⟨_,rfl⟩;have YK:q.size<=l.size:=by
   have:q.size=((ah l).drop (p.size+1)).length:=by rw[hq];(first|done|rfl)
   rw[this,List.length_drop,aB];omega
  have EJ:Hid (_):=Tryz.strings_Cut q ⟨#[47]⟩ m w (by omega) hm;have Hq:Hid (ah q=(ah l).drop (p.size+1)):=by unfold Hid;rw[hq];(first|done|rfl)
  obtain⟨t,htt⟩:∃t:ByteArray,t=⟨(Lib.cut q.data.toList [47]).1.toArray⟩:=⟨_,rfl⟩;have Ht:Hid (ah t=gV (ah p) (ah l)):=by
   have h1:ah t=(Lib.cut (ah q) [47]).1:=by rw[htt];(first|done|rfl)
   unfold Hid gV;rw[h1,PD,Hq.out,aB]
  have Hts:Hid (t.size<=l.size):=by
   unfold Hid;have h1:t.size=(Lib.cut (ah q) [47]).1.length:=by rw[htt];(first|done|rfl)
   have h2:(Lib.cut (ah q) [47]).1.length<=(ah q).length:=by
    unfold Lib.cut;split
    ·simp;omega
    ·simp
   rw[aB]at h2;omega
  clear hx hm e1;go_enter func217,ntmps217;go_wp2_with fail;refine Calls.mono L9.out ?_;rw[hh.out,ht.out,<- hq];rintro e w'⟨rfl,hw'⟩;subst hw';clear hq;go_wp2_with fail;refine Calls.mono EJ.out ?_;rintro e w2⟨rfl,n,rfl⟩;rw[<- htt];clear htt;go_wp2;go_ret2;exact⟨t,rfl,(λ_=>Ht.out),Hts.out,below_drewN (Below.refl _ _) _⟩
theorem Mc(p l:ByteArray)(m:Int)(w:World)(hp:p.size<=1048576)(hl:l.size<=1048576)(hm:w.cell? ⟨0,0,none⟩=some (.int .i64 m)):Calls prog 206 #[.string p,.string l] w λe w'=>e=.returned (.bool (Thk.begins (ah l) (ah p)))/\Below w.heap.size w w':=by
 have Hs:Hid (_):=E8 p l m w hp hl hm;have Hb:Hid (Thk.begins (ah l) (ah p)=((ah p==ah l)||(ah p++[47]).isPrefixOf (ah l))):=by unfold Hid;rw[rQ];congr 1;rw[Bool.eq_iff_iff];simp;exact eq_comm
 clear hm;go_enter func206,ntmps206;go_wp2_with fail;refine Calls.mono Hs.out ?_;rintro e w1⟨t,rfl,_,_,hb1⟩;generalize (ah p++[47]).isPrefixOf (ah l)=x at *;cases heq:(p.toList==l.toList)
 ·have h1:(ah p==ah l)=false:=by rw[toList_eq,toList_eq]at heq;exact heq
  have Hf:Hid (Thk.begins (ah l) (ah p)=x):=by unfold Hid;rw[Hb.out,h1];(first|done|rfl)
  clear h1 Hb;go_wp2;go_ret;exact⟨aY Hf.out.symm,hb1⟩
 ·have h1:(ah p==ah l)=true:=by rw[toList_eq,toList_eq]at heq;exact heq
  have Hf:Hid (Thk.begins (ah l) (ah p)=true):=by unfold Hid;rw[Hb.out,h1];(first|done|rfl)
  clear h1 Hb;go_wp2;go_ret;exact⟨aY Hf.out.symm,hb1⟩
theorem I4(dp dv ep ev:ByteArray)(da ea:UInt8)(dn en:Int)(m:Int)(w:World)(h1:dp.size<=1048576)(h2:ep.size<=1048576)(hm:w.cell? ⟨0,0,none⟩=some (.int .i64 m)):Calls prog 149 #[.agg #[.string dp,.int .u8 (da.toNat:Int),.string dv,.int .i64 dn],.agg #[.string ep,.int .u8 (ea.toNat:Int),.string ev,.int .i64 en]] w λe w'=>e=.returned (.bool (ny (ah dp) da (ah dv) (ah ep) ea (ah ev)))/\Below w.heap.size w w':=by
 have V3:Hid (∀wx,Below w.heap.size w wx->wx.cell? ⟨0,0,none⟩=some (.int .i64 m)):=λwx hx=>(hx.cell (p:=⟨0,0,none⟩) (block_lt_of_cell hm)).trans hm;clear hm;go_enter func149,ntmps149;go_wp2_with (go_at_call 206;refine(Mc dp ep m _ h1 h2 (V3.out _ (((Below.refl _ _).alloc (Nat.le_refl _) _).alloc (by simp) _))).mono ?_;rintro e w1⟨rfl,hb1⟩)
 ·go_ret;rename_i h33;refine⟨aY ?_,(((Below.refl _ _).alloc (Nat.le_refl _) _).alloc (by simp) _).trans (hb1.mono (by simp;omega))⟩;unfold ny;rw[if_pos (by simpa using h33)]
 all_goals
  go_ret;refine⟨aY ?_,((Below.refl _ _).alloc (Nat.le_refl _) _).alloc (by simp) _⟩;simp only[toList_eq,Bool.not_eq_true',Bool.not_eq_false',beq_iff_eq,beq_eq_false_iff_ne]at *;unfold ny;by_cases e1:(ea.toNat:Int)=43
  ·simp_all [ah]
   try(rw[Bool.eq_iff_iff];simp only[beq_iff_eq];exact⟨Eq.symm,Eq.symm⟩)
  ·by_cases e2:(ea.toNat:Int)=94
   ·simp_all [ah]
   ·by_cases e3:(ea.toNat:Int)=61
    ·simp_all [ah]
    ·simp_all [ah]
theorem yB{B:Nat}{a w:World}(h:Below B a w)(hB:B<=w.heap.size)(os:Array Obj):Below B a (Sort.grow w os) :=
 h.trans ⟨rfl,rfl,rfl,by simp[Sort.grow],λk hk=>by simp only[Sort.grow];rw[Array.getElem?_append_left (by omega)]⟩
theorem Fa(l:List UInt8)(v:Int)(h:Lib.parseIntB 64 l=.ok v):-9223372036854775808<=v/\v<=9223372036854775807:=by
 unfold Lib.parseIntB at h;split at h
 ·cases h
 ·simp only at h;split at h
  ·cases h
  ·cases h
  ·split at h
   ·cases h
   ·split at h
    ·cases h
    ·rename_i c r _ u hu n1 n2;simp only[Lib.NumEnd.ok.injEq]at h;simp at n1 n2;split at h
     ·rename_i h45;have:=n2 h45;omega
     ·rename_i h45;have:=n1 h45;omega
theorem yC(s:ByteArray)(w:World)(hs:s.size<=1048576)(hG:Glob w):Calls prog 145 #[.string s] w λe w'=>∃v,e=.returned (.tuple #[.int .i64 v,.bool (Thk.num (ah s)).isSome])/\(∀n,Thk.num (ah s)=some n->v=n)/\Below w.heap.size w w':=by
 have hq:Thk.num (ah s)=Thk.tV (ah s):=(Thk.IX _).symm;unfold Thk.tV at hq;cases hp:Lib.parseIntB 64 (ah s) with
 | ok v =>
  have hr:=Fa _ _ hp;have L9:Hid (_):=Tryz.strconv_ParseInt_10_at64_ok s (by omega) v hp w;rw[hp]at hq;simp only at hq;have HG:Hid (Glob w):=hG;clear hG hp;go_enter func145,ntmps145;go_wp2_with fail;refine Calls.mono L9.out ?_;rintro e w1⟨rfl,hw1⟩;have Hb1:Hid (Below w.heap.size w w1):=by
   rcases hw1 with rfl|⟨t,rfl⟩
   ·exact Below.refl _ _
   ·exact Lib.bytesWorld_below _ _ _
  clear hw1;have EJ:Hid (_):=Tryz.strconv_FormatInt_10 v hr.1 hr.2 w1 (HG.out.mono Hb1.out).tab;go_wp2_with fail;refine Calls.mono EJ.out ?_;rintro e w2⟨rfl,hw2⟩;have Hb2:Hid (Below w.heap.size w w2):=by obtain⟨k,os,rfl⟩:=hw2;exact yB (below_drewN Hb1.out k) Hb1.out.size os
  clear hw2 L9 EJ;obtain⟨q,hqq⟩:∃q:ByteArray,q=⟨(Lib.itoa v).toArray⟩:=⟨_,rfl⟩;rw[<- hqq];have Hq:Hid (ah q=Lib.itoa v):=by rw[hqq];(first|done|rfl)
  clear hqq;cases heq:(q.toList==s.toList)
  ·have hne:¬(Lib.itoa v=ah s):=by
    have h1:(ah q==ah s)=false:=by rw[toList_eq,toList_eq]at heq;exact heq
    rw[Hq.out]at h1;simpa using h1
   have Hf:Hid (Thk.num (ah s)=none):=by unfold Hid;rw[hq,if_neg (λh=>hne h.1)]
   clear hq hne;go_wp2;go_ret2;refine⟨0, ?_, ?_,Hb2.out⟩
   ·rw[Hf.out];(first|done|rfl)
   ·intro n hn;rw[Hf.out]at hn;cases hn
  ·have he:Lib.itoa v=ah s:=by
    have h1:(ah q==ah s)=true:=by rw[toList_eq,toList_eq]at heq;exact heq
    rw[Hq.out]at h1;simpa using h1
   have Hf:Hid (Thk.num (ah s)=if -1000000000<=v/\v<=1000000000 then some v else none):=by unfold Hid;rw[hq];simp[he]
   clear hq he;go_wp2;all_goals
    go_ret2;refine⟨v, ?_, ?_,Hb2.out⟩
    ·rw[Hf.out];split<;>simp_all<;>omega
    ·intro n hn;rw[Hf.out]at hn;split at hn<;>simp_all
 | range =>
  obtain⟨ev,hv,hev⟩:=hG.rng;have L9:Hid (_):=Tryz.strconv_ParseInt_10_at64_range s (by omega) hp ev w hv hev;rw[hp]at hq;have Hf:Hid (Thk.num (ah s)=none):=hq;clear hG hp hq hv hev;go_enter func145,ntmps145;go_wp2_with fail;refine Calls.mono L9.out ?_;rintro e w1⟨N,rfl,_,_,hb⟩;go_wp2;go_ret2;refine⟨0, ?_, ?_,hb⟩
  ·rw[Hf.out];(first|done|rfl)
  ·intro n hn;rw[Hf.out]at hn;cases hn
 | _ =>
  obtain⟨ev,hv,hev⟩:=hG.syn;have L9:Hid (_):=Tryz.strconv_ParseInt_10_at64_syntax s (by omega) hp ev w hv hev;rw[hp]at hq;have Hf:Hid (Thk.num (ah s)=none):=hq;clear hG hp hq hv hev;go_enter func145,ntmps145;go_wp2_with fail;refine Calls.mono L9.out ?_;rintro e w1⟨N,rfl,_,_,hb⟩;go_wp2;go_ret2;refine⟨0, ?_, ?_,hb⟩
  ·rw[Hf.out];(first|done|rfl)
  ·intro n hn;rw[Hf.out]at hn;cases hn
end Go.Proofs.YtfmmllpjgkgeaaaGreatDoor
namespace Go.Proofs.YtfmmllpjgkgeaaaGreatDoor
open Go.Proofs.Tryz Go.RowKit Go.Maps Go.ChangeMaps Go.MapKept
def Ik(v:Value):Option (DataW Value×List MemPlace):=some (.held v,[])
def Says(P:Program)(k:TypeId)(D:DataW Value)(m:Value->Option Value):Prop :=
 (∀key kl,keyOf P k key=some kl->Maps.has D kl=(m key).isSome/\∀v,m key=some v->∀z,D.atKey kl z=.held v)/\∀key,(m key).isSome=true->∃kl,keyOf P k key=some kl
def bM(P:Program)(k:TypeId)(w:World)(b N:Nat)(m:Value->Option Value):Prop:=∃D,w.ownsMap P k Ik b N D/\Maps.size D=N/\Says P k D m
def gQ(P:Program)(k:TypeId)(w:World)(b r N:Nat)(m:Value->Option Value)(left:Value->Prop)(cnt:Nat):Prop :=
 ∃D lf,w.ranges P k Ik b r N D lf cnt/\Maps.size D=N/\Says P k D m/\(∀key kl,keyOf P k key=some kl->(lf kl=true↔left key))/\∀key,left key->∃kl,keyOf P k key=some kl
open Classical in
noncomputable def upd(m:Value->Option Value)(key v:Value):Value->Option Value:=λx=>if x=key then some v else m x
open Classical in
noncomputable def era(m:Value->Option Value)(key:Value):Value->Option Value:=λx=>if x=key then none else m x
theorem upd_same(m:Value->Option Value)(key v:Value):upd m key v key=some v:=by simp[upd]
theorem iG{m:Value->Option Value}{key v x:Value}(h:x≠key):upd m key v x=m x:=by simp[upd,h]
theorem Fb(m:Value->Option Value)(key:Value):era m key key=none:=by simp[era]
theorem uX{m:Value->Option Value}{key x:Value}(h:x≠key):era m key x=m x:=by simp[era,h]
variable{P:Program}{k:TypeId}{w:World}{b r N cnt:Nat}{m:Value->Option Value}{left:Value->Prop}
theorem BD{D:DataW Value}{n:Nat}(h:w.ownsMap P k Ik b n D):w.ownsMap P k Ik b (Maps.size D) D:=by obtain⟨es,clock,hb,F,hs,hD⟩:=h;refine⟨es,clock,hb,F, ?_,hD⟩;rw[hD];simp[Maps.size,length_sorted]
theorem bM.lt(h:bM P k w b N m):b<w.heap.size:=by obtain⟨D,h1,_⟩:=h;exact h1.lt
theorem bM.kept{w':World}{row:Option Nat}(h:bM P k w b N m)(hg:w.grownBy w' row)(hne:some b≠row):bM P k w' b N m:=by obtain⟨D,h1,h2⟩:=h;exact⟨D,h1.kept hg hne,h2⟩
theorem bM.block{w':World}(h:bM P k w b N m)(hb:w'.heap[b]?=w.heap[b]?):bM P k w' b N m:=by obtain⟨D,⟨es,clock,h1,r⟩,h2⟩:=h;exact⟨D,⟨es,clock,hb.trans h1,r⟩,h2⟩
theorem gQ.block{w':World}(h:gQ P k w b r N m left cnt)(hb:w'.heap[b]?=w.heap[b]?)(hr:w'.heap[r]?=w.heap[r]?):gQ P k w' b r N m left cnt:=by obtain⟨D,lf,⟨es,clock,since,seen,c0,h1,F,hs,hD,h2,rest⟩,h3⟩:=h;exact⟨D,lf,⟨es,clock,since,seen,c0,hb.trans h1,F,hs,hD,hr.trans h2,rest⟩,h3⟩
theorem gQ.map(h:gQ P k w b r N m left cnt):bM P k w b N m:=by obtain⟨D,lf,h1,h2,h3,_⟩:=h;exact⟨D,h1.owns,h2,h3⟩
theorem gQ.left_eq(h:gQ P k w b r N m left cnt):w.rangeLeft b r=cnt:=by obtain⟨D,lf,h1,_⟩:=h;exact h1.left_eq
theorem gQ.lt(h:gQ P k w b r N m left cnt):r<w.heap.size:=by obtain⟨D,lf,h1,_⟩:=h;exact h1.lt
theorem bM.mP{t:TypeId}{cur:Array Value}{fz:Nat×Nat}(h:bM P k w b N m):w.heap[b]?≠some (.cells cur t fz):=by obtain⟨D,⟨es,clock,h1,r⟩,h2⟩:=h;rw[h1];intro e;cases e
theorem bM.made(w:World)(P:Program)(k:TypeId):bM P k (w.alloc (.map #[] 0)) w.heap.size 0 (λ_=>none) :=
 ⟨_,World.ownsMap_made w P k Ik,rfl,λkey kl _=>⟨rfl,λv h=>by cases h⟩,λkey h=>by cases h⟩
theorem Says.at{D:DataW Value}(h:Says P k D m){key:Value}{kl:Lit}(hk:keyOf P k key=some kl)(z:Value):D.atKey kl (.held z)=.held ((m key).getD z):=by
 obtain⟨h1,h2⟩:=h.1 key kl hk;cases hm:m key with
 | none=>rw[hm]at h1;exact atKey_of_not_has h1 _
 | some v=>exact h2 v hm _
theorem bM.look{t e:TypeId}(h:bM P k w b N m)(K:Keyed P k)(ht:P.underlying t=some (.map k e)){z:Value}(hz:(zeroValue e).run P w=.ok z w){key:Value}{kl:Lit}(hk:keyOf P k key=some kl):(Instr.lookup t (.map (some b)) key false).run P w=.ok ((m key).getD z) w:=by obtain⟨D,h1,_,h2⟩:=h;obtain⟨v,ps,hr,hv⟩:=h1.lookup K ht hz (show Ik z=some (.held z,[])from rfl) hk;rw[h2.at hk z]at hv;simp only[Ik,Option.some.injEq,Prod.mk.injEq,DataW.held.injEq]at hv;rw[hr,hv.1]
theorem bM.look_ok{t e:TypeId}(h:bM P k w b N m)(K:Keyed P k)(ht:P.underlying t=some (.map k e)){z:Value}(hz:(zeroValue e).run P w=.ok z w){key:Value}{kl:Lit}(hk:keyOf P k key=some kl):(Instr.lookup t (.map (some b)) key true).run P w=.ok (.tuple #[(m key).getD z,.bool (m key).isSome]) w:=by obtain⟨D,h1,_,h2⟩:=h;obtain⟨v,ps,hr,hv⟩:=h1.look_ok K ht hz (show Ik z=some (.held z,[])from rfl) hk;rw[h2.at hk z]at hv;simp only[Ik,Option.some.injEq,Prod.mk.injEq,DataW.held.injEq]at hv;rw[hr,hv.1,(h2.1 key kl hk).1]
theorem bM.len{t e:TypeId}(h:bM P k w b N m)(ht:P.underlying t=some (.map k e))(ty:TypeId):(Builtin.len_ #[t] ty #[.map (some b)]).run P w=.ok (.int .i64 N) w:=by obtain⟨D,h1,h2,_⟩:=h;rw[h1.len ht ty,h2]
theorem bM.zero(h:bM P k w b N m)(K:Keyed P k)(h0:∀key,m key=none):N=0:=by
 obtain⟨D,h1,h2,h3⟩:=h;obtain⟨es,clock,hb,F,hs,rfl⟩:=h1;rw[<- h2];simp only[Maps.size,length_sorted,List.length_map,Array.length_toList];rcases Nat.eq_zero_or_pos es.size with h|h
 ·exact h
 ·exfalso;obtain⟨x,hx⟩:∃x,x∈es.toList:=⟨es[0],by simp⟩;obtain⟨y,hy⟩:=F.reads x hx;have hkey:=WideElems.rd_key hy;have hh:=(h3.1 _ _ hkey).1;rw[h0]at hh;have:Maps.has (DataW.map ((es.toList.map (WideElems.rg P k Ik)).foldr DataW.insert [])) y.1=true :=
   List.any_eq_true.2 ⟨WideElems.rg P k Ik x,mem_sorted.2 (List.mem_map.2 ⟨x,hx,rfl⟩),by rw[WideElems.rg_of hy];exact WideAt.sameKey_self (K.key hkey)⟩
  rw[this]at hh;cases hh
theorem bM.store{t e:TypeId}(h:bM P k w b N m)(K:Keyed P k)(ht:P.underlying t=some (.map k e))(hn:N<maxLen){key:Value}(val:Value){kl:Lit}(hk:keyOf P k key=some kl):∃w',(Instr.mapUpdate t (.map (some b)) key val).run P w=.ok () w'/\bM P k w' b (if(m key).isSome then N else N+1) (upd m key val)/\w.grownBy w' (some b)/\w'.heap.size=w.heap.size:=by
 obtain⟨D,h1,h2,h3⟩:=h;have tidy:=h1.tidy K;have YL:=K.key hk;obtain⟨w',hr,h4,h5⟩:=h1.store K ht hn hk (show Ik val=some (.held val,[])from rfl);have hsz:w'.heap.size=w.heap.size:=by obtain⟨_,_,_,_,_,rfl⟩:=h5;simp[setBlock]
 have hN:Maps.size (D.put kl (.held val))=if(m key).isSome then N else N+1:=by rw[size_put tidy,(h3.1 key kl hk).1,h2]
 refine⟨w',hr,⟨_,hN▸BD h4,hN, ?_, ?_⟩,h5.grown,hsz⟩
 ·intro key2 Fe hk2;by_cases e:key2=key
  ·subst e;rw[hk]at hk2;cases hk2
   rw[upd_same];exact⟨has_put_same tidy.isMap YL _,λv hv z=>by cases hv;exact atKey_put_same tidy.isMap YL _ _⟩
  ·have hne:Fe≠kl:=λe2=>e (K.inj hk2 (e2▸hk));rw[iG e];exact⟨(has_put_other hne _).trans (h3.1 key2 Fe hk2).1,λv hv z=>(atKey_put_other hne _ _).trans ((h3.1 key2 Fe hk2).2 v hv z)⟩
 ·intro key2 h;by_cases e:key2=key
  ·subst e;exact⟨kl,hk⟩
  ·rw[iG e]at h;exact h3.2 key2 h
theorem bM.drop{t e:TypeId}(h:bM P k w b N m)(K:Keyed P k)(ht:P.underlying t=some (.map k e)){key:Value}{kl:Lit}(hk:keyOf P k key=some kl)(ty:TypeId):∃w',(Builtin.delete_ #[t,k] ty #[.map (some b),key]).run P w=.ok (.tuple #[]) w'/\bM P k w' b (if(m key).isSome then N-1 else N) (era m key)/\w.grownBy w' (some b)/\w'.heap.size=w.heap.size:=by
 obtain⟨D,h1,h2,h3⟩:=h;have tidy:=h1.tidy K;obtain⟨w',hr,h4,h5⟩:=h1.drop K ht hk ty;have hsz:w'.heap.size=w.heap.size:=by obtain⟨_,_,_,_,_,rfl⟩:=h5;simp[setBlock]
 have hN:Maps.size (D.del kl)=if(m key).isSome then N-1 else N:=by have:=size_del (k:=kl) tidy;rw[(h3.1 key kl hk).1,h2]at this;split at this<;>simp_all<;>omega
 refine⟨w',hr,⟨_,hN▸BD h4,hN, ?_, ?_⟩,h5.grown,hsz⟩
 ·intro key2 Fe hk2;by_cases e:key2=key
  ·subst e;rw[hk]at hk2;cases hk2
   rw[Fb];exact⟨has_del_same,λv hv=>by cases hv⟩
  ·have hne:Fe≠kl:=λe2=>e (K.inj hk2 (e2▸hk));rw[uX e];exact⟨(has_del_other hne).trans (h3.1 key2 Fe hk2).1,λv hv z=>(atKey_del_other hne _).trans ((h3.1 key2 Fe hk2).2 v hv z)⟩
 ·intro key2 h;by_cases e:key2=key
  ·subst e;exact⟨kl,hk⟩
  ·rw[uX e]at h;exact h3.2 key2 h
theorem bM.range{t e:TypeId}(h:bM P k w b N m)(K:Keyed P k)(ht:P.underlying t=some (.map k e)):∃w',(Instr.range t (.map (some b))).run P w=.ok (.pointer (some ⟨w.heap.size,0,none⟩)) w'/\gQ P k w' b w.heap.size N m (λkey=>(m key).isSome=true) N/\w.grownBy w' none/\w'.heap.size=w.heap.size+1:=by obtain⟨D,h1,h2,h3⟩:=h;obtain⟨w',hr,h4,h5,h6⟩:=h1.range K ht;exact⟨w',hr,⟨D,_,h2▸h4,h2,h3,λkey kl hk=>by rw[(h3.1 key kl hk).1],h3.2⟩,h5,h6⟩
theorem gQ.next(h:gQ P k w b r N m left cnt)(K:Keyed P k)(ty:TypeId):(cnt=0/\(∀key,¬left key)/\(Instr.next (.pointer (some ⟨r,0,none⟩)) false ty).run P w=.ok (.tuple #[.bool false]) w) \/ ∃key v w' cnt',left key/\m key=some v/\(Instr.next (.pointer (some ⟨r,0,none⟩)) false ty).run P w=.ok (.tuple #[.bool true,key,v]) w' /\ gQ P k w' b r N m (λx=>left x/\x≠key) cnt'/\cnt'<cnt/\w.grownBy w' (some r)/\w'.heap.size=w.heap.size/\(Instr.entry (.pointer (some ⟨r,0,none⟩))).run P w'=.ok (.tuple #[key,v]) w':=by
 obtain⟨D,lf,h1,h2,h3,h4,h5⟩:=h;rcases h1.next K ty with⟨h0,hl,hrun⟩|⟨key,v,kl,y,w',cnt',hkey,hlk,hv,hat,hrun,hrg,hlt,hgr,hsz,hen⟩
 ·refine Or.inl ⟨h0,λkey hk=>?_,hrun⟩;obtain⟨kl,hkl⟩:=h5 key hk;have:=(h4 key kl hkl).2 hk;rw[hl]at this;cases this
 ·simp only[Ik,Option.some.injEq]at hv;subst hv;have hmv:m key=some v:=by
   have hh:=(h3.1 key kl hkey).1;rw[has_true_of_atKey hat]at hh;obtain⟨u,hu⟩:=Option.isSome_iff_exists.1 hh.symm;have:=(h3.1 key kl hkey).2 u hu (.held v);rw[hat]at this;cases this
   exact hu
  refine Or.inr ⟨key,v,w',cnt',(h4 key kl hkey).1 hlk,hmv,hrun,⟨D,_,hrg,h2,h3, ?_,λx hx=>h5 x hx.1⟩,hlt,hgr,hsz,hen⟩;intro key2 Fe hk2;by_cases e:key2=key
  ·subst e;rw[hkey]at hk2;cases hk2
   simp[WideAt.sameKey_self (K.key hkey)]
  ·have hne:Fe≠kl:=λe2=>e (K.inj hk2 (e2▸hkey));simp only[sameKey_ne hne,Bool.not_false,Bool.and_true];rw[h4 key2 Fe hk2];exact⟨λh=>⟨h,e⟩,λh=>h.1⟩
/-! ### at the operation,for the walk -/
section
variable{ops:Array Oper}{rest:List Oper}{o:Oper}{a:Act}{Q:Exit->Act->World->Prop}
theorem pR(hg:o.guard=none)(mo x:Operand)(t:TypeId)(hop:o.op=Op.lookup t mo x false)(e:TypeId)(K:Keyed P k)(ht:P.underlying t=some (.map k e)){z:Value}(hz:(zeroValue e).run P w=.ok z w)(hm:a.eval mo=.map (some b))(h:bM P k w b N m)(key:Value)(kl:Lit)(hx:a.eval x=key)(hk:keyOf P k key=some kl)(u:Value)(hu:(m key).getD z=u)(hK:wpList P ops Q rest (a.put o.dst u) w):wpList P ops Q (o::rest) a w:=by refine wpList_plain hg λK' hK'=>?_;unfold Oper.wp;simp[execOp,hop,hm,hx,h.look K ht hz hk,hu,Result.andThen];exact hK' _ _ hK
theorem pU(hg:o.guard=none)(mo x:Operand)(t:TypeId)(hop:o.op=Op.lookup t mo x true)(e:TypeId)(K:Keyed P k)(ht:P.underlying t=some (.map k e)){z:Value}(hz:(zeroValue e).run P w=.ok z w)(hm:a.eval mo=.map (some b))(h:bM P k w b N m)(key:Value)(kl:Lit)(hx:a.eval x=key)(hk:keyOf P k key=some kl)(u:Value)(hu:(m key).getD z=u)(c:Bool)(hc:(m key).isSome=c)(hK:wpList P ops Q rest (a.put o.dst (.tuple #[u,.bool c])) w):wpList P ops Q (o::rest) a w:=by refine wpList_plain hg λK' hK'=>?_;unfold Oper.wp;simp[execOp,hop,hm,hx,h.look_ok K ht hz hk,hu,hc,Result.andThen];exact hK' _ _ hK
theorem gq(hg:o.guard=none)(mo x v:Operand)(t:TypeId)(hop:o.op=Op.mapUpdate t mo x v)(e:TypeId)(K:Keyed P k)(ht:P.underlying t=some (.map k e))(hm:a.eval mo=.map (some b))(h:bM P k w b N m)(hn:N<maxLen)(key val:Value)(kl:Lit)(hx:a.eval x=key)(hv:a.eval v=val)(hk:keyOf P k key=some kl)(hK:∀w',bM P k w' b (if(m key).isSome then N else N+1) (upd m key val)->w.grownBy w' (some b)->w'.heap.size=w.heap.size->wpList P ops Q rest (a.put o.dst undef) w'):wpList P ops Q (o::rest) a w:=by refine wpList_plain hg λK' hK'=>?_;obtain⟨w',hrun,r1,r2,r3⟩:=h.store K ht hn val hk;unfold Oper.wp;simp[execOp,hop,hm,hx,hv,hrun,Result.andThen];exact hK' _ _ (hK w' r1 r2 r3)
theorem Fg(hg:o.guard=none)(mo x:Operand)(t:TypeId)(hop:o.op=Op.call { callee:=Callee.builtin Builtin.delete,args:=#[mo,x],argTypes:=#[t,k] })(e:TypeId)(K:Keyed P k)(ht:P.underlying t=some (.map k e))(hm:a.eval mo=.map (some b))(h:bM P k w b N m)(key:Value)(kl:Lit)(hx:a.eval x=key)(hk:keyOf P k key=some kl)(hK:∀w',bM P k w' b (if(m key).isSome then N-1 else N) (era m key)->w.grownBy w' (some b)->w'.heap.size=w.heap.size->wpList P ops Q rest (a.put o.dst (.tuple #[])) w'):wpList P ops Q (o::rest) a w:=by refine wpList_plain hg λK' hK'=>?_;obtain⟨w',hrun,r1,r2,r3⟩:=h.drop K ht hk o.type;unfold Oper.wp;simp[execOp,hop,resolve,invoke,builtin,hm,hx,hrun,Result.andThen];exact hK' _ _ (hK w' r1 r2 r3)
theorem Fh{α : Type}(hg:o.guard=none)(it:Operand)(hop:o.op=Op.next it false)(K:Keyed P k)(mk mv:α->Value)(hit:a.eval it=.pointer (some ⟨r,0,none⟩))(h:gQ P k w b r N m left cnt)(hsh:∀key v,left key->m key=some v->∃x,key=mk x/\v=mv x)(hDone:cnt=0->(∀key,¬left key)->wpList P ops Q rest (a.put o.dst (.tuple #[.bool false])) w)(hMore:∀(x:α)(w':World)(cnt':Nat),left (mk x)->m (mk x)=some (mv x)->gQ P k w' b r N m (λy=>left y/\y≠mk x) cnt'->cnt'<cnt->w.grownBy w' (some r)->w'.heap.size=w.heap.size -> (Instr.entry (.pointer (some ⟨r,0,none⟩))).run P w'=.ok (.tuple #[mk x,mv x]) w'->wpList P ops Q rest (a.put o.dst (.tuple #[.bool true,mk x,mv x])) w'):wpList P ops Q (o::rest) a w:=by
 refine wpList_plain hg λK' hK'=>?_;unfold Oper.wp;rcases h.next K o.type with⟨h0,hl,hrun⟩|⟨key,v,w',cnt',hlk,hv,hrun,hrg,hlt,hgr,hsz,hen⟩
 ·simp[execOp,hop,hit,hrun,Result.andThen];exact hK' _ _ (hDone h0 hl)
 ·obtain⟨x,rfl,rfl⟩:=hsh key v hlk hv;simp[execOp,hop,hit,hrun,Result.andThen];exact hK' _ _ (hMore x w' cnt' hlk hv hrg hlt hgr hsz hen)
end
end Go.Proofs.YtfmmllpjgkgeaaaGreatDoor
namespace Go.Proofs.YtfmmllpjgkgeaaaGreatDoor
open Go.Proofs.Tryz Go.RowKit Go.Maps Go.WideMaps
variable{a n:Nat}{c:Nat->Nat}
abbrev sG(a n:Int):Value:=.agg #[.int .i64 a,.int .i64 n]
abbrev pV:Value:=.agg #[]
theorem mQ:Keyed prog 3:=int_keyed underlying3
theorem YM:laidOutB prog=true:=by kernel_rfl
theorem PE:134<prog.types.size:=of_decide_eq_true (by kernel_rfl)
theorem iU:Keyed prog 134:=Keyed.of_law (deep_law_laid YM (m:=2) (by omega) PE (by kernel_rfl) (by kernel_rfl))
theorem I5(w:World):(zeroValue 3).run prog w=.ok (.int .i64 0) w:=by kernel_rfl
theorem PG(w:World):(zeroValue 69).run prog w=.ok pV w:=by kernel_rfl
theorem wf64{n:Int}(h:-9223372036854775808<=n/\n<=9223372036854775807):(Lit.int .i64 n).wf=true:=WalkArith.wf_i64 (by omega)
theorem uY(a:Nat)(ha:a<=1000):keyOf prog 3 (.int .i64 a)=some (.int .i64 a):=keyOf_int_mk underlying3 (wf64 (by omega))
theorem I7(d:Nat)(a n:Int)(h1:(Lit.int .i64 a).wf=true)(h2:(Lit.int .i64 n).wf=true):prog.keyLits (d+2) 134 [.int .i64 a,.int .i64 n]=some [.int .i64 a,.int .i64 n]:=by
 have hc:prog.cellsOf 134=2:=by kernel_rfl
 have hi:prog.cellsOf 3=1:=by kernel_rfl
 simp[underlying134,hc,Program.keyLits,hi,underlying3,h1,h2]
theorem PI(a n:Nat)(ha:a<=1000)(hn:n<=1000):∃kl,keyOf prog 134 (sG a n)=some kl:=by
 have h1:(Lit.int .i64 a).wf=true:=wf64 (by omega);have h2:(Lit.int .i64 n).wf=true:=wf64 (by omega);have hk:prog.keyType 134=true:=by kernel_rfl
 have hf:(sG a n).formed prog 134=true:=by
  have hc:prog.cellsOf 134=2:=by kernel_rfl
  simp[Value.formed,underlying134,hc]
 obtain⟨d,hd⟩:∃d,prog.types.size+1=d+2:=⟨prog.types.size-1,by have:=PE;omega⟩;refine⟨.string (keyBytes [.int .i64 a,.int .i64 n]), ?_⟩;unfold keyOf;rw[underlying134,hd];simp only[hk,hf,Bool.and_self,if_true];rw[show(sG a n).cells.toList=[.int .i64 a,.int .i64 n]from rfl,I7 d _ _ h1 h2];rfl
def who(d:Nat):Nat:=d / 512
def nth(d:Nat):Nat:=d % 512
def dV(a n:Nat):Nat:=a*512+n
theorem eF(h:n<512):who (dV a n)=a:=by unfold who dV;omega
theorem dw(h:n<512):nth (dV a n)=n:=by unfold nth dV;omega
theorem uZ(d:Nat):nth d<512:=by unfold nth;omega
theorem wo(d:Nat):dV (who d) (nth d)=d:=by unfold who nth dV;omega
theorem lQ{x y:Nat}(h1:who x=who y)(h2:nth x=nth y):x=y:=by rw[<- wo x,<- wo y,h1,h2]
def okD(d:Nat):Prop:=who d<=5/\1<=nth d/\nth d<=501
abbrev aP(d:Nat):Value:=sG (who d:Int) (nth d:Int)
theorem KO(h:n<512):sG (a:Int) (n:Int)=aP (dV a n):=by unfold aP;rw[eF h,dw h]
theorem gI{x y:Nat}(h:aP x=aP y):x=y:=by simp[sG]at h;exact lQ (by omega) (by omega)
theorem lg{d:Nat}(h:okD d):d<3072:=by obtain⟨h1,h2,h3⟩:=h;have:=wo d;unfold dV at this;omega
theorem keyE(d:Nat)(ha:who d<=1000):∃kl,keyOf prog 134 (aP d)=some kl:=PI (who d) (nth d) ha (by have:=uZ d;omega)
def cZ(P:Program)(k:TypeId)(w:World)(v:Value)(N:Nat)(m:Value->Option Value):Prop:=(v=.map none/\N=0/\m=λ_=>none)\/∃b,v=.map (some b)/\bM P k w b N m
section
variable{P:Program}{k:TypeId}{w:World}{v:Value}{N:Nat}{m:Value->Option Value}
theorem cZ.below{w':World}(h:cZ P k w v N m)(hb:Below w.heap.size w w'):cZ P k w' v N m:=by
 rcases h with h|⟨b,h1,h2⟩
 ·exact Or.inl h
 ·exact Or.inr ⟨b,h1,h2.block (hb.block b h2.lt)⟩
theorem cZ.look{t e:TypeId}(h:cZ P k w v N m)(K:Keyed P k)(ht:P.underlying t=some (.map k e)){z:Value}(hz:(zeroValue e).run P w=.ok z w){key:Value}{kl:Lit}(hk:keyOf P k key=some kl):(Instr.lookup t v key false).run P w=.ok ((m key).getD z) w:=by
 rcases h with⟨rfl,_,rfl⟩|⟨b,rfl,h2⟩
 ·simpa using Maps.look_nil false K ht hz hk
 ·exact h2.look K ht hz hk
theorem cZ.look_ok{t e:TypeId}(h:cZ P k w v N m)(K:Keyed P k)(ht:P.underlying t=some (.map k e)){z:Value}(hz:(zeroValue e).run P w=.ok z w){key:Value}{kl:Lit}(hk:keyOf P k key=some kl):(Instr.lookup t v key true).run P w=.ok (.tuple #[(m key).getD z,.bool (m key).isSome]) w:=by
 rcases h with⟨rfl,_,rfl⟩|⟨b,rfl,h2⟩
 ·simpa using Maps.look_nil true K ht hz hk
 ·exact h2.look_ok K ht hz hk
theorem cZ.len{t e:TypeId}(h:cZ P k w v N m)(ht:P.underlying t=some (.map k e))(ty:TypeId):(Builtin.len_ #[t] ty #[v]).run P w=.ok (.int .i64 N) w:=by
 rcases h with⟨rfl,rfl,rfl⟩|⟨b,rfl,h2⟩
 ·exact Maps.len_nil ht ty
 ·exact h2.len ht ty
variable{ops:Array Oper}{rest:List Oper}{o:Oper}{a:Act}{Q:Exit->Act->World->Prop}
theorem nK(hg:o.guard=none)(mo x:Operand)(t:TypeId)(hop:o.op=Op.lookup t mo x false)(e:TypeId)(K:Keyed P k)(ht:P.underlying t=some (.map k e)){z:Value}(hz:(zeroValue e).run P w=.ok z w)(hm:a.eval mo=v)(h:cZ P k w v N m)(key:Value)(kl:Lit)(hx:a.eval x=key)(hk:keyOf P k key=some kl)(u:Value)(hu:(m key).getD z=u)(hK:wpList P ops Q rest (a.put o.dst u) w):wpList P ops Q (o::rest) a w:=by refine wpList_plain hg λK' hK'=>?_;unfold Oper.wp;simp[execOp,hop,hm,hx,h.look K ht hz hk,hu,Result.andThen];exact hK' _ _ hK
theorem gJ(hg:o.guard=none)(mo x:Operand)(t:TypeId)(hop:o.op=Op.lookup t mo x true)(e:TypeId)(K:Keyed P k)(ht:P.underlying t=some (.map k e)){z:Value}(hz:(zeroValue e).run P w=.ok z w)(hm:a.eval mo=v)(h:cZ P k w v N m)(key:Value)(kl:Lit)(hx:a.eval x=key)(hk:keyOf P k key=some kl)(u:Value)(hu:(m key).getD z=u)(c:Bool)(hc:(m key).isSome=c)(hK:wpList P ops Q rest (a.put o.dst (.tuple #[u,.bool c])) w):wpList P ops Q (o::rest) a w:=by refine wpList_plain hg λK' hK'=>?_;unfold Oper.wp;simp[execOp,hop,hm,hx,h.look_ok K ht hz hk,hu,hc,Result.andThen];exact hK' _ _ hK
end
noncomputable def cm(c:Nat->Nat):Value->Option Value:=λkey=>@dite _ (∃a:Nat,key=.int .i64 a) (Classical.propDecidable _) (λh=>if c (Classical.choose h)=0 then none else some (.int .i64 (c (Classical.choose h)))) (λ_=>none)
open Classical in
noncomputable def lm(L:Nat->Bool):Value->Option Value:=λkey=>if ∃d,L d=true/\key=aP d then some pV else none
theorem pW(c:Nat->Nat)(a:Nat):cm c (.int .i64 a)=if c a=0 then none else some (.int .i64 (c a)):=by
 unfold cm;have h:∃b:Nat,Value.int .i64 a=.int .i64 b:=⟨a,rfl⟩;rw[dif_pos h];have hs:=Classical.choose_spec h;have e:a=Classical.choose h:=by injection hs with _ h2;omega
 rw[<- e]
theorem mV{key v:Value}(h:cm c key=some v):∃a:Nat,key=.int .i64 a/\v=.int .i64 (c a)/\c a≠0:=by
 by_cases hk:∃a:Nat,key=.int .i64 a
 ·obtain⟨a,rfl⟩:=hk;rw[pW]at h;split at h
  ·cases h
  ·rename_i h0;cases h;exact⟨a,rfl,rfl,h0⟩
 ·unfold cm at h;rw[dif_neg hk]at h;cases h
theorem I8{m:Value->Option Value}(h1:∀a:Nat,m (.int .i64 a)=if c a=0 then none else some (.int .i64 (c a)))(h2:∀key,(∀a:Nat,key≠.int .i64 a)->m key=none):m=cm c:=by
 funext key;by_cases h:∃a:Nat,key=.int .i64 a
 ·obtain⟨a,rfl⟩:=h;rw[h1,pW]
 ·rw[h2 key (λa e=>h ⟨a,e⟩)];unfold cm;rw[dif_neg h]
theorem I9(a:Nat)(c:Nat->Nat):(cm c (.int .i64 a)).getD (.int .i64 0)=.int .i64 (c a):=by
 rw[pW];by_cases h:c a=0
 ·rw[if_pos h,h];(first|done|rfl)
 ·rw[if_neg h];(first|done|rfl)
theorem qM(d:Nat)(L:Nat->Bool):(lm L (aP d)).isSome=L d:=by
 unfold lm;by_cases h:L d=true
 ·rw[if_pos ⟨d,h,rfl⟩,h];(first|done|rfl)
 ·rw[if_neg,Bool.eq_false_iff.2 h];(first|done|rfl);rintro⟨d',h1,h2⟩;have:d=d':=gI h2;exact h (this▸h1)
theorem KP(L:Nat->Bool)(key:Value):(lm L key).getD pV=pV:=by unfold lm;split<;>rfl
theorem PK{L:Nat->Bool}{key v:Value}(h:lm L key=some v):∃d,L d=true/\key=aP d/\v=pV:=by
 unfold lm at h;split at h
 ·rename_i hh;obtain⟨d,h1,h2⟩:=hh;cases h;exact⟨d,h1,h2,rfl⟩
 ·cases h
structure kM(w:World)(cv lv:Value)(c:Nat->Nat)(L:Nat->Bool):Prop where
 cs:∃N,cZ prog 3 w cv N (cm c)
 ls:∃N,cZ prog 134 w lv N (lm L)
 ru:∀a,c a<=501
 c5:∀a,c a≠0->a<=5
 yD:∀d,L d=true->okD d/\c (who d)<nth d
theorem kM.below{w w':World}{cv lv:Value}{L:Nat->Bool}(h:kM w cv lv c L)(hb:Below w.heap.size w w'):kM w' cv lv c L:=by obtain⟨⟨N,h1⟩,⟨N',h2⟩,h3,h4,h5⟩:=h;exact⟨⟨N,h1.below hb⟩,⟨N',h2.below hb⟩,h3,h4,h5⟩
theorem next_any(w:World)(cv lv:Value)(a:Nat)(c:Nat->Nat)(L:Nat->Bool)(h:kM w cv lv c L)(ha:a<=5):Calls prog 146 #[.agg #[cv,lv],.int .i64 a] w λe w'=>e=.returned (.agg #[.int .i64 a,.int .i64 ((c a+1:Nat):Int)])/\Below w.heap.size w w':=by obtain⟨⟨N,h1⟩,⟨N',h2⟩,h3,h4,h5⟩:=h;have H1:Hid (∀w',Below w.heap.size w w'->cZ prog 3 w' cv N (cm c)):=λw' hb=>h1.below hb;have hk:=uY a (by omega);have hu:=I9 a c;have h3a:=h3 a;generalize c a=ca at *;clear h1 h2 h3 h4 h5;go_enter func146,ntmps146;go_wp2_with (first|(at_lookup;refine nK rfl (.tmp 7) (.tmp 8) 97 rfl 3 mQ underlying97 (I5 _) rfl (H1.out _ ?_) _ _ rfl hk _ hu ?_;(go_grown)));refine bodyPost_ret (v:=sG a ((ca+1:Nat):Int)) (by simp[results,Tryz.results146,go_sem]) rfl ⟨rfl,by go_grown⟩
theorem Dk(w:World)(cv lv:Value)(c:Nat->Nat)(d:Nat)(L:Nat->Bool)(h:kM w cv lv c L)(ha:who d<=5):Calls prog 210 #[.agg #[cv,lv],aP d] w λe w'=>e=.returned (.bool (decide (nth d<=c (who d))||L d))/\Below w.heap.size w w':=by
 obtain⟨⟨N,h1⟩,⟨N',h2⟩,h3,h4,h5⟩:=h;have H1:Hid (∀w',Below w.heap.size w w'->cZ prog 3 w' cv N (cm c)):=λw' hb=>h1.below hb;have H2:Hid (∀w',Below w.heap.size w w'->cZ prog 134 w' lv N' (lm L)):=λw' hb=>h2.below hb;have hk:=uY (who d) (by omega);obtain⟨kl,hkl⟩:=keyE d (by omega);have hu:=I9 (who d) c;have hu2:=KP L (aP d);have hc2:=qM d L;have h3a:=h3 (who d);have hn:=uZ d;unfold aP at *;generalize L d=ln at *;generalize c (who d)=ca at *;generalize who d=a at *;generalize nth d=n at *;clear h1 h2 h3 h4 h5;by_cases hnc:n<=ca
 ·have hd:decide (n<=ca)=true:=by simpa using hnc
  rw[hd];go_enter func210,ntmps210;go_wp2_with (first|(at_lookup;refine nK rfl (.tmp 10) (.tmp 12) 97 rfl 3 mQ underlying97 (I5 _) rfl (H1.out _ ?_) _ _ rfl hk _ hu ?_;(go_grown)));go_ret;exact⟨rfl,by go_grown⟩
 ·have hd:decide (n<=ca)=false:=by simpa using hnc
  rw[hd];go_enter func210,ntmps210;go_wp2_with (first|(at_lookup;refine nK rfl (.tmp 10) (.tmp 12) 97 rfl 3 mQ underlying97 (I5 _) rfl (H1.out _ ?_) _ _ rfl hk _ hu ?_;(go_grown))|(at_lookup;refine gJ rfl (.tmp 17) (.tmp 18) 98 rfl 69 iU underlying98 (PG _) rfl (H2.out _ ?_) _ _ rfl hkl _ hu2 _ hc2 ?_;(go_grown)));go_ret;exact⟨by simp,by go_grown⟩
end Go.Proofs.YtfmmllpjgkgeaaaGreatDoor
namespace Go.Proofs.YtfmmllpjgkgeaaaGreatDoor
open Go.Proofs.Tryz Go.RowKit Go.Maps Go.WideMaps Go.ChangeMaps Go.MapKept
variable{N cb lb:Nat}{L:Nat->Bool}{c:Nat->Nat}{w:World}
structure sH(w:World)(cb lb:Nat)(c:Nat->Nat)(L:Nat->Bool):Prop where
 cs:∃N,bM prog 3 w cb N (cm c)
 ls:∃N,bM prog 134 w lb N (lm L)
 ne:cb≠lb
 ru:∀a,c a<=501
 c5:∀a,c a≠0->a<=5
 yD:∀d,L d=true->okD d/\c (who d)<nth d
theorem sH.toV(h:sH w cb lb c L):kM w (.map (some cb)) (.map (some lb)) c L:=by obtain⟨⟨N,h1⟩,⟨N',h2⟩,_,h3,h4,h5⟩:=h;exact⟨⟨N,Or.inr ⟨_,rfl,h1⟩⟩,⟨N',Or.inr ⟨_,rfl,h2⟩⟩,h3,h4,h5⟩
theorem sH.lt(h:sH w cb lb c L):cb<w.heap.size/\lb<w.heap.size:=by obtain⟨⟨N,h1⟩,⟨N',h2⟩,_⟩:=h;exact⟨h1.lt,h2.lt⟩
theorem sH.aJ{M:Nat->Prop}{w':World}(h:sH w cb lb c L)(hc:ay M w w')(h1:¬M cb)(h2:¬M lb):sH w' cb lb c L:=by obtain⟨⟨N,g1⟩,⟨N',g2⟩,r1,r2,r3,r4⟩:=h;exact⟨⟨N,g1.block (hc.block _ g1.lt h1)⟩,⟨N',g2.block (hc.block _ g2.lt h2)⟩,r1,r2,r3,r4⟩
theorem sH.below{w':World}(h:sH w cb lb c L)(hb:Below w.heap.size w w'):sH w' cb lb c L:=h.aJ (M:=λ_=>False) (ay.of_below hb) (λh=>h) (λh=>h)
theorem jT:∀(M:Nat)(l:List Nat),l.Pairwise (λx y=>x≠y)->(∀x∈l,x<M)->l.length<=M:=by
 intro M;induction M with
 | zero=>intro l _ h;cases l with|nil=>simp|cons x r=>exact absurd (h x (by simp)) (by omega)
 | succ M ih =>
  intro l hp h;by_cases hm:M∈l
  ·have h1:=ih (l.erase M) (hp.sublist List.erase_sublist) (λx hx=>by
    have h2:=List.mem_of_mem_erase hx;have h3:=h x h2;have h4:x≠M:=λe=>by subst e;exact(List.Nodup.not_mem_erase (show l.Nodup from hp)) hx
    omega)
   have:=List.length_erase_of_mem hm;omega
  ·have:=ih l hp (λx hx=>by have:=h x hx;have:x≠M:=λe=>hm (e▸hx);omega);omega
theorem bM.bound{P:Program}{k:TypeId}{b M:Nat}{m:Value->Option Value}(h:bM P k w b N m)(K:Keyed P k)(f:Nat->Value)(hf:∀key,(m key).isSome=true->∃n,n<M/\key=f n):N<=M:=by
 obtain⟨D,h1,h2,h3⟩:=h;obtain⟨es,clock,hb,F,hs,rfl⟩:=h1;have hst:=(stamped_iff es clock).1 F.stamped;rw[<- h2];simp only[Maps.size,length_sorted,List.length_map];have hx:∀x∈es.toList,∃n,n<M/\x.key=f n:=by intro x hx;obtain⟨y,hy⟩:=F.reads x hx;have hkey:=WideElems.rd_key hy;refine hf _ ?_;rw[<- (h3.1 _ _ hkey).1];exact List.any_eq_true.2 ⟨WideElems.rg P k Ik x,mem_sorted.2 (List.mem_map.2 ⟨x,hx,rfl⟩),by rw[WideElems.rg_of hy];exact WideAt.sameKey_self (K.key hkey)⟩
 obtain⟨g,hg⟩:∃g:MapEntry->Nat,∀x∈es.toList,g x<M/\x.key=f (g x):=by refine⟨λx=>@dite Nat (x∈es.toList) (Classical.propDecidable _) (λh=>Classical.choose (hx x h)) (λ_=>0),λx h=>?_⟩;dsimp only;rw[dif_pos h];exact Classical.choose_spec (hx x h)
 have hp:(es.toList.map g).Pairwise (λx y=>x≠y):=by rw[List.pairwise_map];refine List.Pairwise.imp_of_mem ?_ hst.2.2;intro x y hx hy hne e;exact hne (by rw[(hg x hx).2,(hg y hy).2,e])
 have:=jT M _ hp (λn hn=>by obtain⟨x,hx,rfl⟩:=List.mem_map.1 hn;exact(hg x hx).1);simpa using this
theorem pX(h:bM prog 134 w lb N (lm L))(hl:∀d,L d=true->okD d):N<=3072:=by
 refine h.bound iU (λd=>aP d) ?_;intro key hk;unfold lm at hk;split at hk
 ·rename_i h;obtain⟨d,h1,h2⟩:=h;exact⟨d,lg (hl d h1),h2⟩
 ·cases hk
theorem Dl(h:bM prog 3 w cb N (cm c))(h5:∀a,c a≠0->a<=5):N<=6:=by refine h.bound mQ (λa=>.int .i64 a) ?_;intro key hk;obtain⟨v,hv⟩:=Option.isSome_iff_exists.1 hk;obtain⟨a,h1,_,h2⟩:=mV hv;exact⟨a,by have:=h5 a h2;omega,h1⟩
def inc(c:Nat->Nat)(a:Nat):Nat->Nat:=λx=>if x=a then c a+1 else c x
theorem dU(c:Nat->Nat)(a:Nat):inc c a a=c a+1:=if_pos rfl
theorem iH{a x:Nat}(h:x≠a):inc c a x=c x:=if_neg h
theorem V4(a:Nat)(c:Nat->Nat):upd (cm c) (.int .i64 a) (.int .i64 ((c a+1:Nat):Int))=cm (inc c a):=by
 apply I8
 ·intro x;by_cases e:x=a
  ·subst e;rw[upd_same,dU,if_neg (by omega)]
  ·rw[iG (λh=>e (by simp at h;omega)),pW,iH e]
 ·intro key hk;rw[iG (hk a)];cases h:cm c key with
  | none=>rfl
  | some v=>obtain⟨x,hx,_⟩:=mV h;exact absurd hx (hk x)
theorem V5(d:Nat)(L:Nat->Bool):upd (lm L) (aP d) pV=lm (λk=>L k||k==d):=by
 funext key;by_cases e:key=aP d
 ·subst e;rw[upd_same];unfold lm;rw[if_pos ⟨d,by simp,rfl⟩]
 ·rw[iG e];unfold lm;congr 1;apply propext;constructor
  ·rintro⟨k,h1,h2⟩;exact⟨k,by simp[h1],h2⟩
  ·rintro⟨k,h1,h2⟩;simp at h1;rcases h1 with h1|h1
   ·exact⟨k,h1,h2⟩
   ·subst h1;exact absurd h2 e
theorem V6(d:Nat)(L:Nat->Bool):era (lm L) (aP d)=lm (λk=>L k&&k !=d):=by
 funext key;by_cases e:key=aP d
 ·subst e;rw[Fb];unfold lm;rw[if_neg];rintro⟨k,h1,h2⟩;have:=gI h2;subst this;simp at h1
 ·rw[uX e];unfold lm;congr 1;apply propext;constructor
  ·rintro⟨k,h1,h2⟩;exact⟨k,by simp[h1];rintro rfl;exact e h2,h2⟩
  ·rintro⟨k,h1,h2⟩;simp at h1;exact⟨k,h1.1,h2⟩
structure CG(w:World)(B cb lb:Nat)(c:Nat->Nat)(L:Nat->Bool)(wx:World):Prop where
 ctx:sH wx cb lb c L
 b0:wx.cell? ⟨B,0,none⟩=some (.map (some cb))
 b1:wx.cell? ⟨B,1,none⟩=some (.map (some lb))
 old:cb<w.heap.size/\lb<w.heap.size
 new:w.heap.size<=B
 lt:B<wx.heap.size
 aJ:ay (λk=>k=cb\/k=lb) w wx
theorem CG.below{B:Nat}{wx wy:World}(h:CG w B cb lb c L wx)(hb:Below wx.heap.size wx wy):CG w B cb lb c L wy :=
 ⟨h.ctx.below hb,(hb.cell (p:=⟨B,0,none⟩) h.lt).trans h.b0,(hb.cell (p:=⟨B,1,none⟩) h.lt).trans h.b1,h.old,h.new,Nat.lt_of_lt_of_le h.lt hb.size,h.aJ.below hb⟩
theorem CG.grown{B:Nat}{c':Nat->Nat}{L':Nat->Bool}{wx wy:World}{k:Nat}(h:CG w B cb lb c L wx)(hg:wx.grownBy wy (some k))(hk:k=cb\/k=lb)(hc:sH wy cb lb c' L'):CG w B cb lb c' L' wy:=by
 have hB:some B≠some k:=λe=>by cases e;have:=h.old;have:=h.new;omega
 have hcell:∀i,wy.cell? ⟨B,i,none⟩=wx.cell? ⟨B,i,none⟩:=λi=>World.cell?_of_block (w:=wx) (hg.block B h.lt hB);exact⟨hc,(hcell 0).trans h.b0,(hcell 1).trans h.b1,h.old,h.new,Nat.lt_of_lt_of_le h.lt hg.size,h.aJ.grown hg (λj e=>by cases e;exact Or.inl hk)⟩
