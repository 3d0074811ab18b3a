import Derived.Lib.Split
import Derived.Lib.IndexBytes
import Derived.Maps.OwnSet
import Derived.Maps.OwnOps
import Derived.Maps.RangeWalk
import Derived.Maps.Ext
import Derived.DeepKeys4
import Derived.Deep.LoopGhost
import Derived.Test.YtfmmllpjgkgeaaaGreatDoorPartV03
import Derived.Test.YtfmmllpjgkgeaaaGreatDoorPartV06
set_option linter.unusedVariables false
set_option linter.unusedSimpArgs false
set_option maxHeartbeats 16000000
set_option maxRecDepth 100000
namespace Go.Proofs.YtfmmllpjgkgeaaaGreatDoor
open Go.RowKit

theorem num_any (e:Int) (w:World):Calls Tryz.prog 108 #[.int .i64 e] w fun r w'=>r=.returned (.int .i64 e)/\w'=w:=by
 go_enter Tryz.func108,Tryz.ntmps108
 go_wp2
 go_ret
 exact ⟨rfl,rfl⟩


def Thk.isAln (c:UInt8):Bool:=Thk.isLow c || Thk.isDig c
def Thk.word (p:UInt8->Bool) (m:Nat) (l:Thk.Bs):Bool:=decide (1<=l.length) && decide (l.length<=m) && l.all p

theorem isLetter_any (c:UInt8) (w:World) :
  Calls Tryz.prog 155 #[.int .u8 (c.toNat:Int)] w fun e w'=>e=.returned (.bool (Thk.isLow c))/\w'=w:=by
 go_enter Tryz.func155,Tryz.ntmps155
 go_wp2
 all_goals
  go_ret
  refine ⟨ret_bool ?_,rfl⟩
  unfold Thk.isLow
  rw[Bool.eq_iff_iff]
  simp
  try omega

theorem isLetterOrDigit_any (c:UInt8) (w:World) :
  Calls Tryz.prog 144 #[.int .u8 (c.toNat:Int)] w fun e w'=>e=.returned (.bool (Thk.isLow c || Thk.isDig c))/\w'=w:=by
 cases hl:Thk.isLow c
 ·have Hl:Hid (_):=hl
  have hl2:¬(97<=c.toNat/\c.toNat<=122):=by unfold Thk.isLow at hl;simp at hl;omega
  clear hl
  go_enter Tryz.func144,Tryz.ntmps144
  go_wp2_with (go_at_call 155;refine (isLetter_any _ _).mono ?_;rintro e w' ⟨rfl,rfl⟩;rw[Hl.out])
  all_goals
   go_ret
   refine ⟨ret_bool ?_,rfl⟩
   unfold Thk.isDig
   rw[Bool.eq_iff_iff]
   simp
   try omega
 ·have Hl:Hid (_):=hl
  clear hl
  go_enter Tryz.func144,Tryz.ntmps144
  go_wp2_with (go_at_call 155;refine (isLetter_any _ _).mono ?_;rintro e w' ⟨rfl,rfl⟩;rw[Hl.out])
  go_ret
  exact ⟨ret_bool rfl,rfl⟩

theorem isAln_any (c:UInt8) (w:World):Calls Tryz.prog 144 #[.int .u8 (c.toNat:Int)] w fun e w'=>e=.returned (.bool (Thk.isAln c))/\w'=w:=isLetterOrDigit_any c w
theorem word_false_len (p:UInt8->Bool) (l:Thk.Bs) (m:Nat) (h:l.length<1\/m<l.length):Thk.word p m l=false:=by
 unfold Thk.word
 rcases h with h | h
 ·have:decide (1<=l.length)=false:=by rw[decide_eq_false_iff_not];omega
  rw[this];(first | done | rfl)
 ·have:decide (l.length<=m)=false:=by rw[decide_eq_false_iff_not];omega
  rw[this];simp
theorem word_false_at (p:UInt8->Bool) (s:ByteArray) (m k:Nat) (hk:k<s.size) (h:p s[k]=false):Thk.word p m (toL s)=false:=by
 have:(toL s).all p=false:=by
  rw[List.all_eq_false];refine ⟨(toL s)[k]'(by rw[toL_length];exact hk),List.getElem_mem _, ?_⟩
  rw[toL_get s k hk,h];simp
 unfold Thk.word;rw[this];simp
theorem word_true (p:UInt8->Bool) (s:ByteArray) (m:Nat) (h1:1<=s.size) (h2:s.size<=m) (h:∀ j (hj:j<s.size),p s[j]=true):Thk.word p m (toL s)=true:=by
 have:(toL s).all p=true:=by
  rw[List.all_eq_true];intro x hx
  obtain ⟨i,hi,rfl⟩:=List.getElem_of_mem hx
  rw[toL_length] at hi
  rw[toL_get s i hi];exact h i hi
 unfold Thk.word;rw[this,toL_length];simp[h1,h2]

theorem isWord_letters (s:ByteArray) (m:Nat) (w:World) (hs:s.size<=1048576) (hm:m<=100) :
  Calls Tryz.prog 143 #[.string s,.int .i64 (m:Int),.func (.func 155) #[] #[]] w fun e w'=>e=.returned (.bool (Thk.word Thk.isLow m (toL s)))/\w'=w:=by
 by_cases hl:s.size<1\/m<s.size
 ·have hfin:Hid (Thk.word Thk.isLow m (toL s)=false):=word_false_len _ _ _ (by rw[toL_length];exact hl)
  rcases hl with hl | hl
  all_goals
   go_enter Tryz.func143,Tryz.ntmps143
   go_wp2
   all_goals first | (go_ret;exact ⟨ret_bool hfin.out.symm,rfl⟩) | (exfalso;omega)
 ·have h1:¬s.size<1:=by omega
  have h2:¬m<s.size:=by omega
  clear hl
  go_enter Tryz.func143,Tryz.ntmps143
  go_wp2
  go_loop [19] (fun i=>∃ k:Nat,k<=s.size/\i=.int .i64 k/\Hid (∀ j (hj:j<s.size),j<k->Thk.isLow s[j]=true)) (fun i=>s.size-(intOf i).toNat)
  case atStart=>exact ⟨0,by omega,rfl,fun j _ h=>by omega⟩
  case round =>
   obtain ⟨k,hk,rfl,Hall⟩:=hrel
   by_cases hlt:k<s.size
   ·cases hp:Thk.isLow s[k]
    ·have hfin:Hid (Thk.word Thk.isLow m (toL s)=false):=word_false_at _ s m k hlt hp
     have Hp:Hid (_):=hp
     clear hp Hall
     go_wp2_with (go_at_call 155;refine (isLetter_any _ _).mono ?_;rintro e w' ⟨rfl,rfl⟩;rw[Hp.out])
     go_ret
     exact ⟨ret_bool hfin.out.symm,rfl⟩
    ·have Hn:Hid (∀ j (hj:j<s.size),j<k+1->Thk.isLow s[j]=true):=by
      intro j hj h
      by_cases e:j=k
      ·subst e;exact hp
      ·exact Hall.out j hj (by omega)
     have Hp:Hid (_):=hp
     clear hp Hall
     go_wp2_with (go_at_call 155;refine (isLetter_any _ _).mono ?_;rintro e w' ⟨rfl,rfl⟩;rw[Hp.out])
     go_round
     case rel=>exact ⟨k+1,by omega,by go_num,Hn⟩
     case measure=>simp[intOf];omega
   ·have hfin:Hid (Thk.word Thk.isLow m (toL s)=true):=word_true _ s m (by omega) (by omega) (fun j hj=>Hall.out j hj (by omega))
    clear Hall
    go_wp2
    go_ret
    exact ⟨ret_bool hfin.out.symm,rfl⟩

theorem isWord_alnum (s:ByteArray) (m:Nat) (w:World) (hs:s.size<=1048576) (hm:m<=100) :
  Calls Tryz.prog 143 #[.string s,.int .i64 (m:Int),.func (.func 144) #[] #[]] w fun e w'=>e=.returned (.bool (Thk.word Thk.isAln m (toL s)))/\w'=w:=by
 by_cases hl:s.size<1\/m<s.size
 ·have hfin:Hid (Thk.word Thk.isAln m (toL s)=false):=word_false_len _ _ _ (by rw[toL_length];exact hl)
  rcases hl with hl | hl
  all_goals
   go_enter Tryz.func143,Tryz.ntmps143
   go_wp2
   all_goals first | (go_ret;exact ⟨ret_bool hfin.out.symm,rfl⟩) | (exfalso;omega)
 ·have h1:¬s.size<1:=by omega
  have h2:¬m<s.size:=by omega
  clear hl
  go_enter Tryz.func143,Tryz.ntmps143
  go_wp2
  go_loop [19] (fun i=>∃ k:Nat,k<=s.size/\i=.int .i64 k/\Hid (∀ j (hj:j<s.size),j<k->Thk.isAln s[j]=true)) (fun i=>s.size-(intOf i).toNat)
  case atStart=>exact ⟨0,by omega,rfl,fun j _ h=>by omega⟩
  case round =>
   obtain ⟨k,hk,rfl,Hall⟩:=hrel
   by_cases hlt:k<s.size
   ·cases hp:Thk.isAln s[k]
    ·have hfin:Hid (Thk.word Thk.isAln m (toL s)=false):=word_false_at _ s m k hlt hp
     have Hp:Hid (_):=hp
     clear hp Hall
     go_wp2_with (go_at_call 144;refine (isAln_any _ _).mono ?_;rintro e w' ⟨rfl,rfl⟩;rw[Hp.out])
     go_ret
     exact ⟨ret_bool hfin.out.symm,rfl⟩
    ·have Hn:Hid (∀ j (hj:j<s.size),j<k+1->Thk.isAln s[j]=true):=by
      intro j hj h
      by_cases e:j=k
      ·subst e;exact hp
      ·exact Hall.out j hj (by omega)
     have Hp:Hid (_):=hp
     clear hp Hall
     go_wp2_with (go_at_call 144;refine (isAln_any _ _).mono ?_;rintro e w' ⟨rfl,rfl⟩;rw[Hp.out])
     go_round
     case rel=>exact ⟨k+1,by omega,by go_num,Hn⟩
     case measure=>simp[intOf];omega
   ·have hfin:Hid (Thk.word Thk.isAln m (toL s)=true):=word_true _ s m (by omega) (by omega) (fun j hj=>Hall.out j hj (by omega))
    clear Hall
    go_wp2
    go_ret
    exact ⟨ret_bool hfin.out.symm,rfl⟩


theorem index_ge (l:Thk.Bs) (c:UInt8):-1<=Lib.indexByte l c:=by
 induction l with
 | nil=>simp[Lib.indexByte]
 | cons b r ih=>unfold Lib.indexByte;split;omega;split;omega;omega
theorem index_mem (l:Thk.Bs) (c:UInt8):(0<=Lib.indexByte l c)↔c∈l:=by
 induction l with
 | nil=>simp[Lib.indexByte]
 | cons b r ih =>
  have hge:=index_ge r c
  unfold Lib.indexByte
  by_cases h:b=c
  ·simp[h]
  ·rw[if_neg (by simpa using h)]
   by_cases h2:Lib.indexByte r c = -1
   ·rw[if_pos (by simpa using h2)]
    have:¬c∈r:=fun hm=>by have:=ih.2 hm;omega
    simp[this,Ne.symm h]
   ·rw[if_neg (by simpa using h2)]
    have:c∈r:=ih.1 (by omega)
    simp[this];omega
theorem byte_back (c:UInt8):((c.toNat:Int).toNat.toUInt8)=c:=by simp
theorem kinds_mem (c:UInt8):c∈([115,102,114,99,109]:Thk.Bs)↔Thk.isKind c=true:=by
 have key:∀ n:Nat,n<256->(c=UInt8.ofNat n↔c.toNat=n):=fun n hn=>by
  constructor
  ·intro h;rw[h];simp;omega
  ·intro h;rw[<- h];simp
 unfold Thk.isKind
 simp only[List.mem_cons,List.mem_nil_iff,or_false,Bool.or_eq_true,beq_iff_eq]
 have a1:=key 115 (by omega);have a2:=key 102 (by omega);have a3:=key 114 (by omega);have a4:=key 99 (by omega);have a5:=key 109 (by omega)
 constructor
 ·rintro (h | h | h | h | h)
  ·left;left;left;left;exact a1.1 h
  ·left;left;left;right;exact a2.1 h
  ·left;left;right;exact a3.1 h
  ·left;right;exact a4.1 h
  ·right;exact a5.1 h
 ·rintro ((((h | h) | h) | h) | h)
  ·left;exact a1.2 h
  ·right;left;exact a2.2 h
  ·right;right;left;exact a3.2 h
  ·right;right;right;left;exact a4.2 h
  ·right;right;right;right;exact a5.2 h

theorem seg_word (s:ByteArray) (h:0<s.size):Thk.seg (toL s)=(Thk.isKind s[0] && Thk.word Thk.isLow 4 (toL (s.extract 1 s.size))):=by
 have e:toL (s.extract 1 s.size)=(toL s).tail:=by rw[toL_extract,<- toL_length s,List.take_length,List.drop_one]
 unfold Thk.seg Thk.word
 rw[e,head_toL s h]
 rw[Bool.eq_iff_iff]
 simp only[Bool.and_eq_true,decide_eq_true_eq,List.length_tail,Option.map_some,Option.getD_some]
 constructor
 ·rintro ⟨⟨⟨a,b⟩,c⟩,d⟩;exact ⟨d,⟨by omega,by omega⟩,c⟩
 ·rintro ⟨d,⟨a,b⟩,c⟩;exact ⟨⟨⟨by omega,by omega⟩,c⟩,d⟩

theorem isSegment_any (s:ByteArray) (w:World) (hs:s.size<=1048576) :
  Calls Tryz.prog 94 #[.string s] w fun e w'=>e=.returned (.bool (Thk.seg (toL s)))/\w'=w:=by
 by_cases h0:s.size=0
 ·have hfin:Hid (Thk.seg (toL s)=false):=Thk.seg_false_len _ (by rw[toL_length];omega)
  have hem:s.toList.isEmpty=true:=by rw[toList_eq];rw[List.isEmpty_iff];apply List.eq_nil_of_length_eq_zero;simpa using h0
  go_enter Tryz.func94,Tryz.ntmps94
  go_wp2
  go_ret
  exact ⟨ret_bool hfin.out.symm,rfl⟩
 ·have hp:0<s.size:=by omega
  have hem:s.toList.isEmpty=false:=by
   rw[toList_eq,List.isEmpty_eq_false_iff];intro h;apply h0;have:=congrArg List.length h;simpa using this
  have Hsw:Hid (_):=seg_word s hp
  have hix:Hid ((0<=Lib.indexByte [115,102,114,99,109] s[0])↔Thk.isKind s[0]=true):=(index_mem _ _).trans (kinds_mem _)
  have Hcall:Hid (∀ wx,Calls Tryz.prog 81 #[.string ⟨#[115,102,114,99,109]⟩,.int .u8 (s[0].toNat:Int)] wx fun e w'=>e=.returned (.int .i64 (Lib.indexByte [115,102,114,99,109] s[0]))/\w'=wx):=by
   intro wx
   refine (Tryz.strings_IndexByte ⟨#[115,102,114,99,109]⟩ (s[0].toNat:Int) wx).mono ?_
   rintro e w' ⟨rfl,rfl⟩
   rw[byte_back];exact ⟨rfl,rfl⟩
  cases hk:Thk.isKind s[0]
  ·have hfin:Hid (Thk.seg (toL s)=false):=by unfold Hid;rw[Hsw.out,hk];(first | done | rfl)
   have hneg:¬0<=Lib.indexByte [115,102,114,99,109] s[0]:=fun h=>by have:=hix.out.1 h;rw[hk] at this;cases this
   generalize Lib.indexByte [115,102,114,99,109] s[0]=ix at *
   clear hk Hsw
   go_enter Tryz.func94,Tryz.ntmps94
   go_wp2_with (go_at_call 81;refine (Hcall.out _).mono ?_;rintro e w' ⟨rfl,rfl⟩)
   all_goals
    go_ret
    exact ⟨ret_bool hfin.out.symm,rfl⟩
  ·have hpos:0<=Lib.indexByte [115,102,114,99,109] s[0]:=hix.out.2 hk
   have hfin:Hid (Thk.seg (toL s)=Thk.word Thk.isLow 4 (toL (s.extract 1 s.size))):=by unfold Hid;rw[Hsw.out,hk];(first | done | rfl)
   generalize Lib.indexByte [115,102,114,99,109] s[0]=ix at *
   clear hk Hsw
   go_enter Tryz.func94,Tryz.ntmps94
   go_wp2_with (first | (go_at_call 81;refine (Hcall.out _).mono ?_;rintro e w' ⟨rfl,rfl⟩) | (go_at_call 143;refine (isWord_letters (s.extract 1 s.size) 4 _ (by simp[ByteArray.size_extract];omega) (by omega)).mono ?_;rintro e w' ⟨rfl,rfl⟩))
   all_goals
    go_ret
    exact ⟨ret_bool hfin.out.symm,rfl⟩


theorem ix_cons (b:UInt8) (l:Thk.Bs) (c:UInt8):Lib.indexByte (b :: l) c=if b == c then 0 else if Lib.indexByte l c == -1 then -1 else Lib.indexByte l c+1:=rfl
theorem splitAcc_index (c:UInt8):∀ (l cur:Thk.Bs),Thk.splitAcc c cur l=if Lib.indexByte l c = -1 then [cur ++ l] else (cur ++ l.take (Lib.indexByte l c).toNat) :: Thk.split c (l.drop ((Lib.indexByte l c).toNat+1)):=by
 intro l
 induction l with
 | nil=>intro cur;simp[Thk.splitAcc,Lib.indexByte]
 | cons x r ih =>
  intro cur
  have hge:=index_ge r c
  by_cases h:x=c
  ·subst h
   rw[Thk.splitAcc_eq]
   have e:Lib.indexByte (x :: r) x=0:=by rw[ix_cons];simp
   rw[e];simp[Thk.split]
  ·rw[Thk.splitAcc_ne _ _ _ _ h,ih (cur ++ [x])]
   by_cases h2:Lib.indexByte r c = -1
   ·have e:Lib.indexByte (x :: r) c = -1:=by rw[ix_cons,if_neg (by simpa using h),if_pos (by simpa using h2)]
    rw[if_pos h2,if_pos e];simp
   ·have e:Lib.indexByte (x :: r) c=Lib.indexByte r c+1:=by rw[ix_cons,if_neg (by simpa using h),if_neg (by simpa using h2)]
    rw[if_neg h2,if_neg (by rw[e];omega),e]
    have e2:(Lib.indexByte r c+1).toNat=(Lib.indexByte r c).toNat+1:=by omega
    rw[e2];simp
theorem split_index (c:UInt8) (l:Thk.Bs):Thk.split c l=if Lib.indexByte l c = -1 then [l] else l.take (Lib.indexByte l c).toNat :: Thk.split c (l.drop ((Lib.indexByte l c).toNat+1)):=by
 have:=splitAcc_index c l [];simpa[Thk.split] using this
theorem splitK_split (c:UInt8):∀ (k:Nat) (l:Thk.Bs),((Thk.split c l).length<=k+1->Lib.splitK [c] 0 k l=Thk.split c l)/\(k+1<(Thk.split c l).length->(Lib.splitK [c] 0 k l).length=k+1):=by
 intro k
 induction k with
 | zero =>
  intro l
  refine ⟨fun h=>?_,fun _=>rfl⟩
  rw[split_index] at h ⊢
  by_cases h2:Lib.indexByte l c = -1
  ·rw[if_pos h2];(first | done | rfl)
  ·rw[if_neg h2] at h
   have:=List.length_pos_iff.2 (Thk.split_ne_nil c (l.drop ((Lib.indexByte l c).toNat+1)))
   simp only[List.length_cons] at h;omega
 | succ k ih =>
  intro l
  obtain ⟨a,b⟩:=ih (l.drop ((Lib.indexByte l c).toNat+1))
  unfold Lib.splitK
  rw[Lib.index_one,split_index]
  by_cases h2:Lib.indexByte l c = -1
  ·rw[if_pos h2,if_pos (by simpa using h2)];exact ⟨fun _=>rfl,fun h=>by simp at h⟩
  ·rw[if_neg h2,if_neg (by simpa using h2)]
   simp only[List.length_cons,Nat.add_zero,List.length_nil,Nat.zero_add]
   exact ⟨fun h=>by rw[a (by omega)],fun h=>by rw[b (by omega)]⟩

theorem splitN_path (s:ByteArray) (ps:List ByteArray) (hps:ps=Lib.splitB ⟨#[47]⟩ 0 (min 4 (s.size+1)-1) s) :
  (ps.length<=3->ps.map toL=Thk.split 47 (toL s))/\(3<ps.length->Thk.path (toL s)=false)/\ps.length<=4/\ps≠[]:=by
 have hd:ps.map toL=Lib.splitK [47] 0 (min 4 (s.size+1)-1) (toL s):=by rw[hps];exact Lib.splitB_data ⟨#[47]⟩ 0 _ s
 have hl:(Thk.split 47 (toL s)).length<=s.size+1:=by
  have:=Thk.splitAcc_len 47 (toL s) []
  rw[toL_length] at this
  unfold Thk.split;simp at this;omega
 obtain ⟨a,b⟩:=splitK_split 47 (min 4 (s.size+1)-1) (toL s)
 have hle:ps.length<=min 4 (s.size+1)-1+1:=by rw[hps];exact Lib.splitB_length_le _ _ _ _
 have hlen:ps.length=(Lib.splitK [47] 0 (min 4 (s.size+1)-1) (toL s)).length:=by rw[<- hd,List.length_map]
 have hbig:∀ l:Thk.Bs,3<(Thk.split 47 l).length->Thk.path l=false:=by
  intro l h
  unfold Thk.path Thk.pathL
  have:decide ((Thk.split 47 l).length<=3)=false:=by rw[decide_eq_false_iff_not];omega
  rw[this];(first | done | rfl)
 by_cases hS:(Thk.split 47 (toL s)).length<=min 4 (s.size+1)-1+1
 ·have e:=a hS
  rw[e] at hd hlen
  refine ⟨fun _=>hd,fun h=>hbig _ (by omega),by omega, ?_⟩
  intro h;rw[h] at hd;exact Thk.split_ne_nil 47 (toL s) hd.symm
 ·have e:=b (by omega)
  rw[e] at hlen
  refine ⟨fun h=>by omega,fun _=>hbig _ (by omega),by omega, ?_⟩
  intro h;rw[h] at hlen;simp at hlen

def okStr (b:Bool) (s:ByteArray):ByteArray:=match b with | true=>s | false=>⟨#[]⟩
theorem splitB_size' (sep:ByteArray) (save:Nat):∀ (k:Nat) (s:ByteArray),∀ p∈_root_.Go.Lib.splitB sep save k s,p.size<=s.size:=by
 intro k
 induction k with
 | zero=>intro s p hp;simp[_root_.Go.Lib.splitB] at hp;rw[hp];exact Nat.le_refl _
 | succ k ih =>
  intro s p hp
  unfold _root_.Go.Lib.splitB at hp
  split at hp
  ·simp at hp;rw[hp];exact Nat.le_refl _
  ·rcases List.mem_cons.1 hp with h | h
   ·rw[h];simp[ByteArray.size_extract];omega
   ·have:=ih _ p h;simp[ByteArray.size_extract] at this;omega

theorem ReadPath_any (s:ByteArray) (m:Int) (w:World) (hs:s.size<=1048576) (hm:w.cell? ⟨0,0,none⟩=some (.int .i64 m)) :
  Calls Tryz.prog 50 #[.string s] w fun e w'=>e=.returned (.tuple #[.string (okStr (Thk.path (toL s)) s),.bool (Thk.path (toL s))])/\Below w.heap.size w w':=by
 have Hcall:Hid (_):=Tryz.strings_SplitN s ⟨#[47]⟩ 4 m w (by omega) hm (by decide) (by omega) (by omega)
 obtain ⟨ps,hps⟩:∃ ps,ps=Lib.splitB ⟨#[47]⟩ 0 (min 4 (s.size+1)-1) s:=⟨_,rfl⟩
 obtain ⟨p1,p2,p3,p4⟩:=splitN_path s ps hps
 clear hm
 go_enter Tryz.func50,Tryz.ntmps50
 go_wp2_with fail
 refine Calls.mono Hcall.out ?_
 rw[<- hps]
 rintro e w1 ⟨rfl,rfl⟩
 have hb1:Below w.heap.size w (w.alloc (.cells (Lib.cellsOf ps (min 4 (s.size+1))) 9)):=(Below.refl _ _).alloc (Nat.le_refl _) _
 have Hcell:Hid (∀ j (h:j<ps.length),(w.alloc (.cells (Lib.cellsOf ps (min 4 (s.size+1))) 9)).cell? ⟨w.heap.size,j,none⟩=some (.string ps[j])):=by
  intro j h
  have:(Lib.cellsOf ps (min 4 (s.size+1)))[j]? = some (.string ps[j]):=by
   unfold Lib.cellsOf
   simp only[List.getElem?_toArray]
   rw[List.getElem?_append_left (by simpa using h),List.getElem?_map,List.getElem?_eq_getElem h];(first | done | rfl)
  simpa using this
 have Hsz:Hid (∀ p∈ps,p.size<=1048576):=by
  intro p hp
  have h1:=splitB_size' ⟨#[47]⟩ 0 (min 4 (s.size+1)-1) s p (by rw[<- hps];exact hp)
  omega
 have hcap:ps.length<=min 4 (s.size+1):=by
  have:=Lib.splitB_length_le ⟨#[47]⟩ 0 (min 4 (s.size+1)-1) s;rw[<- hps] at this;omega
 clear Hcall hps
 generalize w.alloc (.cells (Lib.cellsOf ps (min 4 (s.size+1))) 9)=w1 at *
 generalize min 4 (s.size+1)=cp at *
 by_cases h3:3<ps.length
 ·have hfin:Hid (Thk.path (toL s)=false):=p2 h3
  clear p1 p2
  go_wp2
  go_ret2
  exact ⟨by rw[hfin.out];rfl,hb1⟩
 ·have Hpath:Hid (Thk.path (toL s)=Thk.pathL (ps.map toL)):=by unfold Hid Thk.path;rw[p1 (by omega)]
  have hpos:0<ps.length:=List.length_pos_iff.2 p4
  clear p1 p2 p3 p4
  go_wp2
  go_loop [18] (fun i=>∃ k:Nat,k<=ps.length/\i=.int .i64 k/\Hid (∀ j (h:j<ps.length),j<k->Thk.seg (toL ps[j])=true/\(j+1<ps.length->(toL ps[j]).head? = some 109))) (fun i=>ps.length-(intOf i).toNat)
  case atStart=>exact ⟨0,by omega,rfl,fun j _ b=>by omega⟩
  case round =>
   obtain ⟨k,hk,rfl,hall⟩:=hrel
   by_cases hlt:k<ps.length
   ·have hck:=Hcell.out k hlt
    have hqz:=Hsz.out _ (List.getElem_mem hlt)
    have Hnext:Hid (Thk.seg (toL ps[k])=true->(k+1<ps.length->(toL ps[k]).head? = some 109)->∀ j (h:j<ps.length),j<k+1->Thk.seg (toL ps[j])=true/\(j+1<ps.length->(toL ps[j]).head? = some 109)):=by
     intro h1 h2 j h b
     by_cases e:j=k
     ·subst e;exact ⟨h1,h2⟩
     ·exact hall.out j h (by omega)
    have Hf1:Hid (Thk.seg (toL ps[k])=false->Thk.pathL (ps.map toL)=false):=fun h=>Thk.pathL_false_seg _ k (by simpa using hlt) (by simpa using h)
    have Hf2:Hid (k+1<ps.length->((toL ps[k]).head? == some 109)=false->Thk.pathL (ps.map toL)=false):=fun h1 h=>Thk.pathL_false_map _ k (by simpa using h1) (by simpa using h)
    clear hall
    generalize ps[k]=q at *
    cases hseg:Thk.seg (toL q)
    ·have hfin:Hid (Thk.path (toL s)=false):=Hpath.out.trans (Hf1.out hseg)
     have Hs2:Hid (_):=hseg
     clear hseg Hnext Hf1 Hf2
     go_wp2_with (go_at_call 94;refine (isSegment_any q _ (by omega)).mono ?_;rintro e w' ⟨rfl,rfl⟩;rw[Hs2.out])
     go_ret2
     exact ⟨by rw[hfin.out];rfl,hb1⟩
    ·have hq2:2<=q.size:=by have:=Thk.seg_pos _ hseg;rwa [toL_length] at this
     have Hs2:Hid (_):=hseg
     have Hn1:Hid (_):=Hnext.out hseg
     clear hseg Hnext Hf1
     have hh:=head_toL q (by omega)
     by_cases hl:k+1<ps.length
     ·by_cases hm:q[0]=109
      ·have Hn2:Hid (_):=Hn1.out (fun _=>by rw[hh,hm])
       have hd:((q[0].toNat:Int) != 109)=false:=by rw[hm];(first | done | rfl)
       clear Hf2 Hn1 hh hm
       go_wp2_with (go_at_call 94;refine (isSegment_any q _ (by omega)).mono ?_;rintro e w' ⟨rfl,rfl⟩;rw[Hs2.out])
       go_round
       case rel=>exact ⟨k+1,by omega,by go_num,Hn2⟩
       case measure=>simp[intOf];omega
      ·have hfin:Hid (Thk.path (toL s)=false):=Hpath.out.trans (Hf2.out hl (by rw[hh];simpa using hm))
       have hd:((q[0].toNat:Int) != 109)=true:=by
        rw[bne_iff_ne];intro h;apply hm;apply UInt8.toNat_inj.1;have:(109:UInt8).toNat=109:=rfl;omega
       clear Hf2 Hn1 hh hm
       go_wp2_with (go_at_call 94;refine (isSegment_any q _ (by omega)).mono ?_;rintro e w' ⟨rfl,rfl⟩;rw[Hs2.out])
       go_ret2
       exact ⟨by rw[hfin.out];rfl,hb1⟩
     ·have Hn2:Hid (_):=Hn1.out (fun h=>absurd h hl)
      clear Hf2 Hn1 hh
      go_wp2_with (go_at_call 94;refine (isSegment_any q _ (by omega)).mono ?_;rintro e w' ⟨rfl,rfl⟩;rw[Hs2.out])
      go_round
      case rel=>exact ⟨k+1,by omega,by go_num,Hn2⟩
      case measure=>simp[intOf];omega
   ·have hfin:Hid (Thk.path (toL s)=true):=by
     refine Hpath.out.trans ((Thk.pathL_eq _ (fun j h=>?_) (fun j h h2=>?_)).trans (by simp;omega))
     ·simp only[List.getElem_map];exact (hall.out j (by simpa using h) (by simp at h;omega)).1
     ·simp only[List.getElem_map];exact (hall.out j (by simpa using h) (by simp at h;omega)).2 (by simpa using h2)
    clear hall
    go_wp2
    go_ret2
    exact ⟨by rw[hfin.out];rfl,hb1⟩


theorem splitAcc_none (c:UInt8) (l cur:Thk.Bs) (h:¬c∈l):Thk.splitAcc c cur l=[cur ++ l]:=by
 rw[splitAcc_index,if_pos]
 have h1:=index_ge l c
 have h2:=(not_congr (index_mem l c)).2 h
 omega
theorem splitAcc_last (c:UInt8):∀ (l cur:Thk.Bs) (i:Nat),l[i]? = some c->(∀ j,i<j->l[j]?≠some c)->(Thk.splitAcc c cur l).getLast? = some (l.drop (i+1)):=by
 intro l
 induction l with
 | nil=>intro cur i h;simp at h
 | cons x r ih =>
  intro cur i hi hj
  cases i with
  | zero =>
   have hx:x=c:=by simpa using hi
   subst hx
   have hn:¬x∈r:=fun hm=>by
    obtain ⟨j,hj1,hj2⟩:=List.getElem_of_mem hm
    exact hj (j+1) (by omega) (by simp[List.getElem?_eq_getElem hj1,hj2])
   rw[Thk.splitAcc_eq,splitAcc_none _ _ _ hn];simp
  | succ i =>
   have hi':r[i]? = some c:=by simpa using hi
   have hj':∀ j,i<j->r[j]?≠some c:=fun j h=>by have:=hj (j+1) (by omega);simpa using this
   by_cases hx:x=c
   ·subst hx
    rw[Thk.splitAcc_eq,List.getLast?_cons,ih [] i hi' hj'];simp
   ·rw[Thk.splitAcc_ne _ _ _ _ hx,ih _ i hi' hj'];simp

theorem data_get (s:ByteArray) (j:Nat) (h:j<s.size):s.data[j]! = s[j]:=by
 rw[getElem!_pos s.data j h];(first | done | rfl)

theorem kind_at (s:ByteArray) (hp:Thk.path (toL s)=true):∃ k:Nat,Lib.lastIndexByte s 47+1=(k:Int)/\∃ h:k<s.size,s[k]=Thk.kindOf (toL s):=by
 obtain ⟨hn,h2,h0⟩:=Thk.path_last _ hp
 have hl:(Thk.split 47 (toL s)).getLast? = some ((Thk.split 47 (toL s))[(Thk.split 47 (toL s)).length-1]'(by omega)):=by
  rw[List.getLast?_eq_getElem?,List.getElem?_eq_getElem]
 have key:∀ k:Nat,(Thk.split 47 (toL s)).getLast? = some ((toL s).drop k)->∃ h:k<s.size,s[k]=Thk.kindOf (toL s):=by
  intro k hk
  rw[hl] at hk
  simp only[Option.some.injEq] at hk
  rw[hk] at h2 h0
  simp only[List.length_drop,toL_length] at h2
  have hks:k<s.size:=by omega
  refine ⟨hks, ?_⟩
  rw[List.getElem?_drop,Nat.add_zero,List.getElem?_eq_getElem (by rw[toL_length];exact hks),toL_get s k hks] at h0
  simpa using h0
 rcases Lib.lastIdx_spec s 47 s.size with ⟨h1,hno⟩ | ⟨i,hi,h1,hc,hno⟩
 ·refine ⟨0,by unfold Lib.lastIndexByte;rw[h1];rfl,key 0 ?_⟩
  have hmem:¬(47:UInt8)∈toL s:=fun hm=>by
   obtain ⟨j,hj1,hj2⟩:=List.getElem_of_mem hm
   rw[toL_length] at hj1
   have:=hno j hj1
   rw[data_get s j hj1,<- toL_get s j hj1,hj2] at this
   exact this rfl
  unfold Thk.split;rw[splitAcc_none _ _ _ hmem];simp
 ·refine ⟨i+1,by unfold Lib.lastIndexByte;rw[h1];omega,key (i+1) ?_⟩
  unfold Thk.split
  apply splitAcc_last
  ·rw[List.getElem?_eq_getElem (by rw[toL_length];exact hi),toL_get s i hi]
   rw[data_get s i hi] at hc
   congr 1
   apply UInt8.toNat_inj.1
   have:(47:UInt8).toNat=47:=rfl
   omega
  ·intro j hj e
   have hjs:j<s.size:=by
    rcases Nat.lt_or_ge j s.size with h | h
    ·exact h
    ·rw[List.getElem?_eq_none (by rw[toL_length];exact h)] at e;cases e
   rw[List.getElem?_eq_getElem (by rw[toL_length];exact hjs),toL_get s j hjs] at e
   have:=hno j hj hjs
   rw[data_get s j hjs] at this
   simp only[Option.some.injEq] at e
   rw[e] at this;exact this rfl

theorem Kind_any (s:ByteArray) (w:World) (hs:s.size<=1048576) (hp:Thk.path (toL s)=true) :
  Calls Tryz.prog 83 #[.string s] w fun e w'=>e=.returned (.int .u8 ((Thk.kindOf (toL s)).toNat:Int))/\w'=w:=by
 obtain ⟨k,h1,h2,h3⟩:=kind_at s hp
 have Hc:Hid (_):=Tryz.strings_LastIndexByte s 47 (by omega) w
 obtain ⟨ix,hix⟩:∃ ix,ix=Lib.lastIndexByte s 47:=⟨_,rfl⟩
 rw[<- hix] at h1
 have hixe:ix=(k:Int)-1:=by omega
 have H3:Hid (_):=h3
 clear h3 h1 hp
 go_enter Tryz.func83,Tryz.ntmps83
 go_wp2_with fail
 refine Calls.mono Hc.out ?_
 rintro e w' ⟨rfl,rfl⟩
 rw[<- hix,hixe]
 clear hix hixe
 go_wp2
 go_ret
 exact ⟨ret_int (by rw[H3.out]),rfl⟩

def actsOf (k:UInt8):Thk.Bs:=if (k.toNat:Int)=115 then [43,45,33] else if (k.toNat:Int)=102 then [94,95,33] else if (k.toNat:Int)=114 then [61,33] else if (k.toNat:Int)=99 then [62,33] else [33]

theorem actionsOf_any (k:UInt8) (w:World) :
  Calls Tryz.prog 82 #[.int .u8 (k.toNat:Int)] w fun e w'=>∃ t,e=.returned (.string t)/\toL t=actsOf k/\w'=w:=by
 go_enter Tryz.func82,Tryz.ntmps82
 go_wp2
 all_goals
  go_ret
  refine ⟨_,rfl, ?_,rfl⟩
  simp only[beq_iff_eq,beq_eq_false_iff_ne] at *
  unfold actsOf
  simp[*]
  try rfl

theorem IsEffect_any (p:ByteArray) (a:UInt8) (v:ByteArray) (n:Int) (w:World) :
  Calls Tryz.prog 90 #[.agg #[.string p,.int .u8 (a.toNat:Int),.string v,.int .i64 n]] w fun e w'=>e=.returned (.bool (effB a))/\Below w.heap.size w w':=by
 go_enter Tryz.func90,Tryz.ntmps90
 go_wp2
 all_goals
  go_ret
  refine ⟨ret_bool ?_,(Below.refl _ _).alloc (Nat.le_refl _) _⟩
  simp only[beq_iff_eq,beq_eq_false_iff_ne] at *
  unfold effB
  rw[Bool.eq_iff_iff]
  simp
  try omega


theorem begins_prefix (l p:Thk.Bs):Thk.begins l p=(l == p || (p ++ [47]).isPrefixOf l):=by
 unfold Thk.begins
 cases h:(l == p)
 ·simp only[Bool.false_or]
  rw[Bool.eq_iff_iff]
  simp only[Bool.and_eq_true,decide_eq_true_eq,beq_iff_eq,List.isPrefixOf_iff_prefix]
  constructor
  ·rintro ⟨⟨h1,h2⟩,h3⟩
   rw[List.getElem?_eq_getElem h1] at h3
   have h4:l[p.length]=47:=by
    apply UInt8.toNat_inj.1
    simpa using h3
   refine ⟨l.drop (p.length+1), ?_⟩
   conv=>rhs;rw[<- List.take_append_drop p.length l,h2,List.drop_eq_getElem_cons h1,h4]
   simp
  ·rintro ⟨t,rfl⟩
   simp
 ·rfl

def stepSeg (p l:Thk.Bs):Thk.Bs:=(Thk.split 47 (l.drop (p.length+1))).headD []

theorem cut_head (l:Thk.Bs):(Lib.cut l [47]).1=(Thk.split 47 l).headD []:=by
 unfold Lib.cut
 rw[Lib.index_one,split_index]
 have hge:=index_ge l 47
 by_cases h:Lib.indexByte l 47 = -1
 ·rw[if_neg (by rw[h];omega),if_pos h];(first | done | rfl)
 ·rw[if_pos (by omega),if_neg h];(first | done | rfl)

theorem Step_any (p l:ByteArray) (m:Int) (w:World) (hp:p.size<=1048576) (hl:l.size<=1048576) (hm:w.cell? ⟨0,0,none⟩=some (.int .i64 m)) :
  Calls Tryz.prog 217 #[.string p,.string l] w fun e w'=>∃ t,e=.returned (.tuple #[.string t,.bool ((toL p ++ [47]).isPrefixOf (toL l))])/\((toL p ++ [47]).isPrefixOf (toL l)=true->toL t=stepSeg (toL p) (toL l))/\t.size<=l.size/\Below w.heap.size w w':=by
 have Hc1:Hid (_):=Tryz.strings_CutPrefix l (p ++ ⟨#[47]⟩) w
 have e1:(p ++ ⟨#[47]⟩:ByteArray).data.toList=toL p ++ [47]:=toL_append p ⟨#[47]⟩
 have hsz:p.size+1<=9223372036854775807:=by omega
 cases hx:(toL p ++ [47]).isPrefixOf (toL l)
 ·have hh:Hid (Lib.hasPrefix l.data.toList (p ++ ⟨#[47]⟩:ByteArray).data.toList=false):=by unfold Hid Lib.hasPrefix;rw[e1];exact hx
  clear hx hm e1
  go_enter Tryz.func217,Tryz.ntmps217
  go_wp2_with fail
  refine Calls.mono Hc1.out ?_
  rw[hh.out]
  rintro e w' ⟨rfl,rfl⟩
  go_wp2
  go_ret2
  exact ⟨ByteArray.empty,rfl,(fun h=>by cases h),Nat.zero_le _,Below.refl _ _⟩
 ·have hh:Hid (Lib.hasPrefix l.data.toList (p ++ ⟨#[47]⟩:ByteArray).data.toList=true):=by unfold Hid Lib.hasPrefix;rw[e1];exact hx
  have ht:Hid (Lib.trimPrefix l.data.toList (p ++ ⟨#[47]⟩:ByteArray).data.toList=(toL l).drop (p.size+1)):=by
   unfold Hid Lib.trimPrefix;rw[hh.out,if_pos rfl,e1]
   congr 1;simp[toL_length]
  obtain ⟨q,hq⟩:∃ q:ByteArray,q=⟨((toL l).drop (p.size+1)).toArray⟩:=⟨_,rfl⟩
  have hqs:q.size<=l.size:=by
   have:q.size=((toL l).drop (p.size+1)).length:=by rw[hq];(first | done | rfl)
   rw[this,List.length_drop,toL_length];omega
  have Hc2:Hid (_):=Tryz.strings_Cut q ⟨#[47]⟩ m w (by omega) hm
  have Hq:Hid (toL q=(toL l).drop (p.size+1)):=by unfold Hid;rw[hq];(first | done | rfl)
  obtain ⟨t,htt⟩:∃ t:ByteArray,t=⟨(Lib.cut q.data.toList [47]).1.toArray⟩:=⟨_,rfl⟩
  have Ht:Hid (toL t=stepSeg (toL p) (toL l)):=by
   have h1:toL t=(Lib.cut (toL q) [47]).1:=by rw[htt];(first | done | rfl)
   unfold Hid stepSeg
   rw[h1,cut_head,Hq.out,toL_length]
  have Hts:Hid (t.size<=l.size):=by
   unfold Hid
   have h1:t.size=(Lib.cut (toL q) [47]).1.length:=by rw[htt];(first | done | rfl)
   have h2:(Lib.cut (toL q) [47]).1.length<=(toL q).length:=by
    unfold Lib.cut;split
    ·simp;omega
    ·simp
   rw[toL_length] at h2;omega
  clear hx hm e1
  go_enter Tryz.func217,Tryz.ntmps217
  go_wp2_with fail
  refine Calls.mono Hc1.out ?_
  rw[hh.out,ht.out,<- hq]
  rintro e w' ⟨rfl,hw'⟩
  subst hw'
  clear hq
  go_wp2_with fail
  refine Calls.mono Hc2.out ?_
  rintro e w2 ⟨rfl,n,rfl⟩
  rw[<- htt]
  clear htt
  go_wp2
  go_ret2
  exact ⟨t,rfl,(fun _=>Ht.out),Hts.out,below_drewN (Below.refl _ _) _⟩

theorem Holds_any (p l:ByteArray) (m:Int) (w:World) (hp:p.size<=1048576) (hl:l.size<=1048576) (hm:w.cell? ⟨0,0,none⟩=some (.int .i64 m)) :
  Calls Tryz.prog 206 #[.string p,.string l] w fun e w'=>e=.returned (.bool (Thk.begins (toL l) (toL p)))/\Below w.heap.size w w':=by
 have Hs:Hid (_):=Step_any p l m w hp hl hm
 have Hb:Hid (Thk.begins (toL l) (toL p)=((toL p == toL l) || (toL p ++ [47]).isPrefixOf (toL l))):=by
  unfold Hid;rw[begins_prefix];congr 1;rw[Bool.eq_iff_iff];simp;exact eq_comm
 clear hm
 go_enter Tryz.func206,Tryz.ntmps206
 go_wp2_with fail
 refine Calls.mono Hs.out ?_
 rintro e w1 ⟨t,rfl,_,_,hb1⟩
 generalize (toL p ++ [47]).isPrefixOf (toL l)=x at *
 cases heq:(p.toList == l.toList)
 ·have h1:(toL p == toL l)=false:=by rw[toList_eq,toList_eq] at heq;exact heq
  have Hf:Hid (Thk.begins (toL l) (toL p)=x):=by unfold Hid;rw[Hb.out,h1];(first | done | rfl)
  clear h1 Hb
  go_wp2
  go_ret
  exact ⟨ret_bool Hf.out.symm,hb1⟩
 ·have h1:(toL p == toL l)=true:=by rw[toList_eq,toList_eq] at heq;exact heq
  have Hf:Hid (Thk.begins (toL l) (toL p)=true):=by unfold Hid;rw[Hb.out,h1];(first | done | rfl)
  clear h1 Hb
  go_wp2
  go_ret
  exact ⟨ret_bool Hf.out.symm,hb1⟩

theorem Covers_any (dp dv ep ev:ByteArray) (da ea:UInt8) (dn en:Int) (m:Int) (w:World) (h1:dp.size<=1048576) (h2:ep.size<=1048576) (hm:w.cell? ⟨0,0,none⟩=some (.int .i64 m)) :
  Calls Tryz.prog 149 #[.agg #[.string dp,.int .u8 (da.toNat:Int),.string dv,.int .i64 dn],.agg #[.string ep,.int .u8 (ea.toNat:Int),.string ev,.int .i64 en]] w
   fun e w'=>e=.returned (.bool (covB (toL dp) da (toL dv) (toL ep) ea (toL ev)))/\Below w.heap.size w w':=by
 have hmB:Hid (∀ wx,Below w.heap.size w wx->wx.cell? ⟨0,0,none⟩=some (.int .i64 m)):=fun wx hx=>(hx.cell (p:=⟨0,0,none⟩) (block_lt_of_cell hm)).trans hm
 clear hm
 go_enter Tryz.func149,Tryz.ntmps149
 go_wp2_with (go_at_call 206;refine (Holds_any dp ep m _ h1 h2 (hmB.out _ (((Below.refl _ _).alloc (Nat.le_refl _) _).alloc (by simp) _))).mono ?_;rintro e w1 ⟨rfl,hb1⟩)
 ·go_ret
  rename_i h33
  refine ⟨ret_bool ?_,(((Below.refl _ _).alloc (Nat.le_refl _) _).alloc (by simp) _).trans (hb1.mono (by simp;omega))⟩
  unfold covB;rw[if_pos (by simpa using h33)]
 all_goals
  go_ret
  refine ⟨ret_bool ?_,((Below.refl _ _).alloc (Nat.le_refl _) _).alloc (by simp) _⟩
  simp only[toList_eq,Bool.not_eq_true',Bool.not_eq_false',beq_iff_eq,beq_eq_false_iff_ne] at *
  unfold covB
  by_cases e1:(ea.toNat:Int)=43
  ·simp_all [toL]
   try (rw[Bool.eq_iff_iff];simp only[beq_iff_eq];exact ⟨Eq.symm,Eq.symm⟩)
  ·by_cases e2:(ea.toNat:Int)=94
   ·simp_all [toL]
   ·by_cases e3:(ea.toNat:Int)=61
    ·simp_all [toL]
    ·simp_all [toL]


theorem grow_below {B:Nat} {a w:World} (h:Below B a w) (hB:B<=w.heap.size) (os:Array Obj):Below B a (Sort.grow w os) :=
 h.trans ⟨rfl,rfl,rfl,by simp[Sort.grow],fun k hk=>by simp only[Sort.grow];rw[Array.getElem?_append_left (by omega)]⟩

theorem parse_range (l:List UInt8) (v:Int) (h:Lib.parseIntB 64 l=.ok v):-9223372036854775808<=v/\v<=9223372036854775807:=by
 unfold Lib.parseIntB at h
 split at h
 ·cases h
 ·simp only at h
  split at h
  ·cases h
  ·cases h
  ·split at h
   ·cases h
   ·split at h
    ·cases h
    ·rename_i c r _ u hu n1 n2
     simp only[Lib.NumEnd.ok.injEq] at h
     simp at n1 n2
     split at h
     ·rename_i h45
      have:=n2 h45;omega
     ·rename_i h45
      have:=n1 h45;omega

theorem readNumber_any (s:ByteArray) (w:World) (hs:s.size<=1048576) (hG:Glob w) :
  Calls Tryz.prog 145 #[.string s] w fun e w'=>∃ v,e=.returned (.tuple #[.int .i64 v,.bool (Thk.num (toL s)).isSome])/\(∀ n,Thk.num (toL s)=some n->v=n)/\Below w.heap.size w w':=by
 have hq:Thk.num (toL s)=Thk.progNum (toL s):=(Thk.progNum_eq _).symm
 unfold Thk.progNum at hq
 cases hp:Lib.parseIntB 64 (toL s) with
 | ok v =>
  have hr:=parse_range _ _ hp
  have Hc1:Hid (_):=Tryz.strconv_ParseInt_10_at64_ok s (by omega) v hp w
  rw[hp] at hq
  simp only at hq
  have HG:Hid (Glob w):=hG
  clear hG hp
  go_enter Tryz.func145,Tryz.ntmps145
  go_wp2_with fail
  refine Calls.mono Hc1.out ?_
  rintro e w1 ⟨rfl,hw1⟩
  have Hb1:Hid (Below w.heap.size w w1):=by
   rcases hw1 with rfl | ⟨t,rfl⟩
   ·exact Below.refl _ _
   ·exact Lib.bytesWorld_below _ _ _
  clear hw1
  have Hc2:Hid (_):=Tryz.strconv_FormatInt_10 v hr.1 hr.2 w1 (HG.out.mono Hb1.out).tab
  go_wp2_with fail
  refine Calls.mono Hc2.out ?_
  rintro e w2 ⟨rfl,hw2⟩
  have Hb2:Hid (Below w.heap.size w w2):=by
   obtain ⟨k,os,rfl⟩:=hw2
   exact grow_below (below_drewN Hb1.out k) Hb1.out.size os
  clear hw2 Hc1 Hc2
  obtain ⟨q,hqq⟩:∃ q:ByteArray,q=⟨(Lib.itoa v).toArray⟩:=⟨_,rfl⟩
  rw[<- hqq]
  have Hq:Hid (toL q=Lib.itoa v):=by rw[hqq];(first | done | rfl)
  clear hqq
  cases heq:(q.toList == s.toList)
  ·have hne:¬(Lib.itoa v=toL s):=by
    have h1:(toL q == toL s)=false:=by rw[toList_eq,toList_eq] at heq;exact heq
    rw[Hq.out] at h1;simpa using h1
   have Hf:Hid (Thk.num (toL s)=none):=by unfold Hid;rw[hq,if_neg (fun h=>hne h.1)]
   clear hq hne
   go_wp2
   go_ret2
   refine ⟨0, ?_, ?_,Hb2.out⟩
   ·rw[Hf.out];(first | done | rfl)
   ·intro n hn;rw[Hf.out] at hn;cases hn
  ·have he:Lib.itoa v=toL s:=by
    have h1:(toL q == toL s)=true:=by rw[toList_eq,toList_eq] at heq;exact heq
    rw[Hq.out] at h1;simpa using h1
   have Hf:Hid (Thk.num (toL s)=if -1000000000<=v/\v<=1000000000 then some v else none):=by unfold Hid;rw[hq];simp[he]
   clear hq he
   go_wp2
   all_goals
    go_ret2
    refine ⟨v, ?_, ?_,Hb2.out⟩
    ·rw[Hf.out];split <;> simp_all <;> omega
    ·intro n hn;rw[Hf.out] at hn;split at hn <;> simp_all
 | range =>
  obtain ⟨ev,hv,hev⟩:=hG.rng
  have Hc1:Hid (_):=Tryz.strconv_ParseInt_10_at64_range s (by omega) hp ev w hv hev
  rw[hp] at hq
  have Hf:Hid (Thk.num (toL s)=none):=hq
  clear hG hp hq hv hev
  go_enter Tryz.func145,Tryz.ntmps145
  go_wp2_with fail
  refine Calls.mono Hc1.out ?_
  rintro e w1 ⟨N,rfl,_,_,hb⟩
  go_wp2
  go_ret2
  refine ⟨0, ?_, ?_,hb⟩
  ·rw[Hf.out];(first | done | rfl)
  ·intro n hn;rw[Hf.out] at hn;cases hn
 | _ =>
  obtain ⟨ev,hv,hev⟩:=hG.syn
  have Hc1:Hid (_):=Tryz.strconv_ParseInt_10_at64_syntax s (by omega) hp ev w hv hev
  rw[hp] at hq
  have Hf:Hid (Thk.num (toL s)=none):=hq
  clear hG hp hq hv hev
  go_enter Tryz.func145,Tryz.ntmps145
  go_wp2_with fail
  refine Calls.mono Hc1.out ?_
  rintro e w1 ⟨N,rfl,_,_,hb⟩
  go_wp2
  go_ret2
  refine ⟨0, ?_, ?_,hb⟩
  ·rw[Hf.out];(first | done | rfl)
  ·intro n hn;rw[Hf.out] at hn;cases hn

end Go.Proofs.YtfmmllpjgkgeaaaGreatDoor
namespace Go.Proofs.YtfmmllpjgkgeaaaGreatDoor
open Go.RowKit Go.Maps Go.ChangeMaps Go.MapKept

def idR (v:Value):Option (DataW Value × List MemPlace):=some (.held v,[])

def Says (P:Program) (k:TypeId) (D:DataW Value) (m:Value->Option Value):Prop :=
 (∀ key kl,keyOf P k key=some kl->Maps.has D kl=(m key).isSome/\∀ v,m key=some v->∀ z,D.atKey kl z=.held v)/\∀ key,(m key).isSome=true->∃ kl,keyOf P k key=some kl

def MapV (P:Program) (k:TypeId) (w:World) (b N:Nat) (m:Value->Option Value):Prop:=∃ D,w.ownsMap P k idR b N D/\Maps.size D=N/\Says P k D m

def RangeV (P:Program) (k:TypeId) (w:World) (b r N:Nat) (m:Value->Option Value) (left:Value->Prop) (cnt:Nat):Prop :=
 ∃ D lf,w.ranges P k idR b r N D lf cnt/\Maps.size D=N/\Says P k D m/\(∀ key kl,keyOf P k key=some kl->(lf kl=true↔left key))/\∀ key,left key->∃ kl,keyOf P k key=some kl

open Classical in
noncomputable def upd (m:Value->Option Value) (key v:Value):Value->Option Value:=fun x=>if x=key then some v else m x
open Classical in
noncomputable def era (m:Value->Option Value) (key:Value):Value->Option Value:=fun x=>if x=key then none else m x
theorem upd_same (m:Value->Option Value) (key v:Value):upd m key v key=some v:=by simp[upd]
theorem upd_other {m:Value->Option Value} {key v x:Value} (h:x≠key):upd m key v x=m x:=by simp[upd,h]
theorem era_same (m:Value->Option Value) (key:Value):era m key key=none:=by simp[era]
theorem era_other {m:Value->Option Value} {key x:Value} (h:x≠key):era m key x=m x:=by simp[era,h]

variable {P:Program} {k:TypeId} {w:World} {b r N cnt:Nat} {m:Value->Option Value} {left:Value->Prop}

theorem own_tight {D:DataW Value} {n:Nat} (h:w.ownsMap P k idR b n D):w.ownsMap P k idR b (Maps.size D) D:=by
 obtain ⟨es,clock,hb,F,hs,hD⟩:=h
 refine ⟨es,clock,hb,F, ?_,hD⟩
 rw[hD];simp[Maps.size,length_sorted]

theorem MapV.lt (h:MapV P k w b N m):b<w.heap.size:=by obtain ⟨D,h1,_⟩:=h;exact h1.lt
theorem MapV.kept {w':World} {row:Option Nat} (h:MapV P k w b N m) (hg:w.grownBy w' row) (hne:some b≠row):MapV P k w' b N m:=by
 obtain ⟨D,h1,h2⟩:=h;exact ⟨D,h1.kept hg hne,h2⟩
theorem MapV.block {w':World} (h:MapV P k w b N m) (hb:w'.heap[b]? = w.heap[b]?):MapV P k w' b N m:=by
 obtain ⟨D,⟨es,clock,h1,r⟩,h2⟩:=h;exact ⟨D,⟨es,clock,hb.trans h1,r⟩,h2⟩
theorem RangeV.block {w':World} (h:RangeV P k w b r N m left cnt) (hb:w'.heap[b]? = w.heap[b]?) (hr:w'.heap[r]? = w.heap[r]?):RangeV P k w' b r N m left cnt:=by
 obtain ⟨D,lf,⟨es,clock,since,seen,c0,h1,F,hs,hD,h2,rest⟩,h3⟩:=h
 exact ⟨D,lf,⟨es,clock,since,seen,c0,hb.trans h1,F,hs,hD,hr.trans h2,rest⟩,h3⟩
theorem RangeV.map (h:RangeV P k w b r N m left cnt):MapV P k w b N m:=by obtain ⟨D,lf,h1,h2,h3,_⟩:=h;exact ⟨D,h1.owns,h2,h3⟩
theorem RangeV.left_eq (h:RangeV P k w b r N m left cnt):w.rangeLeft b r=cnt:=by obtain ⟨D,lf,h1,_⟩:=h;exact h1.left_eq
theorem RangeV.lt (h:RangeV P k w b r N m left cnt):r<w.heap.size:=by obtain ⟨D,lf,h1,_⟩:=h;exact h1.lt
theorem MapV.noTag {t:TypeId} {cur:Array Value} {fz:Nat × Nat} (h:MapV P k w b N m):w.heap[b]?≠some (.cells cur t fz):=by
 obtain ⟨D,⟨es,clock,h1,r⟩,h2⟩:=h;rw[h1];intro e;cases e

theorem MapV.made (w:World) (P:Program) (k:TypeId):MapV P k (w.alloc (.map #[] 0)) w.heap.size 0 (fun _=>none) :=
 ⟨_,World.ownsMap_made w P k idR,rfl,fun key kl _=>⟨rfl,fun v h=>by cases h⟩,fun key h=>by cases h⟩

theorem Says.at {D:DataW Value} (h:Says P k D m) {key:Value} {kl:Lit} (hk:keyOf P k key=some kl) (z:Value):D.atKey kl (.held z)=.held ((m key).getD z):=by
 obtain ⟨h1,h2⟩:=h.1 key kl hk
 cases hm:m key with
 | none=>rw[hm] at h1;exact atKey_of_not_has h1 _
 | some v=>exact h2 v hm _

theorem MapV.look {t e:TypeId} (h:MapV P k w b N m) (K:Keyed P k) (ht:P.underlying t=some (.map k e)) {z:Value} (hz:(zeroValue e).run P w=.ok z w) {key:Value} {kl:Lit} (hk:keyOf P k key=some kl) :
  (Instr.lookup t (.map (some b)) key false).run P w=.ok ((m key).getD z) w:=by
 obtain ⟨D,h1,_,h2⟩:=h
 obtain ⟨v,ps,hr,hv⟩:=h1.lookup K ht hz (show idR z=some (.held z,[]) from rfl) hk
 rw[h2.at hk z] at hv
 simp only[idR,Option.some.injEq,Prod.mk.injEq,DataW.held.injEq] at hv
 rw[hr,hv.1]

theorem MapV.look_ok {t e:TypeId} (h:MapV P k w b N m) (K:Keyed P k) (ht:P.underlying t=some (.map k e)) {z:Value} (hz:(zeroValue e).run P w=.ok z w) {key:Value} {kl:Lit} (hk:keyOf P k key=some kl) :
  (Instr.lookup t (.map (some b)) key true).run P w=.ok (.tuple #[(m key).getD z,.bool (m key).isSome]) w:=by
 obtain ⟨D,h1,_,h2⟩:=h
 obtain ⟨v,ps,hr,hv⟩:=h1.look_ok K ht hz (show idR z=some (.held z,[]) from rfl) hk
 rw[h2.at hk z] at hv
 simp only[idR,Option.some.injEq,Prod.mk.injEq,DataW.held.injEq] at hv
 rw[hr,hv.1,(h2.1 key kl hk).1]

theorem MapV.len {t e:TypeId} (h:MapV P k w b N m) (ht:P.underlying t=some (.map k e)) (ty:TypeId):(Builtin.len_ #[t] ty #[.map (some b)]).run P w=.ok (.int .i64 (N:Int)) w:=by
 obtain ⟨D,h1,h2,_⟩:=h
 rw[h1.len ht ty,h2]

theorem MapV.zero (h:MapV P k w b N m) (K:Keyed P k) (h0:∀ key,m key=none):N=0:=by
 obtain ⟨D,h1,h2,h3⟩:=h
 obtain ⟨es,clock,hb,F,hs,rfl⟩:=h1
 rw[<- h2]
 simp only[Maps.size,length_sorted,List.length_map,Array.length_toList]
 rcases Nat.eq_zero_or_pos es.size with h | h
 ·exact h
 ·exfalso
  obtain ⟨x,hx⟩:∃ x,x∈es.toList:=⟨es[0],by simp⟩
  obtain ⟨y,hy⟩:=F.reads x hx
  have hkey:=WideElems.rd_key hy
  have hh:=(h3.1 _ _ hkey).1
  rw[h0] at hh
  have:Maps.has (DataW.map ((es.toList.map (WideElems.rg P k idR)).foldr DataW.insert [])) y.1=true :=
   List.any_eq_true.2 ⟨WideElems.rg P k idR x,mem_sorted.2 (List.mem_map.2 ⟨x,hx,rfl⟩),by rw[WideElems.rg_of hy];exact WideAt.sameKey_self (K.key hkey)⟩
  rw[this] at hh
  cases hh

theorem MapV.store {t e:TypeId} (h:MapV P k w b N m) (K:Keyed P k) (ht:P.underlying t=some (.map k e)) (hn:N<maxLen) {key:Value} (val:Value) {kl:Lit} (hk:keyOf P k key=some kl) :
  ∃ w',(Instr.mapUpdate t (.map (some b)) key val).run P w=.ok () w'/\MapV P k w' b (if (m key).isSome then N else N+1) (upd m key val)/\w.grownBy w' (some b)/\w'.heap.size=w.heap.size:=by
 obtain ⟨D,h1,h2,h3⟩:=h
 have tidy:=h1.tidy K
 have hisl:=K.key hk
 obtain ⟨w',hr,h4,h5⟩:=h1.store K ht hn hk (show idR val=some (.held val,[]) from rfl)
 have hsz:w'.heap.size=w.heap.size:=by obtain ⟨_,_,_,_,_,rfl⟩:=h5;simp[setBlock]
 have hN:Maps.size (D.put kl (.held val))=if (m key).isSome then N else N+1:=by rw[size_put tidy,(h3.1 key kl hk).1,h2]
 refine ⟨w',hr,⟨_,hN ▸ own_tight h4,hN, ?_, ?_⟩,h5.grown,hsz⟩
 ·intro key2 kl2 hk2
  by_cases e:key2=key
  ·subst e
   rw[hk] at hk2;cases hk2
   rw[upd_same]
   exact ⟨has_put_same tidy.isMap hisl _,fun v hv z=>by cases hv;exact atKey_put_same tidy.isMap hisl _ _⟩
  ·have hne:kl2≠kl:=fun e2=>e (K.inj hk2 (e2 ▸ hk))
   rw[upd_other e]
   exact ⟨(has_put_other hne _).trans (h3.1 key2 kl2 hk2).1,fun v hv z=>(atKey_put_other hne _ _).trans ((h3.1 key2 kl2 hk2).2 v hv z)⟩
 ·intro key2 h
  by_cases e:key2=key
  ·subst e;exact ⟨kl,hk⟩
  ·rw[upd_other e] at h;exact h3.2 key2 h

theorem MapV.drop {t e:TypeId} (h:MapV P k w b N m) (K:Keyed P k) (ht:P.underlying t=some (.map k e)) {key:Value} {kl:Lit} (hk:keyOf P k key=some kl) (ty:TypeId) :
  ∃ w',(Builtin.delete_ #[t,k] ty #[.map (some b),key]).run P w=.ok (.tuple #[]) w'/\MapV P k w' b (if (m key).isSome then N-1 else N) (era m key)/\w.grownBy w' (some b)/\w'.heap.size=w.heap.size:=by
 obtain ⟨D,h1,h2,h3⟩:=h
 have tidy:=h1.tidy K
 obtain ⟨w',hr,h4,h5⟩:=h1.drop K ht hk ty
 have hsz:w'.heap.size=w.heap.size:=by obtain ⟨_,_,_,_,_,rfl⟩:=h5;simp[setBlock]
 have hN:Maps.size (D.del kl)=if (m key).isSome then N-1 else N:=by
  have:=size_del (k:=kl) tidy
  rw[(h3.1 key kl hk).1,h2] at this
  split at this <;> simp_all <;> omega
 refine ⟨w',hr,⟨_,hN ▸ own_tight h4,hN, ?_, ?_⟩,h5.grown,hsz⟩
 ·intro key2 kl2 hk2
  by_cases e:key2=key
  ·subst e
   rw[hk] at hk2;cases hk2
   rw[era_same]
   exact ⟨has_del_same,fun v hv=>by cases hv⟩
  ·have hne:kl2≠kl:=fun e2=>e (K.inj hk2 (e2 ▸ hk))
   rw[era_other e]
   exact ⟨(has_del_other hne).trans (h3.1 key2 kl2 hk2).1,fun v hv z=>(atKey_del_other hne _).trans ((h3.1 key2 kl2 hk2).2 v hv z)⟩
 ·intro key2 h
  by_cases e:key2=key
  ·subst e;exact ⟨kl,hk⟩
  ·rw[era_other e] at h;exact h3.2 key2 h

theorem MapV.range {t e:TypeId} (h:MapV P k w b N m) (K:Keyed P k) (ht:P.underlying t=some (.map k e)) :
  ∃ w',(Instr.range t (.map (some b))).run P w=.ok (.pointer (some ⟨w.heap.size,0,none⟩)) w'/\RangeV P k w' b w.heap.size N m (fun key=>(m key).isSome=true) N/\w.grownBy w' none/\w'.heap.size=w.heap.size+1:=by
 obtain ⟨D,h1,h2,h3⟩:=h
 obtain ⟨w',hr,h4,h5,h6⟩:=h1.range K ht
 exact ⟨w',hr,⟨D,_,h2 ▸ h4,h2,h3,fun key kl hk=>by rw[(h3.1 key kl hk).1],h3.2⟩,h5,h6⟩

theorem RangeV.next (h:RangeV P k w b r N m left cnt) (K:Keyed P k) (ty:TypeId) :
  (cnt=0/\(∀ key,¬left key)/\(Instr.next (.pointer (some ⟨r,0,none⟩)) false ty).run P w=.ok (.tuple #[.bool false]) w) \/
  ∃ key v w' cnt',left key/\m key=some v/\(Instr.next (.pointer (some ⟨r,0,none⟩)) false ty).run P w=.ok (.tuple #[.bool true,key,v]) w' /\
   RangeV P k w' b r N m (fun x=>left x/\x≠key) cnt'/\cnt'<cnt/\w.grownBy w' (some r)/\w'.heap.size=w.heap.size/\(Instr.entry (.pointer (some ⟨r,0,none⟩))).run P w'=.ok (.tuple #[key,v]) w':=by
 obtain ⟨D,lf,h1,h2,h3,h4,h5⟩:=h
 rcases h1.next K ty with ⟨h0,hl,hrun⟩ | ⟨key,v,kl,y,w',cnt',hkey,hlk,hv,hat,hrun,hrg,hlt,hgr,hsz,hen⟩
 ·refine Or.inl ⟨h0,fun key hk=>?_,hrun⟩
  obtain ⟨kl,hkl⟩:=h5 key hk
  have:=(h4 key kl hkl).2 hk
  rw[hl] at this;cases this
 ·simp only[idR,Option.some.injEq] at hv
  subst hv
  have hmv:m key=some v:=by
   have hh:=(h3.1 key kl hkey).1
   rw[has_true_of_atKey hat] at hh
   obtain ⟨u,hu⟩:=Option.isSome_iff_exists.1 hh.symm
   have:=(h3.1 key kl hkey).2 u hu (.held v)
   rw[hat] at this
   cases this
   exact hu
  refine Or.inr ⟨key,v,w',cnt',(h4 key kl hkey).1 hlk,hmv,hrun,⟨D,_,hrg,h2,h3, ?_,fun x hx=>h5 x hx.1⟩,hlt,hgr,hsz,hen⟩
  intro key2 kl2 hk2
  by_cases e:key2=key
  ·subst e
   rw[hkey] at hk2;cases hk2
   simp[WideAt.sameKey_self (K.key hkey)]
  ·have hne:kl2≠kl:=fun e2=>e (K.inj hk2 (e2 ▸ hkey))
   simp only[sameKey_ne hne,Bool.not_false,Bool.and_true]
   rw[h4 key2 kl2 hk2]
   exact ⟨fun h=>⟨h,e⟩,fun h=>h.1⟩

/-! ### at the operation,for the walk -/
section
variable {ops:Array Oper} {rest:List Oper} {o:Oper} {a:Act} {Q:Exit->Act->World->Prop}

theorem wpList_look (hg:o.guard=none) (mo x:Operand) (t:TypeId) (hop:o.op=Op.lookup t mo x false) (e:TypeId) (K:Keyed P k) (ht:P.underlying t=some (.map k e)) {z:Value} (hz:(zeroValue e).run P w=.ok z w)
  (hm:a.eval mo=.map (some b)) (h:MapV P k w b N m) (key:Value) (kl:Lit) (hx:a.eval x=key) (hk:keyOf P k key=some kl) (u:Value) (hu:(m key).getD z=u)
  (hK:wpList P ops Q rest (a.put o.dst u) w):wpList P ops Q (o :: rest) a w:=by
 refine wpList_plain hg fun K' hK'=>?_
 unfold Oper.wp
 simp[execOp,hop,hm,hx,h.look K ht hz hk,hu,Result.andThen]
 exact hK' _ _ hK

theorem wpList_look_ok (hg:o.guard=none) (mo x:Operand) (t:TypeId) (hop:o.op=Op.lookup t mo x true) (e:TypeId) (K:Keyed P k) (ht:P.underlying t=some (.map k e)) {z:Value} (hz:(zeroValue e).run P w=.ok z w)
  (hm:a.eval mo=.map (some b)) (h:MapV P k w b N m) (key:Value) (kl:Lit) (hx:a.eval x=key) (hk:keyOf P k key=some kl) (u:Value) (hu:(m key).getD z=u) (c:Bool) (hc:(m key).isSome=c)
  (hK:wpList P ops Q rest (a.put o.dst (.tuple #[u,.bool c])) w):wpList P ops Q (o :: rest) a w:=by
 refine wpList_plain hg fun K' hK'=>?_
 unfold Oper.wp
 simp[execOp,hop,hm,hx,h.look_ok K ht hz hk,hu,hc,Result.andThen]
 exact hK' _ _ hK

theorem wpList_store (hg:o.guard=none) (mo x v:Operand) (t:TypeId) (hop:o.op=Op.mapUpdate t mo x v) (e:TypeId) (K:Keyed P k) (ht:P.underlying t=some (.map k e))
  (hm:a.eval mo=.map (some b)) (h:MapV P k w b N m) (hn:N<maxLen) (key val:Value) (kl:Lit) (hx:a.eval x=key) (hv:a.eval v=val) (hk:keyOf P k key=some kl)
  (hK:∀ w',MapV P k w' b (if (m key).isSome then N else N+1) (upd m key val)->w.grownBy w' (some b)->w'.heap.size=w.heap.size->wpList P ops Q rest (a.put o.dst undef) w'):wpList P ops Q (o :: rest) a w:=by
 refine wpList_plain hg fun K' hK'=>?_
 obtain ⟨w',hrun,r1,r2,r3⟩:=h.store K ht hn val hk
 unfold Oper.wp
 simp[execOp,hop,hm,hx,hv,hrun,Result.andThen]
 exact hK' _ _ (hK w' r1 r2 r3)

theorem wpList_drop (hg:o.guard=none) (mo x:Operand) (t:TypeId) (hop:o.op=Op.call { callee:=Callee.builtin Builtin.delete,args:=#[mo,x],argTypes:=#[t,k] }) (e:TypeId) (K:Keyed P k) (ht:P.underlying t=some (.map k e))
  (hm:a.eval mo=.map (some b)) (h:MapV P k w b N m) (key:Value) (kl:Lit) (hx:a.eval x=key) (hk:keyOf P k key=some kl)
  (hK:∀ w',MapV P k w' b (if (m key).isSome then N-1 else N) (era m key)->w.grownBy w' (some b)->w'.heap.size=w.heap.size->wpList P ops Q rest (a.put o.dst (.tuple #[])) w'):wpList P ops Q (o :: rest) a w:=by
 refine wpList_plain hg fun K' hK'=>?_
 obtain ⟨w',hrun,r1,r2,r3⟩:=h.drop K ht hk o.type
 unfold Oper.wp
 simp[execOp,hop,resolve,invoke,builtin,hm,hx,hrun,Result.andThen]
 exact hK' _ _ (hK w' r1 r2 r3)

theorem wpList_next {α : Type} (hg:o.guard=none) (it:Operand) (hop:o.op=Op.next it false) (K:Keyed P k) (mk mv:α->Value) (hit:a.eval it=.pointer (some ⟨r,0,none⟩)) (h:RangeV P k w b r N m left cnt)
  (hsh:∀ key v,left key->m key=some v->∃ x,key=mk x/\v=mv x)
  (hDone:cnt=0->(∀ key,¬left key)->wpList P ops Q rest (a.put o.dst (.tuple #[.bool false])) w)
  (hMore:∀ (x:α) (w':World) (cnt':Nat),left (mk x)->m (mk x)=some (mv x)->RangeV P k w' b r N m (fun y=>left y/\y≠mk x) cnt'->cnt'<cnt->w.grownBy w' (some r)->w'.heap.size=w.heap.size ->
   (Instr.entry (.pointer (some ⟨r,0,none⟩))).run P w'=.ok (.tuple #[mk x,mv x]) w'->wpList P ops Q rest (a.put o.dst (.tuple #[.bool true,mk x,mv x])) w'):wpList P ops Q (o :: rest) a w:=by
 refine wpList_plain hg fun K' hK'=>?_
 unfold Oper.wp
 rcases h.next K o.type with ⟨h0,hl,hrun⟩ | ⟨key,v,w',cnt',hlk,hv,hrun,hrg,hlt,hgr,hsz,hen⟩
 ·simp[execOp,hop,hit,hrun,Result.andThen]
  exact hK' _ _ (hDone h0 hl)
 ·obtain ⟨x,rfl,rfl⟩:=hsh key v hlk hv
  simp[execOp,hop,hit,hrun,Result.andThen]
  exact hK' _ _ (hMore x w' cnt' hlk hv hrg hlt hgr hsz hen)
end
end Go.Proofs.YtfmmllpjgkgeaaaGreatDoor
namespace Go.Proofs.YtfmmllpjgkgeaaaGreatDoor
open Go.RowKit Go.Maps Go.WideMaps

abbrev dotV (a n:Int):Value:=.agg #[.int .i64 a,.int .i64 n]
abbrev unitV:Value:=.agg #[]

theorem kInt:Keyed Tryz.prog 3:=int_keyed Tryz.underlying3
theorem laidA:laidOutB Tryz.prog=true:=by kernel_rfl
theorem rowDot:134<Tryz.prog.types.size:=of_decide_eq_true (by kernel_rfl)
theorem kDot:Keyed Tryz.prog 134:=Keyed.of_law (deep_law_laid laidA (m:=2) (by omega) rowDot (by kernel_rfl) (by kernel_rfl))
theorem zInt (w:World):(zeroValue 3).run Tryz.prog w=.ok (.int .i64 0) w:=by kernel_rfl
theorem zUnit (w:World):(zeroValue 69).run Tryz.prog w=.ok unitV w:=by kernel_rfl

theorem wf64 {n:Int} (h:-9223372036854775808<=n/\n<=9223372036854775807):(Lit.int .i64 n).wf=true:=WalkArith.wf_i64 (by omega)
theorem keyInt (a:Nat) (ha:a<=1000):keyOf Tryz.prog 3 (.int .i64 (a:Int))=some (.int .i64 (a:Int)):=keyOf_int_mk Tryz.underlying3 (wf64 (by omega))
theorem keyLitsDot (d:Nat) (a n:Int) (h1:(Lit.int .i64 a).wf=true) (h2:(Lit.int .i64 n).wf=true):Tryz.prog.keyLits (d+2) 134 [.int .i64 a,.int .i64 n]=some [.int .i64 a,.int .i64 n]:=by
 have hc:Tryz.prog.cellsOf 134=2:=by kernel_rfl
 have hi:Tryz.prog.cellsOf 3=1:=by kernel_rfl
 simp[Tryz.underlying134,hc,Program.keyLits,hi,Tryz.underlying3,h1,h2]
theorem keyDot (a n:Nat) (ha:a<=1000) (hn:n<=1000):∃ kl,keyOf Tryz.prog 134 (dotV a n)=some kl:=by
 have h1:(Lit.int .i64 (a:Int)).wf=true:=wf64 (by omega)
 have h2:(Lit.int .i64 (n:Int)).wf=true:=wf64 (by omega)
 have hk:Tryz.prog.keyType 134=true:=by kernel_rfl
 have hf:(dotV a n).formed Tryz.prog 134=true:=by
  have hc:Tryz.prog.cellsOf 134=2:=by kernel_rfl
  simp[Value.formed,Tryz.underlying134,hc]
 obtain ⟨d,hd⟩:∃ d,Tryz.prog.types.size+1=d+2:=⟨Tryz.prog.types.size-1,by have:=rowDot;omega⟩
 refine ⟨.string (keyBytes [.int .i64 (a:Int),.int .i64 (n:Int)]), ?_⟩
 unfold keyOf
 rw[Tryz.underlying134,hd]
 simp only[hk,hf,Bool.and_self,if_true]
 rw[show (dotV a n).cells.toList=[.int .i64 (a:Int),.int .i64 (n:Int)] from rfl,keyLitsDot d _ _ h1 h2]
 rfl

def who (d:Nat):Nat:=d / 512
def nth (d:Nat):Nat:=d % 512
def mkD (a n:Nat):Nat:=a*512+n
theorem who_mk {a n:Nat} (h:n<512):who (mkD a n)=a:=by unfold who mkD;omega
theorem nth_mk {a n:Nat} (h:n<512):nth (mkD a n)=n:=by unfold nth mkD;omega
theorem nth_lt (d:Nat):nth d<512:=by unfold nth;omega
theorem mk_wn (d:Nat):mkD (who d) (nth d)=d:=by unfold who nth mkD;omega
theorem dot_ext {x y:Nat} (h1:who x=who y) (h2:nth x=nth y):x=y:=by rw[<- mk_wn x,<- mk_wn y,h1,h2]
def okD (d:Nat):Prop:=who d<=5/\1<=nth d/\nth d<=501
abbrev dotE (d:Nat):Value:=dotV (who d:Int) (nth d:Int)
theorem dotV_mk {a n:Nat} (h:n<512):dotV (a:Int) (n:Int)=dotE (mkD a n):=by unfold dotE;rw[who_mk h,nth_mk h]
theorem dotE_inj {x y:Nat} (h:dotE x=dotE y):x=y:=by
 simp[dotV] at h
 exact dot_ext (by omega) (by omega)
theorem okD_lt {d:Nat} (h:okD d):d<3072:=by
 obtain ⟨h1,h2,h3⟩:=h
 have:=mk_wn d
 unfold mkD at this
 omega
theorem keyE (d:Nat) (ha:who d<=1000):∃ kl,keyOf Tryz.prog 134 (dotE d)=some kl:=keyDot (who d) (nth d) ha (by have:=nth_lt d;omega)


def MapO (P:Program) (k:TypeId) (w:World) (v:Value) (N:Nat) (m:Value->Option Value):Prop:=(v=.map none/\N=0/\m=fun _=>none)\/∃ b,v=.map (some b)/\MapV P k w b N m

section
variable {P:Program} {k:TypeId} {w:World} {v:Value} {N:Nat} {m:Value->Option Value}
theorem MapO.below {w':World} (h:MapO P k w v N m) (hb:Below w.heap.size w w'):MapO P k w' v N m:=by
 rcases h with h | ⟨b,h1,h2⟩
 ·exact Or.inl h
 ·exact Or.inr ⟨b,h1,h2.block (hb.block b h2.lt)⟩
theorem MapO.look {t e:TypeId} (h:MapO P k w v N m) (K:Keyed P k) (ht:P.underlying t=some (.map k e)) {z:Value} (hz:(zeroValue e).run P w=.ok z w) {key:Value} {kl:Lit} (hk:keyOf P k key=some kl) :
  (Instr.lookup t v key false).run P w=.ok ((m key).getD z) w:=by
 rcases h with ⟨rfl,_,rfl⟩ | ⟨b,rfl,h2⟩
 ·simpa using Maps.look_nil false K ht hz hk
 ·exact h2.look K ht hz hk
theorem MapO.look_ok {t e:TypeId} (h:MapO P k w v N m) (K:Keyed P k) (ht:P.underlying t=some (.map k e)) {z:Value} (hz:(zeroValue e).run P w=.ok z w) {key:Value} {kl:Lit} (hk:keyOf P k key=some kl) :
  (Instr.lookup t v key true).run P w=.ok (.tuple #[(m key).getD z,.bool (m key).isSome]) w:=by
 rcases h with ⟨rfl,_,rfl⟩ | ⟨b,rfl,h2⟩
 ·simpa using Maps.look_nil true K ht hz hk
 ·exact h2.look_ok K ht hz hk
theorem MapO.len {t e:TypeId} (h:MapO P k w v N m) (ht:P.underlying t=some (.map k e)) (ty:TypeId):(Builtin.len_ #[t] ty #[v]).run P w=.ok (.int .i64 (N:Int)) w:=by
 rcases h with ⟨rfl,rfl,rfl⟩ | ⟨b,rfl,h2⟩
 ·exact Maps.len_nil ht ty
 ·exact h2.len ht ty

variable {ops:Array Oper} {rest:List Oper} {o:Oper} {a:Act} {Q:Exit->Act->World->Prop}
theorem wpList_lookO (hg:o.guard=none) (mo x:Operand) (t:TypeId) (hop:o.op=Op.lookup t mo x false) (e:TypeId) (K:Keyed P k) (ht:P.underlying t=some (.map k e)) {z:Value} (hz:(zeroValue e).run P w=.ok z w)
  (hm:a.eval mo=v) (h:MapO P k w v N m) (key:Value) (kl:Lit) (hx:a.eval x=key) (hk:keyOf P k key=some kl) (u:Value) (hu:(m key).getD z=u)
  (hK:wpList P ops Q rest (a.put o.dst u) w):wpList P ops Q (o :: rest) a w:=by
 refine wpList_plain hg fun K' hK'=>?_
 unfold Oper.wp
 simp[execOp,hop,hm,hx,h.look K ht hz hk,hu,Result.andThen]
 exact hK' _ _ hK
theorem wpList_lookO_ok (hg:o.guard=none) (mo x:Operand) (t:TypeId) (hop:o.op=Op.lookup t mo x true) (e:TypeId) (K:Keyed P k) (ht:P.underlying t=some (.map k e)) {z:Value} (hz:(zeroValue e).run P w=.ok z w)
  (hm:a.eval mo=v) (h:MapO P k w v N m) (key:Value) (kl:Lit) (hx:a.eval x=key) (hk:keyOf P k key=some kl) (u:Value) (hu:(m key).getD z=u) (c:Bool) (hc:(m key).isSome=c)
  (hK:wpList P ops Q rest (a.put o.dst (.tuple #[u,.bool c])) w):wpList P ops Q (o :: rest) a w:=by
 refine wpList_plain hg fun K' hK'=>?_
 unfold Oper.wp
 simp[execOp,hop,hm,hx,h.look_ok K ht hz hk,hu,hc,Result.andThen]
 exact hK' _ _ hK
end

noncomputable def cm (c:Nat->Nat):Value->Option Value:=fun key=>@dite _ (∃ a:Nat,key=.int .i64 (a:Int)) (Classical.propDecidable _) (fun h=>if c (Classical.choose h)=0 then none else some (.int .i64 (c (Classical.choose h):Int))) (fun _=>none)
open Classical in
noncomputable def lm (L:Nat->Bool):Value->Option Value:=fun key=>if ∃ d,L d=true/\key=dotE d then some unitV else none

theorem cm_at (c:Nat->Nat) (a:Nat):cm c (.int .i64 (a:Int))=if c a=0 then none else some (.int .i64 (c a:Int)):=by
 unfold cm
 have h:∃ b:Nat,Value.int .i64 (a:Int)=.int .i64 (b:Int):=⟨a,rfl⟩
 rw[dif_pos h]
 have hs:=Classical.choose_spec h
 have e:a=Classical.choose h:=by injection hs with _ h2;omega
 rw[<- e]
theorem cm_shape {c:Nat->Nat} {key v:Value} (h:cm c key=some v):∃ a:Nat,key=.int .i64 (a:Int)/\v=.int .i64 (c a:Int)/\c a≠0:=by
 by_cases hk:∃ a:Nat,key=.int .i64 (a:Int)
 ·obtain ⟨a,rfl⟩:=hk
  rw[cm_at] at h
  split at h
  ·cases h
  ·rename_i h0;cases h;exact ⟨a,rfl,rfl,h0⟩
 ·unfold cm at h;rw[dif_neg hk] at h;cases h
theorem cm_ext {c:Nat->Nat} {m:Value->Option Value} (h1:∀ a:Nat,m (.int .i64 (a:Int))=if c a=0 then none else some (.int .i64 (c a:Int))) (h2:∀ key,(∀ a:Nat,key≠.int .i64 (a:Int))->m key=none):m=cm c:=by
 funext key
 by_cases h:∃ a:Nat,key=.int .i64 (a:Int)
 ·obtain ⟨a,rfl⟩:=h;rw[h1,cm_at]
 ·rw[h2 key (fun a e=>h ⟨a,e⟩)];unfold cm;rw[dif_neg h]
theorem cm_get (a:Nat) (c:Nat->Nat):(cm c (.int .i64 (a:Int))).getD (.int .i64 0)=.int .i64 (c a:Int):=by
 rw[cm_at]
 by_cases h:c a=0
 ·rw[if_pos h,h];(first | done | rfl)
 ·rw[if_neg h];(first | done | rfl)
theorem lm_some (d:Nat) (L:Nat->Bool):(lm L (dotE d)).isSome=L d:=by
 unfold lm
 by_cases h:L d=true
 ·rw[if_pos ⟨d,h,rfl⟩,h];(first | done | rfl)
 ·rw[if_neg,Bool.eq_false_iff.2 h];(first | done | rfl)
  rintro ⟨d',h1,h2⟩
  have:d=d':=dotE_inj h2
  exact h (this ▸ h1)
theorem lm_getD (L:Nat->Bool) (key:Value):(lm L key).getD unitV=unitV:=by
 unfold lm;split <;> rfl
theorem lm_shape {L:Nat->Bool} {key v:Value} (h:lm L key=some v):∃ d,L d=true/\key=dotE d/\v=unitV:=by
 unfold lm at h
 split at h
 ·rename_i hh;obtain ⟨d,h1,h2⟩:=hh;cases h;exact ⟨d,h1,h2,rfl⟩
 ·cases h

structure CtxV (w:World) (cv lv:Value) (c:Nat->Nat) (L:Nat->Bool):Prop where
 cs:∃ N,MapO Tryz.prog 3 w cv N (cm c)
 ls:∃ N,MapO Tryz.prog 134 w lv N (lm L)
 c501:∀ a,c a<=501
 c5:∀ a,c a≠0->a<=5
 l501:∀ d,L d=true->okD d/\c (who d)<nth d

theorem CtxV.below {w w':World} {cv lv:Value} {c:Nat->Nat} {L:Nat->Bool} (h:CtxV w cv lv c L) (hb:Below w.heap.size w w'):CtxV w' cv lv c L:=by
 obtain ⟨⟨N,h1⟩,⟨N',h2⟩,h3,h4,h5⟩:=h
 exact ⟨⟨N,h1.below hb⟩,⟨N',h2.below hb⟩,h3,h4,h5⟩

theorem next_any (w:World) (cv lv:Value) (a:Nat) (c:Nat->Nat) (L:Nat->Bool) (h:CtxV w cv lv c L) (ha:a<=5) :
  Calls Tryz.prog 146 #[.agg #[cv,lv],.int .i64 (a:Int)] w fun e w'=>e=.returned (.agg #[.int .i64 (a:Int),.int .i64 ((c a+1:Nat):Int)])/\Below w.heap.size w w':=by
 obtain ⟨⟨N,h1⟩,⟨N',h2⟩,h3,h4,h5⟩:=h
 have H1:Hid (∀ w',Below w.heap.size w w'->MapO Tryz.prog 3 w' cv N (cm c)):=fun w' hb=>h1.below hb
 have hk:=keyInt a (by omega)
 have hu:=cm_get a c
 have h3a:=h3 a
 generalize c a=ca at *
 clear h1 h2 h3 h4 h5
 go_enter Tryz.func146,Tryz.ntmps146
 go_wp2_with (first | (at_lookup;refine wpList_lookO rfl (.tmp 7) (.tmp 8) 97 rfl 3 kInt Tryz.underlying97 (zInt _) rfl (H1.out _ ?_) _ _ rfl hk _ hu ?_;(go_grown)))
 refine bodyPost_ret (v:=dotV a ((ca+1:Nat):Int)) (by simp[results,Tryz.results146,go_sem]) rfl ⟨rfl,by go_grown⟩

theorem has_any (w:World) (cv lv:Value) (c:Nat->Nat) (d:Nat) (L:Nat->Bool) (h:CtxV w cv lv c L) (ha:who d<=5) :
  Calls Tryz.prog 210 #[.agg #[cv,lv],dotE d] w fun e w'=>e=.returned (.bool (decide (nth d<=c (who d)) || L d))/\Below w.heap.size w w':=by
 obtain ⟨⟨N,h1⟩,⟨N',h2⟩,h3,h4,h5⟩:=h
 have H1:Hid (∀ w',Below w.heap.size w w'->MapO Tryz.prog 3 w' cv N (cm c)):=fun w' hb=>h1.below hb
 have H2:Hid (∀ w',Below w.heap.size w w'->MapO Tryz.prog 134 w' lv N' (lm L)):=fun w' hb=>h2.below hb
 have hk:=keyInt (who d) (by omega)
 obtain ⟨kl,hkl⟩:=keyE d (by omega)
 have hu:=cm_get (who d) c
 have hu2:=lm_getD L (dotE d)
 have hc2:=lm_some d L
 have h3a:=h3 (who d)
 have hn:=nth_lt d
 unfold dotE at *
 generalize L d=ln at *
 generalize c (who d)=ca at *
 generalize who d=a at *
 generalize nth d=n at *
 clear h1 h2 h3 h4 h5
 by_cases hnc:n<=ca
 ·have hd:decide (n<=ca)=true:=by simpa using hnc
  rw[hd]
  go_enter Tryz.func210,Tryz.ntmps210
  go_wp2_with (first | (at_lookup;refine wpList_lookO rfl (.tmp 10) (.tmp 12) 97 rfl 3 kInt Tryz.underlying97 (zInt _) rfl (H1.out _ ?_) _ _ rfl hk _ hu ?_;(go_grown)))
  go_ret
  exact ⟨rfl,by go_grown⟩
 ·have hd:decide (n<=ca)=false:=by simpa using hnc
  rw[hd]
  go_enter Tryz.func210,Tryz.ntmps210
  go_wp2_with (first | (at_lookup;refine wpList_lookO rfl (.tmp 10) (.tmp 12) 97 rfl 3 kInt Tryz.underlying97 (zInt _) rfl (H1.out _ ?_) _ _ rfl hk _ hu ?_;(go_grown)) | (at_lookup;refine wpList_lookO_ok rfl (.tmp 17) (.tmp 18) 98 rfl 69 kDot Tryz.underlying98 (zUnit _) rfl (H2.out _ ?_) _ _ rfl hkl _ hu2 _ hc2 ?_;(go_grown)))
  go_ret
  exact ⟨by simp,by go_grown⟩
end Go.Proofs.YtfmmllpjgkgeaaaGreatDoor
namespace Go.Proofs.YtfmmllpjgkgeaaaGreatDoor
open Go.RowKit Go.Maps Go.WideMaps Go.ChangeMaps Go.MapKept

structure CtxW (w:World) (cb lb:Nat) (c:Nat->Nat) (L:Nat->Bool):Prop where
 cs:∃ N,MapV Tryz.prog 3 w cb N (cm c)
 ls:∃ N,MapV Tryz.prog 134 w lb N (lm L)
 ne:cb≠lb
 c501:∀ a,c a<=501
 c5:∀ a,c a≠0->a<=5
 l501:∀ d,L d=true->okD d/\c (who d)<nth d
theorem CtxW.toV {w:World} {cb lb:Nat} {c:Nat->Nat} {L:Nat->Bool} (h:CtxW w cb lb c L):CtxV w (.map (some cb)) (.map (some lb)) c L:=by
 obtain ⟨⟨N,h1⟩,⟨N',h2⟩,_,h3,h4,h5⟩:=h
 exact ⟨⟨N,Or.inr ⟨_,rfl,h1⟩⟩,⟨N',Or.inr ⟨_,rfl,h2⟩⟩,h3,h4,h5⟩
theorem CtxW.lt {w:World} {cb lb:Nat} {c:Nat->Nat} {L:Nat->Bool} (h:CtxW w cb lb c L):cb<w.heap.size/\lb<w.heap.size:=by
 obtain ⟨⟨N,h1⟩,⟨N',h2⟩,_⟩:=h;exact ⟨h1.lt,h2.lt⟩
theorem CtxW.chg {M:Nat->Prop} {w w':World} {cb lb:Nat} {c:Nat->Nat} {L:Nat->Bool} (h:CtxW w cb lb c L) (hc:Chg M w w') (h1:¬M cb) (h2:¬M lb):CtxW w' cb lb c L:=by
 obtain ⟨⟨N,g1⟩,⟨N',g2⟩,r1,r2,r3,r4⟩:=h
 exact ⟨⟨N,g1.block (hc.block _ g1.lt h1)⟩,⟨N',g2.block (hc.block _ g2.lt h2)⟩,r1,r2,r3,r4⟩
theorem CtxW.below {w w':World} {cb lb:Nat} {c:Nat->Nat} {L:Nat->Bool} (h:CtxW w cb lb c L) (hb:Below w.heap.size w w'):CtxW w' cb lb c L:=h.chg (M:=fun _=>False) (Chg.of_below hb) (fun h=>h) (fun h=>h)

theorem nodup_lt:∀ (M:Nat) (l:List Nat),l.Pairwise (fun x y=>x≠y)->(∀ x∈l,x<M)->l.length<=M:=by
 intro M
 induction M with
 | zero=>intro l _ h;cases l with | nil=>simp | cons x r=>exact absurd (h x (by simp)) (by omega)
 | succ M ih =>
  intro l hp h
  by_cases hm:M∈l
  ·have h1:=ih (l.erase M) (hp.sublist List.erase_sublist) (fun x hx=>by
    have h2:=List.mem_of_mem_erase hx
    have h3:=h x h2
    have h4:x≠M:=fun e=>by
     subst e
     exact (List.Nodup.not_mem_erase (show l.Nodup from hp)) hx
    omega)
   have:=List.length_erase_of_mem hm
   omega
  ·have:=ih l hp (fun x hx=>by have:=h x hx;have:x≠M:=fun e=>hm (e ▸ hx);omega)
   omega

theorem MapV.bound {P:Program} {k:TypeId} {w:World} {b N M:Nat} {m:Value->Option Value} (h:MapV P k w b N m) (K:Keyed P k) (f:Nat->Value) (hf:∀ key,(m key).isSome=true->∃ n,n<M/\key=f n):N<=M:=by
 obtain ⟨D,h1,h2,h3⟩:=h
 obtain ⟨es,clock,hb,F,hs,rfl⟩:=h1
 have hst:=(stamped_iff es clock).1 F.stamped
 rw[<- h2]
 simp only[Maps.size,length_sorted,List.length_map]
 have hx:∀ x∈es.toList,∃ n,n<M/\x.key=f n:=by
  intro x hx
  obtain ⟨y,hy⟩:=F.reads x hx
  have hkey:=WideElems.rd_key hy
  refine hf _ ?_
  rw[<- (h3.1 _ _ hkey).1]
  exact List.any_eq_true.2 ⟨WideElems.rg P k idR x,mem_sorted.2 (List.mem_map.2 ⟨x,hx,rfl⟩),by rw[WideElems.rg_of hy];exact WideAt.sameKey_self (K.key hkey)⟩
 obtain ⟨g,hg⟩:∃ g:MapEntry->Nat,∀ x∈es.toList,g x<M/\x.key=f (g x):=by
  refine ⟨fun x=>@dite Nat (x∈es.toList) (Classical.propDecidable _) (fun h=>Classical.choose (hx x h)) (fun _=>0),fun x h=>?_⟩
  dsimp only
  rw[dif_pos h]
  exact Classical.choose_spec (hx x h)
 have hp:(es.toList.map g).Pairwise (fun x y=>x≠y):=by
  rw[List.pairwise_map]
  refine List.Pairwise.imp_of_mem ?_ hst.2.2
  intro x y hx hy hne e
  exact hne (by rw[(hg x hx).2,(hg y hy).2,e])
 have:=nodup_lt M _ hp (fun n hn=>by obtain ⟨x,hx,rfl⟩:=List.mem_map.1 hn;exact (hg x hx).1)
 simpa using this

theorem loose_bound {w:World} {lb N:Nat} {L:Nat->Bool} (h:MapV Tryz.prog 134 w lb N (lm L)) (hl:∀ d,L d=true->okD d):N<=3072:=by
 refine h.bound kDot (fun d=>dotE d) ?_
 intro key hk
 unfold lm at hk
 split at hk
 ·rename_i h;obtain ⟨d,h1,h2⟩:=h;exact ⟨d,okD_lt (hl d h1),h2⟩
 ·cases hk
theorem counts_bound {w:World} {cb N:Nat} {c:Nat->Nat} (h:MapV Tryz.prog 3 w cb N (cm c)) (h5:∀ a,c a≠0->a<=5):N<=6:=by
 refine h.bound kInt (fun a=>.int .i64 (a:Int)) ?_
 intro key hk
 obtain ⟨v,hv⟩:=Option.isSome_iff_exists.1 hk
 obtain ⟨a,h1,_,h2⟩:=cm_shape hv
 exact ⟨a,by have:=h5 a h2;omega,h1⟩

def inc (c:Nat->Nat) (a:Nat):Nat->Nat:=fun x=>if x=a then c a+1 else c x
theorem inc_same (c:Nat->Nat) (a:Nat):inc c a a=c a+1:=if_pos rfl
theorem inc_oth {c:Nat->Nat} {a x:Nat} (h:x≠a):inc c a x=c x:=if_neg h
theorem cm_upd (a:Nat) (c:Nat->Nat):upd (cm c) (.int .i64 (a:Int)) (.int .i64 ((c a+1:Nat):Int))=cm (inc c a):=by
 apply cm_ext
 ·intro x
  by_cases e:x=a
  ·subst e;rw[upd_same,inc_same,if_neg (by omega)]
  ·rw[upd_other (fun h=>e (by simp at h;omega)),cm_at,inc_oth e]
 ·intro key hk
  rw[upd_other (hk a)]
  cases h:cm c key with
  | none=>rfl
  | some v=>obtain ⟨x,hx,_⟩:=cm_shape h;exact absurd hx (hk x)
theorem lm_upd (d:Nat) (L:Nat->Bool):upd (lm L) (dotE d) unitV=lm (fun k=>L k || k == d):=by
 funext key
 by_cases e:key=dotE d
 ·subst e;rw[upd_same];unfold lm;rw[if_pos ⟨d,by simp,rfl⟩]
 ·rw[upd_other e]
  unfold lm
  congr 1
  apply propext
  constructor
  ·rintro ⟨k,h1,h2⟩;exact ⟨k,by simp[h1],h2⟩
  ·rintro ⟨k,h1,h2⟩
   simp at h1
   rcases h1 with h1 | h1
   ·exact ⟨k,h1,h2⟩
   ·subst h1;exact absurd h2 e
theorem lm_era (d:Nat) (L:Nat->Bool):era (lm L) (dotE d)=lm (fun k=>L k && k != d):=by
 funext key
 by_cases e:key=dotE d
 ·subst e;rw[era_same];unfold lm;rw[if_neg]
  rintro ⟨k,h1,h2⟩
  have:=dotE_inj h2
  subst this
  simp at h1
 ·rw[era_other e]
  unfold lm
  congr 1
  apply propext
  constructor
  ·rintro ⟨k,h1,h2⟩;exact ⟨k,by simp[h1];rintro rfl;exact e h2,h2⟩
  ·rintro ⟨k,h1,h2⟩;simp at h1;exact ⟨k,h1.1,h2⟩

structure CG (w:World) (B cb lb:Nat) (c:Nat->Nat) (L:Nat->Bool) (wx:World):Prop where
 ctx:CtxW wx cb lb c L
 b0:wx.cell? ⟨B,0,none⟩=some (.map (some cb))
 b1:wx.cell? ⟨B,1,none⟩=some (.map (some lb))
 old:cb<w.heap.size/\lb<w.heap.size
 new:w.heap.size<=B
 lt:B<wx.heap.size
 chg:Chg (fun k=>k=cb\/k=lb) w wx
theorem CG.below {w:World} {B cb lb:Nat} {c:Nat->Nat} {L:Nat->Bool} {wx wy:World} (h:CG w B cb lb c L wx) (hb:Below wx.heap.size wx wy):CG w B cb lb c L wy :=
 ⟨h.ctx.below hb,(hb.cell (p:=⟨B,0,none⟩) h.lt).trans h.b0,(hb.cell (p:=⟨B,1,none⟩) h.lt).trans h.b1,h.old,h.new,Nat.lt_of_lt_of_le h.lt hb.size,h.chg.below hb⟩
theorem CG.grown {w:World} {B cb lb:Nat} {c c':Nat->Nat} {L L':Nat->Bool} {wx wy:World} {k:Nat} (h:CG w B cb lb c L wx) (hg:wx.grownBy wy (some k)) (hk:k=cb\/k=lb) (hc:CtxW wy cb lb c' L'):CG w B cb lb c' L' wy:=by
 have hB:some B≠some k:=fun e=>by cases e;have:=h.old;have:=h.new;omega
 have hcell:∀ i,wy.cell? ⟨B,i,none⟩=wx.cell? ⟨B,i,none⟩:=fun i=>World.cell?_of_block (w:=wx) (hg.block B h.lt hB)
 exact ⟨hc,(hcell 0).trans h.b0,(hcell 1).trans h.b1,h.old,h.new,Nat.lt_of_lt_of_le h.lt hg.size,h.chg.grown hg (fun j e=>by cases e;exact Or.inl hk)⟩
end Go.Proofs.YtfmmllpjgkgeaaaGreatDoor

