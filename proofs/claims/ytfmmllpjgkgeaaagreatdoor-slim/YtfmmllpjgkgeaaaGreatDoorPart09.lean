import Derived.Laws.Runes
import Derived.Laws.RangeAny
import Derived.WalkMore
import Derived.Lib.OthersKept
import Derived.Test.YtfmmllpjgkgeaaaGreatDoorPart03
import Derived.Test.YtfmmllpjgkgeaaaGreatDoorPart08
set_option linter.unusedVariables false
set_option linter.unusedSimpArgs false
set_option maxHeartbeats 16000000
set_option maxRecDepth 100000
namespace Go.Proofs.YtfmmllpjgkgeaaaGreatDoor
open Go.RowKit

theorem splitAcc_none (c:UInt8) (l cur:Thk.Bs) (h:¬c∈l):Thk.splitAcc c cur l=[cur ++ l]:=by
 rw[splitAcc_index,if_pos]
 have h1:=index_ge l c
 have h2:=(not_congr (index_mem l c)).2 h
 omega
theorem splitAcc_last (c:UInt8):∀ (l cur:Thk.Bs) (i:Nat),l[i]? = some c->(∀ j,i<j->l[j]?≠some c)->(Thk.splitAcc c cur l).getLast? = some (l.drop (i+1)):=by
 intro l
 induction l with
 | nil=>intro cur i h;simp at h
 | cons x r ih =>
  intro cur i hi hj
  cases i with
  | zero =>
   have hx:x=c:=by simpa using hi
   subst hx
   have hn:¬x∈r:=fun hm=>by
    obtain ⟨j,hj1,hj2⟩:=List.getElem_of_mem hm
    exact hj (j+1) (by omega) (by simp[List.getElem?_eq_getElem hj1,hj2])
   rw[Thk.splitAcc_eq,splitAcc_none _ _ _ hn];simp
  | succ i =>
   have hi':r[i]? = some c:=by simpa using hi
   have hj':∀ j,i<j->r[j]?≠some c:=fun j h=>by have:=hj (j+1) (by omega);simpa using this
   by_cases hx:x=c
   ·subst hx
    rw[Thk.splitAcc_eq,List.getLast?_cons,ih [] i hi' hj'];simp
   ·rw[Thk.splitAcc_ne _ _ _ _ hx,ih _ i hi' hj'];simp

theorem data_get (s:ByteArray) (j:Nat) (h:j<s.size):s.data[j]! = s[j]:=by
 rw[getElem!_pos s.data j h];(first | done | rfl)

theorem kind_at (s:ByteArray) (hp:Thk.path (toL s)=true):∃ k:Nat,Lib.lastIndexByte s 47+1=(k:Int)/\∃ h:k<s.size,s[k]=Thk.kindOf (toL s):=by
 obtain ⟨hn,h2,h0⟩:=Thk.path_last _ hp
 have hl:(Thk.split 47 (toL s)).getLast? = some ((Thk.split 47 (toL s))[(Thk.split 47 (toL s)).length-1]'(by omega)):=by
  rw[List.getLast?_eq_getElem?,List.getElem?_eq_getElem]
 have key:∀ k:Nat,(Thk.split 47 (toL s)).getLast? = some ((toL s).drop k)->∃ h:k<s.size,s[k]=Thk.kindOf (toL s):=by
  intro k hk
  rw[hl] at hk
  simp only[Option.some.injEq] at hk
  rw[hk] at h2 h0
  simp only[List.length_drop,toL_length] at h2
  have hks:k<s.size:=by omega
  refine ⟨hks, ?_⟩
  rw[List.getElem?_drop,Nat.add_zero,List.getElem?_eq_getElem (by rw[toL_length];exact hks),toL_get s k hks] at h0
  simpa using h0
 rcases Lib.lastIdx_spec s 47 s.size with ⟨h1,hno⟩ | ⟨i,hi,h1,hc,hno⟩
 ·refine ⟨0,by unfold Lib.lastIndexByte;rw[h1];rfl,key 0 ?_⟩
  have hmem:¬(47:UInt8)∈toL s:=fun hm=>by
   obtain ⟨j,hj1,hj2⟩:=List.getElem_of_mem hm
   rw[toL_length] at hj1
   have:=hno j hj1
   rw[data_get s j hj1,<- toL_get s j hj1,hj2] at this
   exact this rfl
  unfold Thk.split;rw[splitAcc_none _ _ _ hmem];simp
 ·refine ⟨i+1,by unfold Lib.lastIndexByte;rw[h1];omega,key (i+1) ?_⟩
  unfold Thk.split
  apply splitAcc_last
  ·rw[List.getElem?_eq_getElem (by rw[toL_length];exact hi),toL_get s i hi]
   rw[data_get s i hi] at hc
   congr 1
   apply UInt8.toNat_inj.1
   have:(47:UInt8).toNat=47:=rfl
   omega
  ·intro j hj e
   have hjs:j<s.size:=by
    rcases Nat.lt_or_ge j s.size with h | h
    ·exact h
    ·rw[List.getElem?_eq_none (by rw[toL_length];exact h)] at e;cases e
   rw[List.getElem?_eq_getElem (by rw[toL_length];exact hjs),toL_get s j hjs] at e
   have:=hno j hj hjs
   rw[data_get s j hjs] at this
   simp only[Option.some.injEq] at e
   rw[e] at this;exact this rfl

theorem Kind_any (s:ByteArray) (w:World) (hs:s.size<=1048576) (hp:Thk.path (toL s)=true) :
  Calls Tryz.prog 83 #[.string s] w fun e w'=>e=.returned (.int .u8 ((Thk.kindOf (toL s)).toNat:Int))/\w'=w:=by
 obtain ⟨k,h1,h2,h3⟩:=kind_at s hp
 have Hc:Hid (_):=Tryz.strings_LastIndexByte s 47 (by omega) w
 obtain ⟨ix,hix⟩:∃ ix,ix=Lib.lastIndexByte s 47:=⟨_,rfl⟩
 rw[<- hix] at h1
 have hixe:ix=(k:Int)-1:=by omega
 have H3:Hid (_):=h3
 clear h3 h1 hp
 go_enter Tryz.func83,Tryz.ntmps83
 go_wp2_with fail
 refine Calls.mono Hc.out ?_
 rintro e w' ⟨rfl,rfl⟩
 rw[<- hix,hixe]
 clear hix hixe
 go_wp2
 go_ret
 exact ⟨ret_int (by rw[H3.out]),rfl⟩

def actsOf (k:UInt8):Thk.Bs:=if (k.toNat:Int)=115 then [43,45,33] else if (k.toNat:Int)=102 then [94,95,33] else if (k.toNat:Int)=114 then [61,33] else if (k.toNat:Int)=99 then [62,33] else [33]

theorem actionsOf_any (k:UInt8) (w:World) :
  Calls Tryz.prog 82 #[.int .u8 (k.toNat:Int)] w fun e w'=>∃ t,e=.returned (.string t)/\toL t=actsOf k/\w'=w:=by
 go_enter Tryz.func82,Tryz.ntmps82
 go_wp2
 all_goals
  go_ret
  refine ⟨_,rfl, ?_,rfl⟩
  simp only[beq_iff_eq,beq_eq_false_iff_ne] at *
  unfold actsOf
  simp[*]
  try rfl

theorem IsEffect_any (p:ByteArray) (a:UInt8) (v:ByteArray) (n:Int) (w:World) :
  Calls Tryz.prog 90 #[.agg #[.string p,.int .u8 (a.toNat:Int),.string v,.int .i64 n]] w fun e w'=>e=.returned (.bool (effB a))/\Below w.heap.size w w':=by
 go_enter Tryz.func90,Tryz.ntmps90
 go_wp2
 all_goals
  go_ret
  refine ⟨ret_bool ?_,(Below.refl _ _).alloc (Nat.le_refl _) _⟩
  simp only[beq_iff_eq,beq_eq_false_iff_ne] at *
  unfold effB
  rw[Bool.eq_iff_iff]
  simp
  try omega


theorem begins_prefix (l p:Thk.Bs):Thk.begins l p=(l == p || (p ++ [47]).isPrefixOf l):=by
 unfold Thk.begins
 cases h:(l == p)
 ·simp only[Bool.false_or]
  rw[Bool.eq_iff_iff]
  simp only[Bool.and_eq_true,decide_eq_true_eq,beq_iff_eq,List.isPrefixOf_iff_prefix]
  constructor
  ·rintro ⟨⟨h1,h2⟩,h3⟩
   rw[List.getElem?_eq_getElem h1] at h3
   have h4:l[p.length]=47:=by
    apply UInt8.toNat_inj.1
    simpa using h3
   refine ⟨l.drop (p.length+1), ?_⟩
   conv=>rhs;rw[<- List.take_append_drop p.length l,h2,List.drop_eq_getElem_cons h1,h4]
   simp
  ·rintro ⟨t,rfl⟩
   simp
 ·rfl

def stepSeg (p l:Thk.Bs):Thk.Bs:=(Thk.split 47 (l.drop (p.length+1))).headD []

theorem cut_head (l:Thk.Bs):(Lib.cut l [47]).1=(Thk.split 47 l).headD []:=by
 unfold Lib.cut
 rw[Lib.index_one,split_index]
 have hge:=index_ge l 47
 by_cases h:Lib.indexByte l 47 = -1
 ·rw[if_neg (by rw[h];omega),if_pos h];(first | done | rfl)
 ·rw[if_pos (by omega),if_neg h];(first | done | rfl)

theorem Step_any (p l:ByteArray) (m:Int) (w:World) (hp:p.size<=1048576) (hl:l.size<=1048576) (hm:w.cell? ⟨0,0,none⟩=some (.int .i64 m)) :
  Calls Tryz.prog 217 #[.string p,.string l] w fun e w'=>∃ t,e=.returned (.tuple #[.string t,.bool ((toL p ++ [47]).isPrefixOf (toL l))])/\((toL p ++ [47]).isPrefixOf (toL l)=true->toL t=stepSeg (toL p) (toL l))/\t.size<=l.size/\Below w.heap.size w w':=by
 have Hc1:Hid (_):=Tryz.strings_CutPrefix l (p ++ ⟨#[47]⟩) w
 have e1:(p ++ ⟨#[47]⟩:ByteArray).data.toList=toL p ++ [47]:=toL_append p ⟨#[47]⟩
 have hsz:p.size+1<=9223372036854775807:=by omega
 cases hx:(toL p ++ [47]).isPrefixOf (toL l)
 ·have hh:Hid (Lib.hasPrefix l.data.toList (p ++ ⟨#[47]⟩:ByteArray).data.toList=false):=by unfold Hid Lib.hasPrefix;rw[e1];exact hx
  clear hx hm e1
  go_enter Tryz.func217,Tryz.ntmps217
  go_wp2_with fail
  refine Calls.mono Hc1.out ?_
  rw[hh.out]
  rintro e w' ⟨rfl,rfl⟩
  go_wp2
  go_ret2
  exact ⟨ByteArray.empty,rfl,(fun h=>by cases h),Nat.zero_le _,Below.refl _ _⟩
 ·have hh:Hid (Lib.hasPrefix l.data.toList (p ++ ⟨#[47]⟩:ByteArray).data.toList=true):=by unfold Hid Lib.hasPrefix;rw[e1];exact hx
  have ht:Hid (Lib.trimPrefix l.data.toList (p ++ ⟨#[47]⟩:ByteArray).data.toList=(toL l).drop (p.size+1)):=by
   unfold Hid Lib.trimPrefix;rw[hh.out,if_pos rfl,e1]
   congr 1;simp[toL_length]
  obtain ⟨q,hq⟩:∃ q:ByteArray,q=⟨((toL l).drop (p.size+1)).toArray⟩:=⟨_,rfl⟩
  have hqs:q.size<=l.size:=by
   have:q.size=((toL l).drop (p.size+1)).length:=by rw[hq];(first | done | rfl)
   rw[this,List.length_drop,toL_length];omega
  have Hc2:Hid (_):=Tryz.strings_Cut q ⟨#[47]⟩ m w (by omega) hm
  have Hq:Hid (toL q=(toL l).drop (p.size+1)):=by unfold Hid;rw[hq];(first | done | rfl)
  obtain ⟨t,htt⟩:∃ t:ByteArray,t=⟨(Lib.cut q.data.toList [47]).1.toArray⟩:=⟨_,rfl⟩
  have Ht:Hid (toL t=stepSeg (toL p) (toL l)):=by
   have h1:toL t=(Lib.cut (toL q) [47]).1:=by rw[htt];(first | done | rfl)
   unfold Hid stepSeg
   rw[h1,cut_head,Hq.out,toL_length]
  have Hts:Hid (t.size<=l.size):=by
   unfold Hid
   have h1:t.size=(Lib.cut (toL q) [47]).1.length:=by rw[htt];(first | done | rfl)
   have h2:(Lib.cut (toL q) [47]).1.length<=(toL q).length:=by
    unfold Lib.cut;split
    ·simp;omega
    ·simp
   rw[toL_length] at h2;omega
  clear hx hm e1
  go_enter Tryz.func217,Tryz.ntmps217
  go_wp2_with fail
  refine Calls.mono Hc1.out ?_
  rw[hh.out,ht.out,<- hq]
  rintro e w' ⟨rfl,hw'⟩
  subst hw'
  clear hq
  go_wp2_with fail
  refine Calls.mono Hc2.out ?_
  rintro e w2 ⟨rfl,n,rfl⟩
  rw[<- htt]
  clear htt
  go_wp2
  go_ret2
  exact ⟨t,rfl,(fun _=>Ht.out),Hts.out,below_drewN (Below.refl _ _) _⟩

theorem Holds_any (p l:ByteArray) (m:Int) (w:World) (hp:p.size<=1048576) (hl:l.size<=1048576) (hm:w.cell? ⟨0,0,none⟩=some (.int .i64 m)) :
  Calls Tryz.prog 206 #[.string p,.string l] w fun e w'=>e=.returned (.bool (Thk.begins (toL l) (toL p)))/\Below w.heap.size w w':=by
 have Hs:Hid (_):=Step_any p l m w hp hl hm
 have Hb:Hid (Thk.begins (toL l) (toL p)=((toL p == toL l) || (toL p ++ [47]).isPrefixOf (toL l))):=by
  unfold Hid;rw[begins_prefix];congr 1;rw[Bool.eq_iff_iff];simp;exact eq_comm
 clear hm
 go_enter Tryz.func206,Tryz.ntmps206
 go_wp2_with fail
 refine Calls.mono Hs.out ?_
 rintro e w1 ⟨t,rfl,_,_,hb1⟩
 generalize (toL p ++ [47]).isPrefixOf (toL l)=x at *
 cases heq:(p.toList == l.toList)
 ·have h1:(toL p == toL l)=false:=by rw[toList_eq,toList_eq] at heq;exact heq
  have Hf:Hid (Thk.begins (toL l) (toL p)=x):=by unfold Hid;rw[Hb.out,h1];(first | done | rfl)
  clear h1 Hb
  go_wp2
  go_ret
  exact ⟨ret_bool Hf.out.symm,hb1⟩
 ·have h1:(toL p == toL l)=true:=by rw[toList_eq,toList_eq] at heq;exact heq
  have Hf:Hid (Thk.begins (toL l) (toL p)=true):=by unfold Hid;rw[Hb.out,h1];(first | done | rfl)
  clear h1 Hb
  go_wp2
  go_ret
  exact ⟨ret_bool Hf.out.symm,hb1⟩

theorem Covers_any (dp dv ep ev:ByteArray) (da ea:UInt8) (dn en:Int) (m:Int) (w:World) (h1:dp.size<=1048576) (h2:ep.size<=1048576) (hm:w.cell? ⟨0,0,none⟩=some (.int .i64 m)) :
  Calls Tryz.prog 149 #[.agg #[.string dp,.int .u8 (da.toNat:Int),.string dv,.int .i64 dn],.agg #[.string ep,.int .u8 (ea.toNat:Int),.string ev,.int .i64 en]] w
   fun e w'=>e=.returned (.bool (covB (toL dp) da (toL dv) (toL ep) ea (toL ev)))/\Below w.heap.size w w':=by
 have hmB:Hid (∀ wx,Below w.heap.size w wx->wx.cell? ⟨0,0,none⟩=some (.int .i64 m)):=fun wx hx=>(hx.cell (p:=⟨0,0,none⟩) (block_lt_of_cell hm)).trans hm
 clear hm
 go_enter Tryz.func149,Tryz.ntmps149
 go_wp2_with (go_at_call 206;refine (Holds_any dp ep m _ h1 h2 (hmB.out _ (((Below.refl _ _).alloc (Nat.le_refl _) _).alloc (by simp) _))).mono ?_;rintro e w1 ⟨rfl,hb1⟩)
 ·go_ret
  rename_i h33
  refine ⟨ret_bool ?_,(((Below.refl _ _).alloc (Nat.le_refl _) _).alloc (by simp) _).trans (hb1.mono (by simp;omega))⟩
  unfold covB;rw[if_pos (by simpa using h33)]
 all_goals
  go_ret
  refine ⟨ret_bool ?_,((Below.refl _ _).alloc (Nat.le_refl _) _).alloc (by simp) _⟩
  simp only[toList_eq,Bool.not_eq_true',Bool.not_eq_false',beq_iff_eq,beq_eq_false_iff_ne] at *
  unfold covB
  by_cases e1:(ea.toNat:Int)=43
  ·simp_all [toL]
   try (rw[Bool.eq_iff_iff];simp only[beq_iff_eq];exact ⟨Eq.symm,Eq.symm⟩)
  ·by_cases e2:(ea.toNat:Int)=94
   ·simp_all [toL]
   ·by_cases e3:(ea.toNat:Int)=61
    ·simp_all [toL]
    ·simp_all [toL]


theorem grow_below {B:Nat} {a w:World} (h:Below B a w) (hB:B<=w.heap.size) (os:Array Obj):Below B a (Sort.grow w os) :=
 h.trans ⟨rfl,rfl,rfl,by simp[Sort.grow],fun k hk=>by simp only[Sort.grow];rw[Array.getElem?_append_left (by omega)]⟩

theorem parse_range (l:List UInt8) (v:Int) (h:Lib.parseIntB 64 l=.ok v):-9223372036854775808<=v/\v<=9223372036854775807:=by
 unfold Lib.parseIntB at h
 split at h
 ·cases h
 ·simp only at h
  split at h
  ·cases h
  ·cases h
  ·split at h
   ·cases h
   ·split at h
    ·cases h
    ·rename_i c r _ u hu n1 n2
     simp only[Lib.NumEnd.ok.injEq] at h
     simp at n1 n2
     split at h
     ·rename_i h45
      have:=n2 h45;omega
     ·rename_i h45
      have:=n1 h45;omega

theorem readNumber_any (s:ByteArray) (w:World) (hs:s.size<=1048576) (hG:Glob w) :
  Calls Tryz.prog 145 #[.string s] w fun e w'=>∃ v,e=.returned (.tuple #[.int .i64 v,.bool (Thk.num (toL s)).isSome])/\(∀ n,Thk.num (toL s)=some n->v=n)/\Below w.heap.size w w':=by
 have hq:Thk.num (toL s)=Thk.progNum (toL s):=(Thk.progNum_eq _).symm
 unfold Thk.progNum at hq
 cases hp:Lib.parseIntB 64 (toL s) with
 | ok v =>
  have hr:=parse_range _ _ hp
  have Hc1:Hid (_):=Tryz.strconv_ParseInt_10_at64_ok s (by omega) v hp w
  rw[hp] at hq
  simp only at hq
  have HG:Hid (Glob w):=hG
  clear hG hp
  go_enter Tryz.func145,Tryz.ntmps145
  go_wp2_with fail
  refine Calls.mono Hc1.out ?_
  rintro e w1 ⟨rfl,hw1⟩
  have Hb1:Hid (Below w.heap.size w w1):=by
   rcases hw1 with rfl | ⟨t,rfl⟩
   ·exact Below.refl _ _
   ·exact Lib.bytesWorld_below _ _ _
  clear hw1
  have Hc2:Hid (_):=Tryz.strconv_FormatInt_10 v hr.1 hr.2 w1 (HG.out.mono Hb1.out).tab
  go_wp2_with fail
  refine Calls.mono Hc2.out ?_
  rintro e w2 ⟨rfl,hw2⟩
  have Hb2:Hid (Below w.heap.size w w2):=by
   obtain ⟨k,os,rfl⟩:=hw2
   exact grow_below (below_drewN Hb1.out k) Hb1.out.size os
  clear hw2 Hc1 Hc2
  obtain ⟨q,hqq⟩:∃ q:ByteArray,q=⟨(Lib.itoa v).toArray⟩:=⟨_,rfl⟩
  rw[<- hqq]
  have Hq:Hid (toL q=Lib.itoa v):=by rw[hqq];(first | done | rfl)
  clear hqq
  cases heq:(q.toList == s.toList)
  ·have hne:¬(Lib.itoa v=toL s):=by
    have h1:(toL q == toL s)=false:=by rw[toList_eq,toList_eq] at heq;exact heq
    rw[Hq.out] at h1;simpa using h1
   have Hf:Hid (Thk.num (toL s)=none):=by unfold Hid;rw[hq,if_neg (fun h=>hne h.1)]
   clear hq hne
   go_wp2
   go_ret2
   refine ⟨0, ?_, ?_,Hb2.out⟩
   ·rw[Hf.out];(first | done | rfl)
   ·intro n hn;rw[Hf.out] at hn;cases hn
  ·have he:Lib.itoa v=toL s:=by
    have h1:(toL q == toL s)=true:=by rw[toList_eq,toList_eq] at heq;exact heq
    rw[Hq.out] at h1;simpa using h1
   have Hf:Hid (Thk.num (toL s)=if -1000000000<=v/\v<=1000000000 then some v else none):=by unfold Hid;rw[hq];simp[he]
   clear hq he
   go_wp2
   all_goals
    go_ret2
    refine ⟨v, ?_, ?_,Hb2.out⟩
    ·rw[Hf.out];split <;> simp_all <;> omega
    ·intro n hn;rw[Hf.out] at hn;split at hn <;> simp_all
 | range =>
  obtain ⟨ev,hv,hev⟩:=hG.rng
  have Hc1:Hid (_):=Tryz.strconv_ParseInt_10_at64_range s (by omega) hp ev w hv hev
  rw[hp] at hq
  have Hf:Hid (Thk.num (toL s)=none):=hq
  clear hG hp hq hv hev
  go_enter Tryz.func145,Tryz.ntmps145
  go_wp2_with fail
  refine Calls.mono Hc1.out ?_
  rintro e w1 ⟨N,rfl,_,_,hb⟩
  go_wp2
  go_ret2
  refine ⟨0, ?_, ?_,hb⟩
  ·rw[Hf.out];(first | done | rfl)
  ·intro n hn;rw[Hf.out] at hn;cases hn
 | _ =>
  obtain ⟨ev,hv,hev⟩:=hG.syn
  have Hc1:Hid (_):=Tryz.strconv_ParseInt_10_at64_syntax s (by omega) hp ev w hv hev
  rw[hp] at hq
  have Hf:Hid (Thk.num (toL s)=none):=hq
  clear hG hp hq hv hev
  go_enter Tryz.func145,Tryz.ntmps145
  go_wp2_with fail
  refine Calls.mono Hc1.out ?_
  rintro e w1 ⟨N,rfl,_,_,hb⟩
  go_wp2
  go_ret2
  refine ⟨0, ?_, ?_,hb⟩
  ·rw[Hf.out];(first | done | rfl)
  ·intro n hn;rw[Hf.out] at hn;cases hn


theorem Clone_any (s:ByteArray) (w:World) (hs:s.size<=1048576) :
  Calls Tryz.prog 56 #[.string s] w fun e w'=>e=.returned (.string s)/\Below w.heap.size w w':=by
 have Hc1:Hid (_):=Tryz.stringslite_Clone s w (by omega)
 go_enter Tryz.func56,Tryz.ntmps56
 go_wp2_with fail
 refine Calls.mono Hc1.out ?_
 rintro e w1 ⟨rfl,hb⟩
 go_wp2
 go_ret
 exact ⟨rfl,hb⟩

structure ChAt (w:World) (b:Nat) (p:ByteArray) (a:UInt8) (v:ByteArray) (n:Int):Prop where
 tag:Tagged w b 86
 c0:w.cell? ⟨b,0,none⟩=some (.string p)
 c1:w.cell? ⟨b,1,none⟩=some (.int .u8 (a.toNat:Int))
 c2:w.cell? ⟨b,2,none⟩=some (.string v)
 c3:w.cell? ⟨b,3,none⟩=some (.int .i64 n)

theorem ChAt.chg {M:Nat->Prop} {w w':World} {b:Nat} {p:ByteArray} {a:UInt8} {v:ByteArray} {n:Int} (h:ChAt w b p a v n) (hc:Chg M w w') (hm:¬M b):ChAt w' b p a v n:=by
 have hcell:∀ i,w'.cell? ⟨b,i,none⟩=w.cell? ⟨b,i,none⟩:=fun i=>World.cell?_of_block (w:=w) (hc.block b h.tag.lt hm)
 exact ⟨h.tag.chg hc hm,(hcell 0).trans h.c0,(hcell 1).trans h.c1,(hcell 2).trans h.c2,(hcell 3).trans h.c3⟩
theorem ChAt.below {w w':World} {b:Nat} {p:ByteArray} {a:UInt8} {v:ByteArray} {n:Int} (h:ChAt w b p a v n) (hb:Below w.heap.size w w'):ChAt w' b p a v n :=
 h.chg (Chg.of_below (M:=fun _=>False) hb) (fun h=>h)
theorem ChAt.set2 {w:World} {b:Nat} {p:ByteArray} {a:UInt8} {v:ByteArray} {n:Int} (h:ChAt w b p a v n) (v':ByteArray):ChAt (w.setCell ⟨b,2,none⟩ (.string v')) b p a v' n :=
 ⟨h.tag.setCell _ _,(cs_oth (Or.inr (by omega))).trans h.c0,(cs_oth (Or.inr (by omega))).trans h.c1,cs_same h.c2,(cs_oth (Or.inr (by omega))).trans h.c3⟩
theorem ChAt.set3 {w:World} {b:Nat} {p:ByteArray} {a:UInt8} {v:ByteArray} {n:Int} (h:ChAt w b p a v n) (n':Int):ChAt (w.setCell ⟨b,3,none⟩ (.int .i64 n')) b p a v n' :=
 ⟨h.tag.setCell _ _,(cs_oth (Or.inr (by omega))).trans h.c0,(cs_oth (Or.inr (by omega))).trans h.c1,(cs_oth (Or.inr (by omega))).trans h.c2,cs_same h.c3⟩
theorem ChAt.set0 {w:World} {b:Nat} {p:ByteArray} {a:UInt8} {v:ByteArray} {n:Int} (h:ChAt w b p a v n) (p':ByteArray):ChAt (w.setCell ⟨b,0,none⟩ (.string p')) b p' a v n :=
 ⟨h.tag.setCell _ _,cs_same h.c0,(cs_oth (Or.inr (by omega))).trans h.c1,(cs_oth (Or.inr (by omega))).trans h.c2,(cs_oth (Or.inr (by omega))).trans h.c3⟩
theorem ChAt.set1 {w:World} {b:Nat} {p:ByteArray} {a:UInt8} {v:ByteArray} {n:Int} (h:ChAt w b p a v n) (a':UInt8):ChAt (w.setCell ⟨b,1,none⟩ (.int .u8 (a'.toNat:Int))) b p a' v n :=
 ⟨h.tag.setCell _ _,(cs_oth (Or.inr (by omega))).trans h.c0,cs_same h.c1,(cs_oth (Or.inr (by omega))).trans h.c2,(cs_oth (Or.inr (by omega))).trans h.c3⟩
theorem ChAt.setOth {w:World} {b b' i:Nat} {p:ByteArray} {a:UInt8} {v:ByteArray} {n:Int} (h:ChAt w b p a v n) (hb:b≠b') (u:Value):ChAt (w.setCell ⟨b',i,none⟩ u) b p a v n :=
 h.chg ((Chg.refl (fun k=>k=b') w).setCell (p:=⟨b',i,none⟩) rfl u) hb
theorem chAt_alloc (w:World) (p:ByteArray) (a:UInt8) (v:ByteArray) (n:Int):ChAt (w.alloc (.cells #[.string p,.int .u8 (a.toNat:Int),.string v,.int .i64 n] 86)) w.heap.size p a v n:=by
 have h:(w.alloc (.cells #[.string p,.int .u8 (a.toNat:Int),.string v,.int .i64 n] 86)).heap[w.heap.size]? = some (.cells #[.string p,.int .u8 (a.toNat:Int),.string v,.int .i64 n] 86 (0,0)):=heap_alloc_new _ _
 refine ⟨⟨_,h⟩, ?_, ?_, ?_, ?_⟩ <;> rw[World.cell?_alloc_at _ _ _ _ rfl] <;> rfl

theorem copied_any (p:ByteArray) (a:UInt8) (v:ByteArray) (n:Int) (w:World) (hp:p.size<=1048576) (hv:v.size<=1048576) :
  Calls Tryz.prog 85 #[.agg #[.string p,.int .u8 (a.toNat:Int),.string v,.int .i64 n]] w
   fun e w'=>e=.returned (.agg #[.string p,.int .u8 (a.toNat:Int),.string v,.int .i64 n])/\Below w.heap.size w w':=by
 have HA0:Hid (∀ o,ChAt ((w.alloc (.cells #[.string p,.int .u8 (a.toNat:Int),.string v,.int .i64 n] 86)).alloc o) w.heap.size p a v n):=fun o=>(chAt_alloc w p a v n).below ((Below.refl _ _).alloc (Nat.le_refl _) o)
 have HA1:Hid (∀ o,ChAt ((w.alloc o).alloc (.cells #[.string ⟨#[]⟩,.int .u8 0,.string ⟨#[]⟩,.int .i64 0] 86)) (w.heap.size+1) ⟨#[]⟩ 0 ⟨#[]⟩ 0):=fun o=>by
  have:=chAt_alloc (w.alloc o) ⟨#[]⟩ 0 ⟨#[]⟩ 0
  have e:(w.alloc o).heap.size=w.heap.size+1:=by simp
  rw[e] at this;exact this
 have HB:Hid (∀ o o',Below w.heap.size w ((w.alloc o).alloc o')):=fun o o'=>((Below.refl _ w).alloc (Nat.le_refl _) o).alloc (by simp) o'
 go_enter Tryz.func85,Tryz.ntmps85
 go_wp2_with fail
 refine Calls.mono (Clone_any p _ hp) ?_
 rintro e w1 ⟨rfl,hb1⟩
 have a0:ChAt w1 w.heap.size p a v n:=(HA0.out _).below hb1
 have a1:ChAt w1 (w.heap.size+1) ⟨#[]⟩ 0 ⟨#[]⟩ 0:=(HA1.out _).below hb1
 have b1:Hid (Below w.heap.size w w1):=(HB.out _ _).trans (hb1.mono (by simp;omega))
 clear hb1
 have x0:=a0.c0
 have x1:=a0.c1
 have x2:=a0.c2
 have x3:=a0.c3
 have xf:=a0.tag.frozen
 have A0:Hid (ChAt w1 w.heap.size p a v n):=a0
 have A1:Hid (ChAt w1 (w.heap.size+1) ⟨#[]⟩ 0 ⟨#[]⟩ 0):=a1
 clear a0 a1 HA0 HA1 HB
 go_wp2_with fail
 refine Calls.mono (Clone_any v _ hv) ?_
 rintro e w2 ⟨rfl,hb2⟩
 have a0:ChAt w2 w.heap.size p a v n:=(A0.out.set0 p).below hb2
 have a1:ChAt w2 (w.heap.size+1) ⟨#[]⟩ 0 ⟨#[]⟩ 0:=(A1.out.chg ((Chg.refl (fun k=>k=w.heap.size) w1).setCell (p:=⟨w.heap.size,0,none⟩) rfl (.string p)) (by simp)).below hb2
 have b2:Hid (Below w.heap.size w w2):=(b1.out.setCell (p:=⟨w.heap.size,0,none⟩) (Nat.le_refl _) (.string p)).trans (hb2.mono (by have:=b1.out.size;simpa[World.setCell] using this))
 clear hb2 x0 x1 x2 x3 xf
 have x0:=a0.c0
 have x1:=a0.c1
 have x2:=a0.c2
 have x3:=a0.c3
 have xf:=a0.tag.frozen
 have y0:=a1.c0
 have y1:=a1.c1
 have y2:=a1.c2
 have y3:=a1.c3
 have yf:=a1.tag.frozen
 have A1:Hid (ChAt w2 (w.heap.size+1) ⟨#[]⟩ 0 ⟨#[]⟩ 0):=a1
 clear a0 a1 A0 b1
 go_wp2
 have hF:ChAt (((((w2.setCell ⟨w.heap.size,2,none⟩ (.string v)).setCell ⟨w.heap.size+1,0,none⟩ (.string p)).setCell ⟨w.heap.size+1,1,none⟩ (.int .u8 (a.toNat:Int))).setCell ⟨w.heap.size+1,2,none⟩ (.string v)).setCell ⟨w.heap.size+1,3,none⟩ (.int .i64 n)) (w.heap.size+1) p a v n :=
  ((((A1.out.setOth (by omega) _).set0 p).set1 a).set2 v).set3 n
 have hB:Below w.heap.size w (((((w2.setCell ⟨w.heap.size,2,none⟩ (.string v)).setCell ⟨w.heap.size+1,0,none⟩ (.string p)).setCell ⟨w.heap.size+1,1,none⟩ (.int .u8 (a.toNat:Int))).setCell ⟨w.heap.size+1,2,none⟩ (.string v)).setCell ⟨w.heap.size+1,3,none⟩ (.int .i64 n)) :=
  ((((b2.out.setCell (p:=⟨w.heap.size,2,none⟩) (Nat.le_refl _) _).setCell (p:=⟨w.heap.size+1,0,none⟩) (Nat.le_succ _) _).setCell (p:=⟨w.heap.size+1,1,none⟩) (Nat.le_succ _) _).setCell (p:=⟨w.heap.size+1,2,none⟩) (Nat.le_succ _) _).setCell (p:=⟨w.heap.size+1,3,none⟩) (Nat.le_succ _) _
 generalize (((((w2.setCell ⟨w.heap.size,2,none⟩ (.string v)).setCell ⟨w.heap.size+1,0,none⟩ (.string p)).setCell ⟨w.heap.size+1,1,none⟩ (.int .u8 (a.toNat:Int))).setCell ⟨w.heap.size+1,2,none⟩ (.string v)).setCell ⟨w.heap.size+1,3,none⟩ (.int .i64 n))=WF at *
 refine bodyPost_ret (v:=.agg #[.string p,.int .u8 (a.toNat:Int),.string v,.int .i64 n]) (by simp[results,Tryz.results85,go_sem,hF.c0,hF.c1,hF.c2,hF.c3]) rfl ⟨rfl,hB⟩

def keptVal (a:UInt8) (t:ByteArray):ByteArray:=if a.toNat=43\/a.toNat=45\/a.toNat=61 then t else ByteArray.empty

theorem opA {p:Thk.Bs} {a:UInt8} {l:Thk.Bs} (ha:a.toNat=43\/a.toNat=45\/a.toNat=61):(Thk.operand p a l).isRight=Thk.word Thk.isAln 8 l/\∀ c,Thk.operand p a l=.inr c->c.n=0:=by
 have hv:Thk.val l=Thk.word Thk.isAln 8 l:=rfl
 unfold Thk.operand
 rw[if_pos ha,hv]
 cases Thk.word Thk.isAln 8 l
 ·simp
 ·simp only[if_true,Sum.isRight_inr,Sum.inr.injEq,true_and];rintro c rfl;rfl
theorem opB {p:Thk.Bs} {a:UInt8} {l:Thk.Bs} (ha:a.toNat=62):(Thk.operand p a l).isRight=(Thk.num l).isSome/\∀ c,Thk.operand p a l=.inr c->Thk.num l=some c.n:=by
 unfold Thk.operand
 rw[if_neg (by omega),if_pos ha]
 cases Thk.num l
 ·simp
 ·simp only[Sum.isRight_inr,Sum.inr.injEq,Option.isSome_some,true_and];rintro c rfl;rfl
theorem opC {p:Thk.Bs} {a:UInt8} {l:Thk.Bs} (ha:¬(a.toNat=43\/a.toNat=45\/a.toNat=61)) (hb:¬a.toNat=62):(Thk.operand p a l).isRight=decide (l=[])/\∀ c,Thk.operand p a l=.inr c->c.n=0:=by
 unfold Thk.operand
 rw[if_neg ha,if_neg hb]
 by_cases h:l=[]
 ·rw[if_pos h];simp only[Sum.isRight_inr,Sum.inr.injEq,h,decide_true,true_and];rintro c rfl;rfl
 ·rw[if_neg h];simp[h]
theorem keptA {a:UInt8} {t:ByteArray} (ha:a.toNat=43\/a.toNat=45\/a.toNat=61):keptVal a t=t:=if_pos ha
theorem keptN {a:UInt8} {t:ByteArray} (ha:¬(a.toNat=43\/a.toNat=45\/a.toNat=61)):keptVal a t=ByteArray.empty:=if_neg ha

theorem readOperand_any (b:Nat) (p:ByteArray) (a:UInt8) (t:ByteArray) (w:World) (ht:t.size<=1048576) (hG:Glob w) (hC:ChAt w b p a ByteArray.empty 0) :
  Calls Tryz.prog 84 #[.pointer (some ⟨b,0,none⟩),.string t] w
   fun e w'=>e=.returned (.bool (Thk.operand (toL p) a (toL t)).isRight)/\(∀ c,Thk.operand (toL p) a (toL t)=.inr c->ChAt w' b p a (keptVal a t) c.n)/\Chg (· = b) w w':=by
 have c0:=hC.c0
 have c1:=hC.c1
 have c2:=hC.c2
 have c3:=hC.c3
 have fz:=hC.tag.frozen
 have HC:Hid (ChAt w b p a ByteArray.empty 0):=hC
 have Hn:Hid (_):=readNumber_any t w ht hG
 clear hG hC
 go_enter Tryz.func84,Tryz.ntmps84
 go_wp2_with (first | (go_at_call 145;refine Calls.mono Hn.out ?_;rintro e w1 ⟨n,rfl,hn,hb⟩;have z3:=(HC.out.below hb).c3;have zf:=(HC.out.below hb).tag.frozen) | (go_at_call 143;refine (isWord_alnum t 8 _ ht (by omega)).mono ?_;rintro e w1 ⟨rfl,rfl⟩))
 iterate 3
  ·go_ret
   have ha:a.toNat=43\/a.toNat=45\/a.toNat=61:=by simp only[beq_iff_eq,beq_eq_false_iff_ne] at *;omega
   refine ⟨ret_bool (opA ha).1.symm,fun c hc=>?_,Chg.setCell (M:=fun x=>x=b) (Chg.refl _ w) (p:=⟨b,2,none⟩) rfl _⟩
   rw[(opA ha).2 c hc,keptA ha];exact HC.out.set2 t
 ·go_ret
  have hb':a.toNat=62:=by simp only[beq_iff_eq,beq_eq_false_iff_ne] at *;omega
  refine ⟨ret_bool (opB hb').1.symm,fun c hc=>?_,Chg.setCell (M:=fun x=>x=b) (Chg.of_below hb) (p:=⟨b,3,none⟩) rfl _⟩
  rw[<- hn _ ((opB hb').2 c hc),keptN (by omega)];exact (HC.out.below hb).set3 n
 ·go_ret
  have ha:¬(a.toNat=43\/a.toNat=45\/a.toNat=61):=by simp only[beq_iff_eq,beq_eq_false_iff_ne] at *;omega
  have hb':¬a.toNat=62:=by simp only[beq_iff_eq,beq_eq_false_iff_ne] at *;omega
  refine ⟨ret_bool ?_,fun c hc=>?_,Chg.refl _ w⟩
  ·rw[(opC ha hb').1,toList_eq]
   show (toL t).isEmpty=_
   cases toL t <;> rfl
  ·rw[(opC ha hb').2 c hc,keptN ha];exact HC.out

def actsB:ByteArray:=⟨#[43,45,94,95,61,62,33]⟩
theorem acts_low:∀ b∈actsB.data.toList,b.toNat<128:=by decide +kernel

theorem iter_below (w:World) (s:ByteArray) (i:Nat):Below w.heap.size w (w.iter s i):=(Below.refl _ w).alloc (Nat.le_refl _) _

theorem IndexRune_bad (w:World) :
  Calls Tryz.prog 137 #[.string actsB,.int .i32 65533] w fun e w'=>e=.returned (.int .i64 (-1))/\Below w.heap.size w w':=by
 have hsz:actsB.size=7:=rfl
 have Hlow:Hid (∀ i (h:i<actsB.size),(actsB[i]'h).toNat<128):=fun i h=>acts_low _ (Array.getElem_mem_toList (xs:=actsB.data) h)
 generalize actsB=s at *
 go_enter Tryz.func137,Tryz.ntmps137
 go_wp2_with fail
 go_loopg [5,6] 7 (fun g _ _ wx=>∃ i:Nat,i+g=7/\wx=w.iter s i)
 case atStart=>exact ⟨0,by omega,rfl⟩
 case round =>
  obtain ⟨i,hig,rfl⟩:=hrel
  cases gk with
  | zero =>
   have hnx:=fun ty=>run_next_end (P:=Tryz.prog) w s i ty (by omega)
   go_wp2
   go_ret
   exact ⟨rfl,iter_below _ _ _⟩
  | succ g =>
   have hi:i<s.size:=by omega
   have hx:=Hlow.out i hi
   have hnx:=fun ty=>run_next_ascii (P:=Tryz.prog) w s i ty hi hx
   generalize (s[i]'hi)=x at *
   have hne:((x.toNat:Int) == 65533)=false:=beq_eq_false_iff_ne.2 (by omega)
   go_wp2
   go_roundg g
   case measure=>omega
   case rel=>exact ⟨i+1,by omega,rfl⟩

theorem indexByte_none (c:UInt8):∀ l:Thk.Bs,(∀ b∈l,b≠c)->Lib.indexByte l c = -1:=by
 intro l
 induction l with
 | nil=>intro _;rfl
 | cons x l ih =>
  intro h
  have h1:(x == c)=false:=by simpa using h x (by simp)
  have h2:=ih (fun b hb=>h b (by simp[hb]))
  rw[ix_cons,h1,h2];(first | done | rfl)

theorem inBlock_ret (id:Nat) (Q:Exit->Act->World->Prop) (a:Act) (w:World):Exit.inBlock id Q .ret a w=Q .ret a w:=rfl
theorem then_ret (K:Act->World->Prop) (Q:Exit->Act->World->Prop) (a:Act) (w:World):Exit.then K Q .ret a w=Q .ret a w:=rfl

def Qb (s:ByteArray) (c:UInt8):Prop:=∀ i j wx,Calls Tryz.prog 81 #[.string (s.extract i j),.int .u8 (c.toNat:Int)] wx fun e w'=>e=.returned (.int .i64 (-1))/\w'=wx

theorem IndexRune_high (r:Int) (w:World) (h1:128<=r) (h2:r<=2147483647) :
  Calls Tryz.prog 137 #[.string actsB,.int .i32 r] w fun e w'=>e=.returned (.int .i64 (-1))/\Below w.heap.size w w':=by
 by_cases hbad:r=65533
 ·subst hbad;exact IndexRune_bad w
 have hne:(r == 65533)=false:=beq_eq_false_iff_ne.2 hbad
 have n128:¬r<128:=by omega
 cases hv:Lib.validRune r
 ·have Hv:Hid (Lib.validRune r=false):=hv
  clear hv
  go_enter Tryz.func137,Tryz.ntmps137
  go_wp2_with (go_at_call 193;refine (Tryz.utf8_ValidRune r _).mono ?_;rintro e w1 ⟨rfl,rfl⟩;rw[Hv.out])
  go_ret
  exact ⟨rfl,Below.refl _ _⟩
 ·have Hv:Hid (Lib.validRune r=true):=hv
  have hv2:Utf8.valid r=true:=by unfold Lib.validRune at hv;unfold Utf8.valid;simp at hv ⊢;omega
  obtain ⟨e1,e2,e3⟩:=encode_facts r hv2 h1
  clear hv hv2
  obtain ⟨n,hn⟩:∃ n,(Utf8.encode r).size=n+1:=⟨(Utf8.encode r).size-1,by omega⟩
  have hsz:actsB.size=7:=rfl
  have Hlow:Hid (∀ i (h:i<actsB.size),(actsB[i]'h).toNat<128):=fun i h=>acts_low _ (Array.getElem_mem_toList (xs:=actsB.data) h)
  generalize actsB=s at *
  have hcv:∀ wx,(convert 21 9 (.int .i32 r)).run Tryz.prog wx=.ok (.string (Utf8.encode r)) wx:=fun wx=>run_convert_int_string wx 21 9 .i32 r (by rw[Tryz.underlying21];rfl) Tryz.underlying9
  generalize Utf8.encode r=rs at *
  go_enter Tryz.func137,Tryz.ntmps137
  go_wp2_with (go_at_call 193;refine (Tryz.utf8_ValidRune r _).mono ?_;rintro e w1 ⟨rfl,rfl⟩;rw[Hv.out])
  go_step3
  go_wp2_with fail
  have hns:n<s.size:=by omega
  have hnr:n<rs.size:=by omega
  have hx:=Hlow.out n hns
  have hy:128<=(rs[n]'hnr).toNat:=by
   have:=e3 (by omega)
   have e:rs.size-1=n:=by omega
   simp only[e] at this;exact this
  have hneq:(((s[n]'hns).toNat:Int) != ((rs[n]'hnr).toNat:Int))=true:=by simp;omega
  have Hc:Hid (∀ i j,Lib.indexByte (s.extract i j).data.toList (rs[n]'hnr) = -1):=fun i j=>indexByte_none _ _ (fun b hb=>by
   intro he
   have h1:=mem_extract hb
   obtain ⟨k,hk,hk2⟩:=List.getElem_of_mem h1
   have h2:=Hlow.out k (by simpa using hk)
   have h3:s[k]'(by simpa using hk)=b:=hk2
   rw[h3,he] at h2;omega)
  have hback:(((rs[n]'hnr).toNat:Int)).toNat.toUInt8=rs[n]'hnr:=by simp
  have Hc2:Qb s (rs[n]'hnr):=fun i j wx=>by
   refine (Tryz.strings_IndexByte _ _ _).mono ?_
   rintro e w2 ⟨rfl,rfl⟩
   rw[hback,Hc.out]
   exact ⟨rfl,rfl⟩
  have hwr:IntKind.i64.wrap ((n:Int)+1)=(n:Int)+1:=wrap_small _ (by omega) (by omega)
  have hle:(n:Int)+1<=7:=by omega
  have hle0:(0:Int)<=(n:Int)+1:=by omega
  clear e1 e2 e3 hcv hn
  go_loopg [9,10,11,12] 0 (fun g v9 v10 v11 v12 wx=>v9=.int .i64 (n:Int)/\v10=.int .i64 0/\wx=w1)
  case atStart=>exact ⟨rfl,rfl,rfl⟩
  case round =>
   obtain ⟨rfl,rfl,rfl⟩:=hrel
   go_wp2_with fail
   go_step3
   go_wp2_with fail
   go_quiet (fail)
   go_wp2_with fail
   go_quiet (first | (go_at_call 81;exact Calls.mono (Hc2 _ _ _) (fun _ _ h=>⟨h.1,_,h.2⟩)))
   go_wp2
   rw[Exit.noGoto_ret,inBlock_ret,then_ret,inBlock_ret,then_ret,Exit.noGoto_ret,inBlock_ret]
   go_ret
   exact ⟨rfl,below_drewN (Below.refl _ _) _⟩

theorem decode_span (s:ByteArray) (i:Nat) (h:i<s.size) (ha:128<=(s[i]'h).toNat):∀ j,j<(Utf8.decode s i).2->∃ hj:i+j<s.size,128<=(s[i+j]'hj).toNat:=by
 have hg:∀ k (hk:i+k<s.size),(s.get! (i+k)).toNat / 64=2->128<=(s[i+k]'hk).toNat:=fun k hk h2=>by
  have e:s.get! (i+k)=s[i+k]'hk:=by simp[ByteArray.get!,getElem!_pos,hk];(first | done | rfl)
  rw[e] at h2;omega
 have h0:∃ hj:i+0<s.size,128<=(s[i+0]'hj).toNat:=⟨h,ha⟩
 have hn:¬(s[i]'h).toNat<128:=by omega
 intro j hj
 have hc:∀ k,(decide (i+k<s.size) && (s.get! (i+k)).toNat / 64 == 2)=true->∃ hj:i+k<s.size,128<=(s[i+k]'hj).toNat:=fun k hk=>by
  simp only[Bool.and_eq_true,decide_eq_true_eq,beq_iff_eq] at hk
  exact ⟨hk.1,hg k hk.1 hk.2⟩
 simp only[Utf8.decode,get_at s i h,hn,if_false] at hj
 split at hj
 ·rename_i hx
  simp only[Bool.and_eq_true] at hx
  have c1:=hc 1 (by simpa using hx.2)
  split at hj <;> (simp only at hj;rcases j with _ | _ | j;exact h0;exact c1;omega)
 ·split at hj
  ·rename_i hx
   simp only[Bool.and_eq_true] at hx
   have c1:=hc 1 (by simpa using hx.1.2)
   have c2:=hc 2 (by simpa using hx.2)
   split at hj <;> (simp only at hj;rcases j with _ | _ | _ | j;exact h0;exact c1;exact c2;omega)
  ·split at hj
   ·rename_i hx
    simp only[Bool.and_eq_true] at hx
    have c1:=hc 1 (by simpa using hx.1.1.2)
    have c2:=hc 2 (by simpa using hx.1.2)
    have c3:=hc 3 (by simpa using hx.2)
    split at hj <;> (simp only at hj;rcases j with _ | _ | _ | _ | j;exact h0;exact c1;exact c2;exact c3;omega)
   ·simp only at hj;rcases j with _ | j;exact h0;omega

end Go.Proofs.YtfmmllpjgkgeaaaGreatDoor
namespace Go.Proofs.YtfmmllpjgkgeaaaGreatDoor
open Go.RowKit Go.Lib

theorem acts_not (x:UInt8) (h:128<=x.toNat):(toL actsB).contains x=false:=by
 have:∀ b∈toL actsB,b.toNat<128:=acts_low
 cases hc:(toL actsB).contains x
 ·rfl
 ·have:=this x (by simpa using hc);omega

theorem NoAny_skip {s:ByteArray} {i d:Nat} (h:Lib.NoAny (toL s) (toL actsB) i) (hd:∀ j,j<d->∃ hj:i+j<s.size,128<=(s[i+j]'hj).toNat):Lib.NoAny (toL s) (toL actsB) (i+d):=by
 intro j b hj hb
 by_cases h1:j<i
 ·exact h j b h1 hb
 ·obtain ⟨hj',h2⟩:=hd (j-i) (by omega)
  have e:i+(j-i)=j:=by omega
  simp only[e] at hj' h2
  have e2:(toL s)[j]? = some (s[j]'hj'):=Lib.data_getElem? s j hj'
  rw[e2] at hb
  cases hb
  exact acts_not _ h2

theorem IndexAny_short (s:ByteArray) (w:World) (h8:s.size<=8) :
  Calls Tryz.prog 80 #[.string s,.string actsB] w fun e w'=>e=.returned (.int .i64 (Lib.indexAny (toL s) (toL actsB)))/\Below w.heap.size w w':=by
 have hsz:actsB.size=7:=rfl
 have hemp:actsB.toList.isEmpty=false:=by rw[toList_eq];(first | done | rfl)
 have h8z:decide ((8:Int)<(s.size:Int))=false:=decide_eq_false (by omega)
 have Hr:Hid (∀ (r:Int) (wx:World),128<=r->r<=2147483647->Calls Tryz.prog 137 #[.string actsB,.int .i32 r] wx fun e w'=>e=.returned (.int .i64 (-1))/\Below wx.heap.size wx w'):=fun r wx h1 h2=>IndexRune_high r wx h1 h2
 have Hs:Hid (∀ {i d:Nat},Lib.NoAny (toL s) (toL actsB) i->(∀ j,j<d->∃ hj:i+j<s.size,128<=(s[i+j]'hj).toNat)->Lib.NoAny (toL s) (toL actsB) (i+d)):=fun h hd=>NoAny_skip h hd
 generalize actsB=ch at *
 go_enter Tryz.func80,Tryz.ntmps80
 go_wp2_with (go_at_call 138;refine (Tryz.strings_shouldUseASCIISet _ _).mono ?_;rintro e w' ⟨rfl,hw⟩;rw[hw,h8z])
 go_loopg [9,10] s.size (fun g _ _ wx=>∃ i:Nat,i+g=s.size/\wx.heap[w.heap.size]? = some (.stringIter s i)/\Below w.heap.size w wx/\Lib.NoAny (toL s) (toL ch) i)
 case atStart=>exact ⟨0,by omega,World.iter_heap _ _ _,iter_below _ _ _,Lib.NoAny.zero _ _⟩
 case round =>
  obtain ⟨i,hig,hit,hbl,hno⟩:=hrel
  have HN:Hid (Lib.NoAny (toL s) (toL ch) i):=hno
  have HB:Hid (Below w.heap.size w wr):=hbl
  have Hit:Hid (wr.heap[w.heap.size]? = some (.stringIter s i)):=hit
  clear hno hbl
  by_cases hi:i<s.size
  ·by_cases hx:(s[i]'hi).toNat<128
   ·have hnx:=fun ty=>run_next_ascii_at (P:=Tryz.prog) wr w.heap.size s i ty hit hi hx
    have Hx:Hid ((toL s)[i]? = some (s[i]'hi)):=Lib.data_getElem? s i hi
    clear hit
    generalize (s[i]'hi)=x at *
    have hcon:(toL ch).contains x=decide (0<=Lib.indexByte ch.data.toList x):=Lib.contains_iff_indexByte ch.data.toList x
    have hback:((x.toNat:Int)).toNat.toUInt8=x:=by simp
    have HW:Hid ((wr.iterAt w.heap.size s (i+1)).heap[w.heap.size]? = some (.stringIter s (i+1))/\Below w.heap.size w (wr.iterAt w.heap.size s (i+1))):=⟨iterAt_heap _ _ _ _ _ Hit.out,below_iterAt HB.out (Nat.le_refl _) _ _⟩
    cases hin:(toL ch).contains x
    ·rw[hin] at hcon
     have hlt:¬((0:Int)<=Lib.indexByte ch.data.toList x):=of_decide_eq_false hcon.symm
     clear hcon
     go_wp2_with (go_at_call 137;refine (Tryz.strings_IndexRune_ascii _ _ _ (by omega) (by omega)).mono ?_;rintro e w' ⟨rfl,hw⟩;rw[hw,hback])
     go_roundg (s.size-(i+1))
     case measure=>omega
     case rel=>exact ⟨i+1,by omega,HW.out.1,HW.out.2,HN.out.succ Hx.out hin⟩
    ·rw[hin] at hcon
     have hge:(0:Int)<=Lib.indexByte ch.data.toList x:=of_decide_eq_true hcon.symm
     clear hcon
     go_wp2_with (go_at_call 137;refine (Tryz.strings_IndexRune_ascii _ _ _ (by omega) (by omega)).mono ?_;rintro e w' ⟨rfl,hw⟩;rw[hw,hback])
     go_ret
     exact ⟨by rw[Lib.indexAny_hit HN.out Hx.out hin];rfl,HW.out.2⟩
   ·have hnx:=fun ty=>run_next_any_at (P:=Tryz.prog) wr w.heap.size s i ty hit hi
    have hhi:=decode_high s i hi (by omega)
    have hle:=decode_le s i
    have Hsp:Hid (_):=decode_span s i hi (by omega)
    clear hit
    have Hd:Hid (i+(Utf8.decode s i).2<=s.size):=by
     obtain ⟨hj,_⟩:=Hsp.out ((Utf8.decode s i).2-1) (by omega)
     unfold Hid;omega
    generalize Utf8.decode s i=rd at *
    obtain ⟨r,d⟩:=rd
    simp only at *
    have hb1:Hid (Below w.heap.size w (wr.iterAt w.heap.size s (i+d))):=below_iterAt HB.out (Nat.le_refl _) _ _
    have hi1:Hid ((wr.iterAt w.heap.size s (i+d)).heap[w.heap.size]? = some (.stringIter s (i+d))):=iterAt_heap _ _ _ _ _ Hit.out
    generalize wr.iterAt w.heap.size s (i+d)=w2 at *
    go_wp2_with (go_at_call 137;refine (Hr.out _ _ (by omega) (by omega)).mono ?_;rintro e w' ⟨rfl,hb⟩)
    go_roundg (s.size-(i+d))
    case measure=>omega
    case rel =>
     have hlt2:w.heap.size<w2.heap.size:=(Array.getElem?_eq_some_iff.1 hi1.out).1
     refine ⟨i+d, ?_, ?_, ?_,Hs.out HN.out Hsp.out⟩
     ·have:=Hd.out;omega
     ·exact (hb.block _ hlt2).trans hi1.out
     ·exact hb1.out.trans (hb.mono (by omega))
  ·have he:i=s.size:=by omega
   have hnx:=fun ty=>run_next_end_at (P:=Tryz.prog) wr w.heap.size s i ty hit hi
   clear hit
   go_wp2
   go_ret
   exact ⟨by rw[Lib.indexAny_none (by rw[toL_length,<- he];exact HN.out)];rfl,HB.out⟩

theorem IndexAny_any (s:ByteArray) (w:World) (hs:s.size<=1048576) :
  Calls Tryz.prog 80 #[.string s,.string actsB] w fun e w'=>e=.returned (.int .i64 (Lib.indexAny (toL s) (toL actsB)))/\Below w.heap.size w w':=by
 by_cases h8:s.size<=8
 ·exact IndexAny_short s w h8
 ·have hsz:actsB.size=7:=rfl
  have h116:(Tryz.prog.info? 193).map (fun i=>(i.zero,i.size))=some (some (.agg (Array.replicate 256 (.bool false))),256):=by kernel_rfl
  refine Calls.mono (Tryz.strings_IndexAny_long ?_ s actsB w (by omega) (by omega) (by omega) (by omega) ?_) ?_
  ·exact (zero_of_info h116).1
  ·intro j b hj
   exact acts_low b (List.mem_of_getElem? hj)
  ·rintro e w' ⟨rfl,rfl⟩
   exact ⟨rfl,((Below.refl _ w).alloc (Nat.le_refl _) _).alloc (by simp) _⟩

theorem isAct_acts (c:UInt8):Thk.isAct c=(toL actsB).contains c:=by
 have e:toL actsB=[43,45,94,95,61,62,33]:=rfl
 rw[e,Bool.eq_iff_iff]
 simp only[Thk.isAct,List.contains_cons,List.contains_nil,Bool.or_eq_true,beq_iff_eq,<- UInt8.toNat_inj,Bool.or_false]
 simp
 omega

theorem indexAny_acts (l:Thk.Bs):(l.findIdx Thk.isAct=l.length/\Lib.indexAny l (toL actsB) = -1)\/(∃ h:l.findIdx Thk.isAct<l.length,Lib.indexAny l (toL actsB)=(l.findIdx Thk.isAct:Int)/\Thk.isAct (l[l.findIdx Thk.isAct]'h)=true):=by
 rcases Nat.lt_or_ge (l.findIdx Thk.isAct) l.length with h | h
 ·right
  have ha:Thk.isAct (l[l.findIdx Thk.isAct]'h)=true:=List.findIdx_getElem (w:=h)
  refine ⟨h, ?_,ha⟩
  refine Lib.indexAny_hit (x:=l[l.findIdx Thk.isAct]'h) ?_ (List.getElem?_eq_getElem h) (by rw[<- isAct_acts];exact ha)
  intro j b hj hb
  have hjl:j<l.length:=by omega
  rw[List.getElem?_eq_getElem hjl] at hb
  cases hb
  rw[<- isAct_acts]
  exact List.not_of_lt_findIdx hj
 ·left
  have he:l.findIdx Thk.isAct=l.length:=Nat.le_antisymm List.findIdx_le_length h
  refine ⟨he,Lib.indexAny_none ?_⟩
  intro j b hj hb
  rw[List.getElem?_eq_getElem hj] at hb
  cases hb
  rw[<- isAct_acts]
  exact List.not_of_lt_findIdx (he ▸ hj)

def chV (c:Thk.Ch):Value:=.agg #[.string ⟨c.path.toArray⟩,.int .u8 (c.act.toNat:Int),.string (keptVal c.act ⟨c.val.toArray⟩),.int .i64 c.n]
def noCh:Value:=.agg #[.string ⟨#[]⟩,.int .u8 0,.string ⟨#[]⟩,.int .i64 0]
def readV:Nat ⊕ Thk.Ch->Value
 | .inl m=>.tuple #[noCh,.int .i64 (m:Int)]
 | .inr c=>.tuple #[chV c,.int .i64 0]
theorem mk_toL (s:ByteArray):(⟨(toL s).toArray⟩:ByteArray)=s:=by
 show (⟨s.data.toList.toArray⟩:ByteArray)=s
 rw[Array.toArray_toList]
end Go.Proofs.YtfmmllpjgkgeaaaGreatDoor
namespace Go.Proofs.YtfmmllpjgkgeaaaGreatDoor
open Go.RowKit

theorem ChAt.store {w:World} {b:Nat} {p:ByteArray} {a:UInt8} {v:ByteArray} {n:Int} (h:ChAt w b p a v n) (p':ByteArray) (a':UInt8) (v':ByteArray) (n':Int) :
  ChAt ((((w.setCell ⟨b,0,none⟩ (.string p')).setCell ⟨b,1,none⟩ (.int .u8 (a'.toNat:Int))).setCell ⟨b,2,none⟩ (.string v')).setCell ⟨b,3,none⟩ (.int .i64 n')) b p' a' v' n' :=
 (((h.set0 p').set1 a').set2 v').set3 n'
theorem ChAt.store0 {w:World} {b:Nat} {p:ByteArray} {a:UInt8} {v:ByteArray} {n:Int} (h:ChAt w b p a v n) :
  ChAt ((((w.setCell ⟨b,0,none⟩ (.string ⟨#[]⟩)).setCell ⟨b,1,none⟩ (.int .u8 0)).setCell ⟨b,2,none⟩ (.string ⟨#[]⟩)).setCell ⟨b,3,none⟩ (.int .i64 0)) b ⟨#[]⟩ 0 ⟨#[]⟩ 0 :=
 h.store ⟨#[]⟩ 0 ⟨#[]⟩ 0
theorem below_store {B:Nat} {a w:World} (h:Below B a w) {b:Nat} (hb:B<=b) (x y z u:Value) :
  Below B a ((((w.setCell ⟨b,0,none⟩ x).setCell ⟨b,1,none⟩ y).setCell ⟨b,2,none⟩ z).setCell ⟨b,3,none⟩ u) :=
 (((h.setCell (p:=⟨b,0,none⟩) hb x).setCell (p:=⟨b,1,none⟩) hb y).setCell (p:=⟨b,2,none⟩) hb z).setCell (p:=⟨b,3,none⟩) hb u

theorem toL_take (s:ByteArray) (k:Nat):toL (s.extract 0 k)=(toL s).take k:=by
 show (s.extract 0 k).data.toList=s.data.toList.take k
 rw[ByteArray.data_extract,Array.toList_extract];simp
theorem toL_drop (s:ByteArray) (k:Nat):toL (s.extract k s.size)=(toL s).drop k:=by
 show (s.extract k s.size).data.toList=s.data.toList.drop k
 rw[ByteArray.data_extract,Array.toList_extract]
 show (s.data.toList.drop k).take (s.size-k)=_
 rw[List.take_of_length_le]
 simp

theorem actionsOf_val (k:UInt8) (w:World):Calls Tryz.prog 82 #[.int .u8 (k.toNat:Int)] w fun e w'=>e=.returned (.string ⟨(actsOf k).toArray⟩)/\w'=w:=by
 refine (actionsOf_any k w).mono ?_
 rintro e w' ⟨t,rfl,ht,rfl⟩
 exact ⟨by rw[<- ht,mk_toL],rfl⟩

theorem fits_acts (k a:UInt8):Thk.fits k a=(actsOf k).contains a:=by
 unfold Thk.fits actsOf
 have hc:∀ n:Nat,((k.toNat:Int)=(n:Int))↔k.toNat=n:=fun n=>by omega
 simp only[show ((115:Int))=((115:Nat):Int) from rfl,show ((102:Int))=((102:Nat):Int) from rfl,show ((114:Int))=((114:Nat):Int) from rfl,show ((99:Int))=((99:Nat):Int) from rfl,hc]
 repeat' split
 all_goals
  rw[Bool.eq_iff_iff]
  simp only[List.contains_cons,List.contains_nil,Bool.or_eq_true,beq_iff_eq,<- UInt8.toNat_inj,Bool.or_false]
  simp <;> omega

theorem operand_inl {p:Thk.Bs} {a:UInt8} {v:Thk.Bs} {m:Nat} (h:Thk.operand p a v=.inl m):m=5:=by
 unfold Thk.operand at h
 split at h
 ·split at h <;> simp_all
 ·split at h
  ·split at h <;> simp_all
  ·split at h <;> simp_all
theorem operand_inr {p:Thk.Bs} {a:UInt8} {v:Thk.Bs} {c:Thk.Ch} (h:Thk.operand p a v=.inr c):c=⟨p,a,v,c.n⟩:=by
 unfold Thk.operand at h
 split at h
 ·split at h
  ·simp only[Sum.inr.injEq] at h;subst h;rfl
  ·cases h
 ·split at h
  ·split at h
   ·simp only[Sum.inr.injEq] at h;subst h;rfl
   ·cases h
  ·split at h
   ·simp only[Sum.inr.injEq] at h;subst h;rfl
   ·cases h
theorem chg_below {B b:Nat} {a c:World} (h:Chg (fun x=>x=b) a c) (hb:B<=b) (hs:B<=a.heap.size):Below B a c :=
 ⟨h.os,h.tape,h.output,h.size,fun k hk=>h.block k (by omega) (by omega)⟩
theorem keptVal_size (a:UInt8) (t:ByteArray):(keptVal a t).size<=t.size:=by
 unfold keptVal;split
 ·exact Nat.le_refl _
 ·exact Nat.zero_le _

theorem ProgRead_any (s:ByteArray) (w:World) (hs:s.size<=1048576) (hG:Glob w) :
  Calls Tryz.prog 47 #[.string s] w fun e w'=>e=.returned (readV (Thk.read (toL s)))/\Below w.heap.size w w':=by
 have Hi:Hid (_):=fun wx=>IndexAny_any s wx hs
 have Hz:Hid (ChAt (w.alloc (.cells #[.string ⟨#[]⟩,.int .u8 0,.string ⟨#[]⟩,.int .i64 0] 86)) w.heap.size ⟨#[]⟩ 0 ⟨#[]⟩ 0):=chAt_alloc w ⟨#[]⟩ 0 ⟨#[]⟩ 0
 have HzB:Hid (∀ o,Below w.heap.size w (w.alloc o)):=fun o=>(Below.refl _ w).alloc (Nat.le_refl _) o
 have HG:Hid (Glob w):=hG
 clear hG
 rcases indexAny_acts (toL s) with ⟨hk,hx⟩ | ⟨hk,hx,ha⟩
 ·have Hr:Hid (Thk.read (toL s)=.inl 4):=by unfold Hid Thk.read;rw[if_pos hk]
  have Hx:Hid (Lib.indexAny (toL s) (toL actsB) = -1):=hx
  clear hx hk
  go_enter Tryz.func47,Tryz.ntmps47
  go_wp2_with fail
  refine Calls.mono (Hi.out _) ?_
  rintro e w1 ⟨rfl,hb1⟩
  rw[Hx.out]
  have a1:=Hz.out.below hb1
  have b1:Hid (Below w.heap.size w w1):=(HzB.out _).trans (hb1.mono (by simp))
  clear hb1
  have x0:=a1.c0
  have x1:=a1.c1
  have x2:=a1.c2
  have x3:=a1.c3
  have xf:=a1.tag.frozen
  have A1:Hid (ChAt w1 w.heap.size ⟨#[]⟩ 0 ⟨#[]⟩ 0):=a1
  clear a1
  go_wp2
  have hF:=A1.out.store0
  have hB:=below_store b1.out (Nat.le_refl w.heap.size) (.string ⟨#[]⟩) (.int .u8 0) (.string ⟨#[]⟩) (.int .i64 0)
  generalize ((((w1.setCell ⟨w.heap.size,0,none⟩ (.string ⟨#[]⟩)).setCell ⟨w.heap.size,1,none⟩ (.int .u8 0)).setCell ⟨w.heap.size,2,none⟩ (.string ⟨#[]⟩)).setCell ⟨w.heap.size,3,none⟩ (.int .i64 0))=WF at *
  exact bodyPost_ret (v:=.tuple #[noCh,.int .i64 4]) (by simp[results,Tryz.results47,go_sem,hF.c0,hF.c1,hF.c2,hF.c3,noCh]) rfl ⟨by rw[Hr.out];rfl,hB⟩
 ·have Hr:Hid (Thk.read (toL s)=Thk.readAt (toL s) ((toL s).findIdx Thk.isAct)):=by unfold Hid Thk.read;rw[if_neg (by omega)]
  have Hx:Hid (Lib.indexAny (toL s) (toL actsB)=(((toL s).findIdx Thk.isAct:Nat):Int)):=hx
  clear hx ha
  generalize (toL s).findIdx Thk.isAct=k at *
  rw[toL_length] at hk
  have hk0:(0:Int)<=(k:Int):=by omega
  have hks:(k:Int)<=(s.size:Int):=by omega
  have hkn:¬((k:Int)<0):=by omega
  obtain ⟨p,hp⟩:∃ p,p=s.extract 0 k:=⟨_,rfl⟩
  have Hp:Hid (toL p=(toL s).take k):=by unfold Hid;rw[hp,toL_take]
  have hps:p.size<=1048576:=by
   have:p.size=(toL p).length:=(toL_length p).symm
   rw[this,Hp.out,List.length_take,toL_length];omega
  go_enter Tryz.func47,Tryz.ntmps47
  go_wp2_with fail
  refine Calls.mono (Hi.out _) ?_
  rintro e w1 ⟨rfl,hb1⟩
  rw[Hx.out]
  have b1:Hid (Below w.heap.size w w1):=(HzB.out _).trans (hb1.mono (by simp))
  have a1:Hid (ChAt w1 w.heap.size ⟨#[]⟩ 0 ⟨#[]⟩ 0):=Hz.out.below hb1
  clear hb1
  go_wp2_with fail
  rw[<- hp]
  clear hp
  obtain ⟨m,hm⟩:=(HG.out.mono b1.out).len
  have Hc2:Hid (_):=ReadPath_any p m w1 hps hm
  clear hm
  refine Calls.mono Hc2.out ?_
  rintro e w2 ⟨rfl,hb2⟩
  have b2:Hid (Below w.heap.size w w2):=b1.out.trans (hb2.mono b1.out.size)
  have a2:Hid (ChAt w2 w.heap.size ⟨#[]⟩ 0 ⟨#[]⟩ 0):=a1.out.below hb2
  clear hb2 Hc2
  cases hpa:Thk.path (toL p)
  ·have Hq:Hid (Thk.readAt (toL s) k=.inl 4):=by unfold Hid Thk.readAt;rw[if_pos (by rw[<- Hp.out];exact hpa)]
   have x0:=a2.out.c0
   have x1:=a2.out.c1
   have x2:=a2.out.c2
   have x3:=a2.out.c3
   have xf:=a2.out.tag.frozen
   go_wp2
   have hF:=a2.out.store0
   have hB:=below_store b2.out (Nat.le_refl w.heap.size) (.string ⟨#[]⟩) (.int .u8 0) (.string ⟨#[]⟩) (.int .i64 0)
   generalize ((((w2.setCell ⟨w.heap.size,0,none⟩ (.string ⟨#[]⟩)).setCell ⟨w.heap.size,1,none⟩ (.int .u8 0)).setCell ⟨w.heap.size,2,none⟩ (.string ⟨#[]⟩)).setCell ⟨w.heap.size,3,none⟩ (.int .i64 0))=WF at *
   exact bodyPost_ret (v:=.tuple #[noCh,.int .i64 4]) (by simp[results,Tryz.results47,go_sem,hF.c0,hF.c1,hF.c2,hF.c3,noCh]) rfl ⟨by rw[Hr.out,Hq.out];rfl,hB⟩
  ·have hok:okStr true p=p:=rfl
   rw[hok]
   have Hpa:Hid (Thk.path (toL p)=true):=hpa
   clear hok hpa
   have hkl:k<s.size:=hk
   have hx1:((s[k]'hkl).toNat:Int).toNat.toUInt8=s[k]'hkl:=by simp
   obtain ⟨ix,hix⟩:∃ ix,ix=Lib.indexByte (actsOf (Thk.kindOf (toL p))) (s[k]'hkl):=⟨_,rfl⟩
   have Hk1:Hid (∀ wx,Calls Tryz.prog 83 #[.string p] wx fun e w'=>e=.returned (.int .u8 ((Thk.kindOf (toL p)).toNat:Int))/\w'=wx):=fun wx=>Kind_any p wx hps Hpa.out
   have Hk2:Hid (∀ wx,Calls Tryz.prog 82 #[.int .u8 ((Thk.kindOf (toL p)).toNat:Int)] wx fun e w'=>e=.returned (.string ⟨(actsOf (Thk.kindOf (toL p))).toArray⟩)/\w'=wx):=fun wx=>actionsOf_val _ wx
   have Hk3:Hid (∀ wx,Calls Tryz.prog 81 #[.string ⟨(actsOf (Thk.kindOf (toL p))).toArray⟩,.int .u8 ((s[k]'hkl).toNat:Int)] wx fun e w'=>e=.returned (.int .i64 ix)/\w'=wx):=fun wx=>by
    refine (Tryz.strings_IndexByte _ _ _).mono ?_
    rintro e w' ⟨rfl,rfl⟩
    rw[hx1,hix]
    exact ⟨rfl,rfl⟩
   have Hfit:Hid (Thk.fits (Thk.kindOf (toL p)) (s[k]'hkl)=decide (0<=ix)):=by
    unfold Hid;rw[fits_acts,hix];exact Lib.contains_iff_indexByte _ _
   clear hix
   go_wp2_with fail
   go_quiet (first | (go_at_call 83;exact Calls.mono (Hk1.out _) (fun _ _ h=>⟨h.1,_,h.2⟩)) | (go_at_call 82;exact Calls.mono (Hk2.out _) (fun _ _ h=>⟨h.1,_,h.2⟩)) | (go_at_call 81;exact Calls.mono (Hk3.out _) (fun _ _ h=>⟨h.1,_,h.2⟩)))
   have b3:Hid (Below w.heap.size w (w2.drewN nq)):=below_drewN b2.out nq
   have a3:Hid (ChAt (w2.drewN nq) w.heap.size ⟨#[]⟩ 0 ⟨#[]⟩ 0):=a2.out.below (below_drewN (Below.refl _ _) nq)
   have hgd:Hid ((toL s).getD k 0=s[k]'hkl):=by
    unfold Hid;rw[List.getD_eq_getElem?_getD,show (toL s)[k]? = some (s[k]'hkl) from Lib.data_getElem? s k hkl];(first | done | rfl)
   have Hpf:Hid (¬Thk.path ((toL s).take k)=false):=by unfold Hid;rw[<- Hp.out,Hpa.out];simp
   generalize w2.drewN nq=w3 at *
   clear a1 a2 b1 b2 Hk1 Hk2 Hk3
   by_cases hlt:ix<0
   ·have Hq:Hid (Thk.readAt (toL s) k=.inl 6):=by
     unfold Hid Thk.readAt
     rw[if_neg Hpf.out,hgd.out,<- Hp.out,Hfit.out,if_pos (by simp;omega)]
    have x0:=a3.out.c0
    have x1:=a3.out.c1
    have x2:=a3.out.c2
    have x3:=a3.out.c3
    have xf:=a3.out.tag.frozen
    go_wp2
    have hF:=a3.out.store0
    have hB:=below_store b3.out (Nat.le_refl w.heap.size) (.string ⟨#[]⟩) (.int .u8 0) (.string ⟨#[]⟩) (.int .i64 0)
    generalize ((((w3.setCell ⟨w.heap.size,0,none⟩ (.string ⟨#[]⟩)).setCell ⟨w.heap.size,1,none⟩ (.int .u8 0)).setCell ⟨w.heap.size,2,none⟩ (.string ⟨#[]⟩)).setCell ⟨w.heap.size,3,none⟩ (.int .i64 0))=WF at *
    exact bodyPost_ret (v:=.tuple #[noCh,.int .i64 6]) (by simp[results,Tryz.results47,go_sem,hF.c0,hF.c1,hF.c2,hF.c3,noCh]) rfl ⟨by rw[Hr.out,Hq.out];rfl,hB⟩
   ·have Hq:Hid (Thk.readAt (toL s) k=Thk.operand (toL p) (s[k]'hkl) ((toL s).drop (k+1))):=by
     unfold Hid Thk.readAt
     rw[if_neg Hpf.out,hgd.out,<- Hp.out,Hfit.out,if_neg (by simp;omega)]
    have hwr:IntKind.i64.wrap ((k:Int)+1)=(k:Int)+1:=wrap_small _ (by omega) (by omega)
    have hle:(k:Int)+1<=(s.size:Int):=by omega
    have hle0:(0:Int)<=(k:Int)+1:=by omega
    go_wp2_with fail
    obtain ⟨t,ht⟩:∃ t,t=s.extract (k+1) s.size:=⟨_,rfl⟩
    have Ht:Hid (toL t=(toL s).drop (k+1)):=by unfold Hid;rw[ht,toL_drop]
    have hts:t.size<=1048576:=by
     have:t.size=(toL t).length:=(toL_length t).symm
     rw[this,Ht.out,List.length_drop,toL_length];omega
    rw[<- ht]
    clear ht
    rw[<- Ht.out] at Hq
    clear hgd Hfit hx1
    generalize (s[k]'hkl)=a at *
    have hB3:Hid (w.heap.size<w3.heap.size):=a3.out.tag.lt
    have bz:Hid (Below w.heap.size w (w3.alloc (.cells #[.string p,.int .u8 (a.toNat:Int),.string ⟨#[]⟩,.int .i64 0] 86))):=b3.out.alloc (Nat.le_of_lt hB3.out) _
    have az:Hid (ChAt (w3.alloc (.cells #[.string p,.int .u8 (a.toNat:Int),.string ⟨#[]⟩,.int .i64 0] 86)) w.heap.size ⟨#[]⟩ 0 ⟨#[]⟩ 0):=a3.out.below ((Below.refl _ _).alloc (Nat.le_refl _) _)
    refine Calls.mono (readOperand_any w3.heap.size p a t _ hts ((HG.out.mono bz.out)) (chAt_alloc w3 p a ⟨#[]⟩ 0)) ?_
    rintro e w4 ⟨rfl,hc,hchg⟩
    have b4:Hid (Below w.heap.size w w4):=bz.out.trans (chg_below hchg (Nat.le_of_lt hB3.out) bz.out.size)
    have a4:Hid (ChAt w4 w.heap.size ⟨#[]⟩ 0 ⟨#[]⟩ 0):=az.out.chg hchg (Nat.ne_of_lt hB3.out)
    clear hchg
    have x0:=a4.out.c0
    have x1:=a4.out.c1
    have x2:=a4.out.c2
    have x3:=a4.out.c3
    have xf:=a4.out.tag.frozen
    cases hop:Thk.operand (toL p) a (toL t) with
    | inl m =>
     have hm5:=operand_inl hop
     subst hm5
     have Hop:Hid (Thk.operand (toL p) a (toL t)=.inl 5):=hop
     clear hop hc
     have hri:(Sum.inl 5:Nat ⊕ Thk.Ch).isRight=false:=rfl
     rw[hri]
     go_wp2
     have hF:=a4.out.store0
     have hB:=below_store b4.out (Nat.le_refl w.heap.size) (.string ⟨#[]⟩) (.int .u8 0) (.string ⟨#[]⟩) (.int .i64 0)
     generalize ((((w4.setCell ⟨w.heap.size,0,none⟩ (.string ⟨#[]⟩)).setCell ⟨w.heap.size,1,none⟩ (.int .u8 0)).setCell ⟨w.heap.size,2,none⟩ (.string ⟨#[]⟩)).setCell ⟨w.heap.size,3,none⟩ (.int .i64 0))=WF at *
     exact bodyPost_ret (v:=.tuple #[noCh,.int .i64 5]) (by simp[results,Tryz.results47,go_sem,hF.c0,hF.c1,hF.c2,hF.c3,noCh]) rfl ⟨by rw[Hr.out,Hq.out,Hop.out];rfl,hB⟩
    | inr c =>
     have hcc:=operand_inr hop
     have Hop:Hid (Thk.operand (toL p) a (toL t)=.inr c):=hop
     have y:=hc c hop
     have hri:(Sum.inr c:Nat ⊕ Thk.Ch).isRight=true:=rfl
     rw[hri]
     clear hop hc hri
     have Hv:Hid (chV c=.agg #[.string p,.int .u8 (a.toNat:Int),.string (keptVal a t),.int .i64 c.n]):=by
      unfold Hid chV
      rw[hcc]
      simp only[mk_toL]
     clear hcc
     have hvs:(keptVal a t).size<=1048576:=Nat.le_trans (keptVal_size a t) hts
     generalize keptVal a t=v at *
     generalize c.n=n at *
     have y0:=y.c0
     have y1:=y.c1
     have y2:=y.c2
     have y3:=y.c3
     clear y
     go_wp2_with fail
     refine Calls.mono (copied_any p a v n w4 hps hvs) ?_
     rintro e w5 ⟨rfl,hb5⟩
     have b5:Hid (Below w.heap.size w w5):=b4.out.trans (hb5.mono b4.out.size)
     have a5:Hid (ChAt w5 w.heap.size ⟨#[]⟩ 0 ⟨#[]⟩ 0):=a4.out.below hb5
     clear hb5 x0 x1 x2 x3 xf y0 y1 y2 y3
     have x0:=a5.out.c0
     have x1:=a5.out.c1
     have x2:=a5.out.c2
     have x3:=a5.out.c3
     have xf:=a5.out.tag.frozen
     go_wp2
     have hF:=a5.out.store p a v n
     have hB:=below_store b5.out (Nat.le_refl w.heap.size) (.string p) (.int .u8 (a.toNat:Int)) (.string v) (.int .i64 n)
     generalize ((((w5.setCell ⟨w.heap.size,0,none⟩ (.string p)).setCell ⟨w.heap.size,1,none⟩ (.int .u8 (a.toNat:Int))).setCell ⟨w.heap.size,2,none⟩ (.string v)).setCell ⟨w.heap.size,3,none⟩ (.int .i64 n))=WF at *
     exact bodyPost_ret (v:=.tuple #[.agg #[.string p,.int .u8 (a.toNat:Int),.string v,.int .i64 n],.int .i64 0]) (by simp[results,Tryz.results47,go_sem,hF.c0,hF.c1,hF.c2,hF.c3]) rfl ⟨by rw[Hr.out,Hq.out,Hop.out];show _=Ending.returned (.tuple #[chV c,.int .i64 0]);rw[Hv.out],hB⟩
end Go.Proofs.YtfmmllpjgkgeaaaGreatDoor
namespace Go.Proofs.YtfmmllpjgkgeaaaGreatDoor
open Go.RowKit Go.Maps Go.ChangeMaps Go.MapKept

theorem MapV.count {P:Program} {k:TypeId} {w:World} {b N:Nat} {m:Value->Option Value} (h:MapV P k w b N m) (K:Keyed P k):∃ l:List Value,l.Nodup/\l.length=N/\∀ key,key∈l↔m key≠none:=by
 obtain ⟨D,h1,h2,h3⟩:=h
 obtain ⟨es,clock,hb,F,hs,rfl⟩:=h1
 refine ⟨es.toList.map (·.key), ?_, ?_,fun key=>⟨fun hk=>?_,fun hk=>?_⟩⟩
 ·rw[List.nodup_iff_pairwise_ne,List.pairwise_map]
  exact ((stamped_iff es clock).1 F.stamped).2.2
 ·rw[<- h2]
  simp only[Maps.size,length_sorted,List.length_map,Array.length_toList]
 ·obtain ⟨x,hx,rfl⟩:=List.mem_map.1 hk
  obtain ⟨y,hy⟩:=F.reads x hx
  have hkey:=WideElems.rd_key hy
  have hh:=(h3.1 _ _ hkey).1
  have:Maps.has (DataW.map ((es.toList.map (WideElems.rg P k idR)).foldr DataW.insert [])) y.1=true :=
   List.any_eq_true.2 ⟨WideElems.rg P k idR x,mem_sorted.2 (List.mem_map.2 ⟨x,hx,rfl⟩),by rw[WideElems.rg_of hy];exact WideAt.sameKey_self (K.key hkey)⟩
  rw[this] at hh
  intro e
  rw[e] at hh
  cases hh
 ·have hs:(m key).isSome=true:=by cases hm:m key with
   | none=>exact absurd hm hk
   | some v=>rfl
  obtain ⟨kl,hkl⟩:=h3.2 key hs
  have hh:=(h3.1 _ _ hkl).1
  rw[hs] at hh
  obtain ⟨p,hp,hpk⟩:=List.any_eq_true.1 hh
  obtain ⟨x,hx,rfl⟩:=List.mem_map.1 (mem_sorted.1 hp)
  obtain ⟨y,hy⟩:=F.reads x hx
  rw[WideElems.rg_of hy] at hpk
  have e:=WideAt.sameKey_eq hpk
  have hkey:=WideElems.rd_key hy
  rw[e] at hkey
  exact List.mem_map.2 ⟨x,hx,K.inj hkey hkl⟩
open Go.WideElems (Fit rd rg pl rd_key rd_val rg_of other_key rd_mk)

variable {P:Program} {k:TypeId} {w:World} {b r N cnt:Nat} {m:Value->Option Value} {left:Value->Prop}

theorem left_len (es:Array MapEntry) (seen:Array Nat):(leftOf es seen).size=((es.toList.map (·.born)).filter (fun n=>!seen.contains n)).length:=by
 unfold leftOf
 rw[List.filter_map,List.length_map,<- Array.length_toList,Array.toList_filter]
 rfl

theorem RangeV.store {t e:TypeId} (h:RangeV P k w b r N m left cnt) (K:Keyed P k) (ht:P.underlying t=some (.map k e)) (hn:N<maxLen) {key:Value} (val:Value) {kl:Lit} (hk:keyOf P k key=some kl) (hin:(m key).isSome=true) :
  ∃ w',(Instr.mapUpdate t (.map (some b)) key val).run P w=.ok () w'/\RangeV P k w' b r N (upd m key val) left cnt/\w.grownBy w' (some b)/\w'.heap.size=w.heap.size:=by
 obtain ⟨w',hrun,hmv,hgr,hsz⟩:=h.map.store K ht hn val hk
 rw[if_pos hin] at hmv
 refine ⟨w',hrun, ?_,hgr,hsz⟩
 have hne:=h.ne
 obtain ⟨D,lf,⟨es,clock,since,seen,c0,hb,F,hs,hD,hr,hold,hcnt,hl1,hl2,hsc,hsk⟩,hD2,hsay,hlf,hlk⟩:=h
 obtain ⟨D',⟨es',clock',hb',F',hs',hD'⟩,hD2',hsay'⟩:=hmv
 have hkeys:∀ x∈es.toList,∃ l,keyOf P k x.key=some l:=fun x hx=>by obtain ⟨y,hy⟩:=F.reads x hx;exact ⟨y.1,rd_key hy⟩
 rcases K.find w hk es.toList hkeys with ⟨h1,h2⟩ | ⟨j,e0,h1,h2,h3⟩
 ·exfalso
  have hh:=(hsay.1 key kl hk).1
  rw[hin,hD] at hh
  obtain ⟨p,hp,hpk⟩:=List.any_eq_true.1 hh
  obtain ⟨x,hx,rfl⟩:=List.mem_map.1 (mem_sorted.1 hp)
  obtain ⟨y,hy⟩:=F.reads x hx
  rw[rg_of hy] at hpk
  have e:=WideAt.sameKey_eq hpk
  have hkey:=rd_key hy
  rw[e] at hkey
  exact h2 x hx (K.inj hkey hk)
 ·have hj:es[j]? = some e0:=by simpa using h2
  have hrun2:(Instr.mapUpdate t (.map (some b)) key val).run P w=.ok () (setBlock w b (.map (es.modify j (fun e'=>{ e' with key:=key,val:=val })) clock)):=by
   simp[Instr.mapUpdate,run_underlying ht,MapKept.run_getObj_map hb,K.check w false hk,h1,hj,h3,K.stays w hk,MapKept.run_setObj_map _ hb,Result.andThen,setBlock]
  have hw:w'=setBlock w b (.map (es.modify j (fun e'=>{ e' with key:=key,val:=val })) clock):=by
   rw[hrun] at hrun2
   cases hrun2
   rfl
  have hbb:w'.heap[b]? = some (.map (es.modify j (fun e'=>{ e' with key:=key,val:=val })) clock):=by rw[hw];exact heap_setBlock_same hb _
  rw[hb'] at hbb
  have hes:es'=es.modify j (fun e'=>{ e' with key:=key,val:=val })/\clock'=clock:=by
   simp only[Option.some.injEq,Obj.map.injEq] at hbb
   exact hbb
  obtain ⟨hes,rfl⟩:=hes
  have hjl:j<es.toList.length:=(List.getElem?_eq_some_iff.1 h2).1
  have hlist:es'.toList=es.toList.set j { e0 with key:=key,val:=val }:=by
   rw[hes,Array.toList_modify,modify_eq_set _ _ _ _ h2]
  have hget:es.toList[j]'hjl=e0:=(List.getElem?_eq_some_iff.1 h2).2
  have hborn:es'.toList.map (·.born)=es.toList.map (·.born):=by
   rw[hlist,List.map_set]
   refine List.ext_getElem? fun i=>?_
   rw[List.getElem?_set]
   by_cases e:j=i
   ·subst e
    rw[if_pos rfl,if_pos (by simpa using hjl),List.getElem?_map,h2]
    rfl
   ·rw[if_neg e]
  -- of an old entry the new one with its stamp and its key
  have hto:∀ x∈es.toList,∃ x'∈es'.toList,x'.born=x.born/\x'.key=x.key:=fun x hx=>by
   obtain ⟨i,hi,ex⟩:=List.getElem_of_mem hx
   by_cases e:j=i
   ·subst e
    have:x=e0:=ex.symm.trans hget
    subst this
    exact ⟨{ x with key:=key,val:=val },by rw[hlist];exact List.mem_iff_getElem.2 ⟨j,by simpa using hi,by simp⟩,rfl,h3.symm⟩
   ·exact ⟨x,by rw[hlist];exact List.mem_iff_getElem.2 ⟨i,by simpa using hi,by rw[List.getElem_set_ne e];exact ex⟩,rfl,rfl⟩
  have hfrom:∀ x'∈es'.toList,∃ x∈es.toList,x'.born=x.born/\x'.key=x.key:=fun x' hx'=>by
   rw[hlist] at hx'
   rcases List.mem_or_eq_of_mem_set hx' with h4 | rfl
   ·exact ⟨x',h4,rfl,rfl⟩
   ·exact ⟨e0,List.mem_of_getElem? h2,rfl,h3.symm⟩
  have hrg:∀ x∈es.toList,∀ x'∈es'.toList,x'.key=x.key->(rg P k idR x').1=(rg P k idR x).1:=fun x hx x' hx' e=>by
   obtain ⟨y,hy⟩:=F.reads x hx
   obtain ⟨y',hy'⟩:=F'.reads x' hx'
   rw[rg_of hy,rg_of hy']
   have a1:=rd_key hy
   have a2:=rd_key hy'
   rw[e,a1] at a2
   exact (Option.some.inj a2).symm
  refine ⟨D',lf,⟨es',clock',since,seen,c0,hb',F',hs',hD', ?_,fun x' hx'=>?_, ?_,fun x' hx'=>?_,fun kl2 hkl2=>?_,hsc,hsk⟩,hD2',hsay',hlf,hlk⟩
  ·rw[hgr.block r (Array.getElem?_eq_some_iff.1 hr).1 (fun e=>hne (by cases e;rfl))]
   exact hr
  ·obtain ⟨x,hx,h4,_⟩:=hfrom x' hx'
   rw[h4];exact hold x hx
  ·rw[left_len,hborn,<- left_len];exact hcnt
  ·obtain ⟨x,hx,h4,h5⟩:=hfrom x' hx'
   rw[hrg x hx x' hx' h5,h4]
   exact hl1 x hx
  ·obtain ⟨x,hx,h4⟩:=hl2 kl2 hkl2
   obtain ⟨x',hx',h5,h6⟩:=hto x hx
   exact ⟨x',hx',(hrg x hx x' hx' h6).trans h4⟩

theorem wpList_store_range {ops:Array Oper} {rest:List Oper} {o:Oper} {a:Act} {Q:Exit->Act->World->Prop} (hg:o.guard=none) (mo x v:Operand) (t:TypeId) (hop:o.op=Op.mapUpdate t mo x v) (e:TypeId) (K:Keyed P k) (ht:P.underlying t=some (.map k e))
  (hm:a.eval mo=.map (some b)) (h:RangeV P k w b r N m left cnt) (hn:N<maxLen) (key val:Value) (kl:Lit) (hx:a.eval x=key) (hv:a.eval v=val) (hk:keyOf P k key=some kl) (hin:(m key).isSome=true)
  (hK:∀ w',RangeV P k w' b r N (upd m key val) left cnt->w.grownBy w' (some b)->w'.heap.size=w.heap.size->wpList P ops Q rest (a.put o.dst undef) w'):wpList P ops Q (o :: rest) a w:=by
 refine wpList_plain hg fun K' hK'=>?_
 obtain ⟨w',hrun,r1,r2,r3⟩:=h.store K ht hn val hk hin
 unfold Oper.wp
 simp[execOp,hop,hm,hx,hv,hrun,Result.andThen]
 exact hK' _ _ (hK w' r1 r2 r3)
end Go.Proofs.YtfmmllpjgkgeaaaGreatDoor

