import Derived.Deep.RegionHeld3
import Derived.Test.YtfmmllpjgkgeaaaGreatDoorPart02
set_option linter.unusedVariables false
set_option linter.unusedSimpArgs false
set_option maxHeartbeats 16000000
set_option maxRecDepth 100000
namespace Go.Proofs.YtfmmllpjgkgeaaaGreatDoor
open Go.RowKit

def pickN (c:Int) (n:Nat):Nat:=(if c<0 then (-(c+1)).toNat else c.toNat) % n
theorem pickN_lt (c:Int) {n:Nat} (h:1<=n):pickN c n<n:=Nat.mod_lt _ (by omega)
def i64B (c:Int):Prop:=-9223372036854775808<=c/\c<=9223372036854775807

theorem kpick_any (c:Int) (n:Nat) (w:World) (hc64:i64B c) (hn:1<=n) (hn2:n<=9223372036854775807) :
  Calls Tryz.prog 18 #[.int .i64 c,.int .i64 (n:Int)] w fun r w'=>r=.returned (.int .i64 (pickN c n:Int))/\w'=w:=by
 obtain ⟨h0,h1⟩:=hc64
 unfold pickN
 by_cases hc:c<0
 ·have e1:IntKind.i64.wrap (c+1)=c+1:=wrap_in _ (by omega) (by omega)
  have e2:IntKind.i64.wrap (-(c+1)) = -(c+1):=wrap_in _ (by omega) (by omega)
  obtain ⟨d,hd⟩:∃ d:Nat,-(c+1)=(d:Int):=⟨(-(c+1)).toNat,by omega⟩
  have hnz:((n:Int) == 0)=false:=beq_eq_false_iff_ne.2 (by omega)
  have hnz':¬n=0:=by omega
  have e3:(d:Int).tmod (n:Int)=((d % n:Nat):Int):=rfl
  have e4:IntKind.i64.wrap ((d % n:Nat):Int)=((d % n:Nat):Int):=wrap_in _ (by omega) (by have:=Nat.mod_lt d (show n > 0 by omega);omega)
  rw[if_pos hc,hd,Int.toNat_natCast]
  go_enter Tryz.func18,Tryz.ntmps18
  go_wp2
  go_ret
  exact ⟨by first | rfl | (rw[Int.natCast_emod];rfl),rfl⟩
 ·obtain ⟨d,rfl⟩:∃ d:Nat,c=(d:Int):=⟨c.toNat,by omega⟩
  have hnz:((n:Int) == 0)=false:=beq_eq_false_iff_ne.2 (by omega)
  have hnz':¬n=0:=by omega
  have e3:(d:Int).tmod (n:Int)=((d % n:Nat):Int):=rfl
  have e4:IntKind.i64.wrap ((d % n:Nat):Int)=((d % n:Nat):Int):=wrap_in _ (by omega) (by have:=Nat.mod_lt d (show n > 0 by omega);omega)
  rw[if_neg hc,Int.toNat_natCast]
  go_enter Tryz.func18,Tryz.ntmps18
  go_wp2
  go_ret
  exact ⟨by first | rfl | (rw[Int.natCast_emod];rfl),rfl⟩

def sizeN (c:Int):Nat:=2+pickN c 3
theorem sizeN_le (c:Int):2<=sizeN c/\sizeN c<=4:=by
 have:=pickN_lt c (show 1<=3 by omega);unfold sizeN;omega
theorem ksize_any (c:Int) (w:World) (hc:i64B c) :
  Calls Tryz.prog 16 #[.int .i64 c] w fun r w'=>r=.returned (.int .i64 (sizeN c:Int))/\w'=w:=by
 have Hp:Hid (Calls Tryz.prog 18 #[.int .i64 c,.int .i64 3] w fun r w'=>r=.returned (.int .i64 (pickN c 3:Int))/\w'=w):=kpick_any c 3 w hc (by decide) (by decide)
 have hl:=pickN_lt c (show 1<=3 by omega)
 unfold sizeN
 generalize pickN c 3=k at *
 clear hc
 go_enter Tryz.func16,Tryz.ntmps16
 go_wp2_with fail
 refine Calls.mono Hp.out ?_
 rintro e w1 ⟨rfl,rfl⟩
 go_wp2
 go_ret
 exact ⟨by first | rfl | (congr 2;omega),rfl⟩

def placeB:Nat->ByteArray
 | 0=>⟨#[115,97]⟩
 | 1=>⟨#[115,97,98]⟩
 | 2=>⟨#[102,97]⟩
 | 3=>⟨#[114,97]⟩
 | 4=>⟨#[99,97]⟩
 | 5=>⟨#[109,97,47,115,97]⟩
 | 6=>⟨#[109,97,47,99,97]⟩
 | 7=>⟨#[109,97,47,109,98,47,114,97]⟩
 | 8=>⟨#[109,97,47,109,98,47,102,97]⟩
 | 9=>⟨#[109,97,98,47,115,97]⟩
 | 10=>⟨#[109,97]⟩
 | _=>⟨#[109,97,47,109,98]⟩
theorem kplace_any (c:Int) (w:World) (hc:i64B c) :
  Calls Tryz.prog 42 #[.int .i64 c] w fun r w'=>r=.returned (.string (placeB (pickN c 12)))/\w'=w:=by
 have Hp:Hid (Calls Tryz.prog 18 #[.int .i64 c,.int .i64 12] w fun r w'=>r=.returned (.int .i64 (pickN c 12:Int))/\w'=w):=kpick_any c 12 w hc (by decide) (by decide)
 have hl:=pickN_lt c (show 1<=12 by omega)
 generalize pickN c 12=k at *
 clear hc
 obtain rfl | rfl | rfl | rfl | rfl | rfl | rfl | rfl | rfl | rfl | rfl | rfl:k=0\/k=1\/k=2\/k=3\/k=4\/k=5\/k=6\/k=7\/k=8\/k=9\/k=10\/k=11:=by omega
 all_goals
  go_enter Tryz.func42,Tryz.ntmps42
  go_wp2_with fail
  refine Calls.mono Hp.out ?_
  rintro e w1 ⟨rfl,rfl⟩
  go_wp2
  go_ret
  exact ⟨rfl,rfl⟩

theorem kdigits_pos (n:Nat) (w:World) (hn:n<=1000000000000) :
  Calls Tryz.prog 26 #[.int .i64 (n:Int)] w fun e w'=>∃ t,e=.returned (.string t)/\toL t=Thk.digs n/\t.size<=100/\Below w.heap.size w w':=by
 have hcv:=conv_one
 go_enter Tryz.func26,Tryz.ntmps26
 go_wp2
 go_loopw [0,3] (fun m s wr=>∃ (k:Nat) (t:ByteArray) (j:Nat),m=.int .i64 (k:Int)/\s=.string t/\k<=1000000000000/\t.size+j<=14/\Hid (Thk.digs n=Thk.upper k ++ toL t)/\Hid (k<10 ^ j)/\Below w.heap.size w wr) (fun m _ _=>(intOf m).toNat)
 case atStart =>
  refine ⟨n,strOfNums [48+(n:Int) % 10],13,rfl,rfl,hn,by simp[strOfNums_size], ?_, ?_,by go_grown⟩
  ·unfold Hid;rw[toL_strOfNums,Thk.digs_upper];congr 3
  ·unfold Hid;omega
 case round =>
  obtain ⟨k,t,j,rfl,rfl,hk,hj,Hd,Hj,hb⟩:=hrel
  by_cases hlt:k<10
  ·go_wp2
   go_ret
   refine ⟨t,rfl, ?_,by omega,hb⟩
   rw[Hd.out];unfold Thk.upper;rw[if_pos hlt];(first | done | rfl)
  ·have hu:(strOfNums [48+(k:Int) / 10 % 10]).size=1:=strOfNums_size _
   have Hd2:Hid (Thk.digs n=Thk.upper (k / 10) ++ toL (strOfNums [48+(k:Int) / 10 % 10] ++ t)):=by
    unfold Hid;rw[toL_append,toL_strOfNums,Hd.out,Thk.upper_step k hlt,List.append_assoc];congr 3
   have Hj2:Hid (k / 10<10 ^ (j-1)/\1<=j):=by
    have h:=Hj.out
    cases j with
    | zero=>simp at h;omega
    | succ j=>rw[Nat.pow_succ] at h;exact ⟨by simp;omega,by omega⟩
   have hsz:(strOfNums [48+(k:Int) / 10 % 10] ++ t).size=1+t.size:=by rw[ByteArray.size_append,hu]
   have Hsz:Hid (_):=hsz
   clear hsz Hd Hj
   go_wp2
   go_roundw
   case rel=>exact ⟨k / 10,strOfNums [48+(k:Int) / 10 % 10] ++ t,j-1,by go_num,rfl,by omega,by rw[Hsz.out];have:=Hj2.out.2;omega,Hd2,Hj2.out.1,hb.alloc hb.size _⟩
   case measure=>simp[intOf];omega

theorem kdigits_any (n:Int) (w:World) (hn:n.natAbs<=1000000000000) :
  Calls Tryz.prog 26 #[.int .i64 n] w fun e w'=>∃ t,e=.returned (.string t)/\toL t=Thk.digits n/\t.size<=200/\Below w.heap.size w w':=by
 by_cases h:n<0
 ·obtain ⟨m,hm⟩:∃ m:Nat,n = -(m:Int)/\0<m:=⟨n.natAbs,by omega,by omega⟩
  obtain ⟨rfl,hm0⟩:=hm
  have hm1:m<=1000000000000:=by omega
  have hd:(-(m:Int) == (m:Int))=false:=by rw[beq_eq_false_iff_ne];omega
  go_enter Tryz.func26,Tryz.ntmps26
  go_wp2_with (go_at_call 26;refine (kdigits_pos m _ hm1).mono ?_;rintro e w' ⟨t,rfl,ht,hsz,hb⟩)
  go_ret
  refine ⟨⟨#[45]⟩ ++ t,rfl, ?_, ?_,hb⟩
  ·rw[toL_append,ht];unfold Thk.digits;rw[if_pos h];simp[toL]
  ·rw[ByteArray.size_append];have:(ByteArray.mk #[45]).size=1:=rfl;omega
 ·obtain ⟨m,rfl⟩:=Int.eq_ofNat_of_zero_le (show 0<=n by omega)
  refine (kdigits_pos m w (by omega)).mono ?_
  rintro e w' ⟨t,rfl,ht,hsz,hb⟩
  exact ⟨t,rfl,by rw[ht];unfold Thk.digits;rw[if_neg h];simp,by omega,hb⟩


theorem kkind_any (p:ByteArray) (w:World) (hp:1<=p.size) (hs:p.size<=1000) :
  Calls Tryz.prog 60 #[.string p] w fun e w'=>(∃ j,∃ hj:j<p.size,e=.returned (.int .u8 (p[j].toNat:Int))/\(j=0\/p.data.toList[j-1]? = some 47)/\(∀ i,j<=i->i+1<p.size->p.data.toList[i]?≠some 47))/\w'=w:=by
 go_enter Tryz.func60,Tryz.ntmps60
 go_wp2
 go_loopw [3] (fun v3 wr=>∃ k:Nat,v3=.int .i64 (k:Int)/\k<p.size/\Hid (∀ i,k<=i->i+1<p.size->p.data.toList[i]?≠some 47)/\wr=w) (fun m _=>(intOf m).toNat)
 case atStart=>exact ⟨p.size-1,by congr 1;omega,by omega,fun i h1 h2=>by omega,rfl⟩
 case round =>
  obtain ⟨k,rfl,hk,Hk,rfl⟩:=hrel
  cases k with
  | zero =>
   have h0:0<p.size:=hk
   go_wp2
   go_ret
   exact ⟨⟨0,hk,rfl,Or.inl rfl,Hk.out⟩,rfl⟩
  | succ k =>
   have hk':k<p.size:=by omega
   have e1:p.data.toList[k]? = some p[k]:=by rw[List.getElem?_eq_getElem (by simpa using hk')];(first | done | rfl)
   by_cases h47:p[k].toNat=47
   ·have h48:(p[k].toNat:Int)=47:=by omega
    go_wp2
    go_ret
    exact ⟨⟨k+1,hk,rfl,Or.inr (by rw[show k+1-1=k by omega,e1];exact congrArg some (UInt8.toNat_inj.1 h47)),Hk.out⟩,rfl⟩
   ·have h48:¬(p[k].toNat:Int)=47:=by omega
    have Hk2:Hid (∀ i,k<=i->i+1<p.size->p.data.toList[i]?≠some 47):=fun i h1 h2=>by
     by_cases h3:i=k
     ·subst h3;rw[e1];intro h4;exact h47 (by rw[Option.some.inj h4];rfl)
     ·exact Hk.out i (by omega) h2
    clear Hk
    go_wp2
    go_roundw
    case rel=>refine ⟨k, ?_,hk',Hk2, ?_⟩ <;> first | rfl | trivial | (congr 1;omega)
    case measure=>simp[intOf] <;> omega

def kindC:Nat->UInt8
 | 0 | 1 | 5 | 9=>115
 | 2 | 8=>102
 | 3 | 7=>114
 | 4 | 6=>99
 | _=>109
theorem placeB_size (a:Nat):1<=(placeB a).size/\(placeB a).size<=8:=by
 unfold placeB;split <;> decide
def kf (a j:Nat):Bool:=!(decide (j<(placeB a).size)) || !(j == 0 || (placeB a).data.toList[j-1]? == some 47) || ((List.range 8).any fun i=>decide (j<=i) && decide (i+1<(placeB a).size) && (placeB a).data.toList[i]? == some 47) || (placeB a).data.toList[j]? == some (kindC a)
theorem kf_all:∀ a,a<12->∀ j,j<8->kf a j=true:=by decide +kernel
theorem kind_fix (a:Nat) (ha:a<12) (j:Nat) (hj:j<8) (h1:j<(placeB a).size) (h2:j=0\/(placeB a).data.toList[j-1]? = some 47) (h3:∀ i,j<=i->i+1<(placeB a).size->(placeB a).data.toList[i]?≠some 47):(placeB a).data.toList[j]? = some (kindC a):=by
 have h:=kf_all a ha j hj
 unfold kf at h
 simp only[Bool.or_eq_true,Bool.not_eq_true',decide_eq_false_iff_not,List.any_eq_true,Bool.and_eq_true,decide_eq_true_eq,beq_iff_eq] at h
 rcases h with ((h | h) | ⟨i,_,⟨h4,h5⟩,h6⟩) | h
 ·exact absurd h1 h
 ·exfalso
  rcases h2 with h2 | h2
  ·rw[h2] at h;simp at h
  ·rw[h2] at h;simp at h
 ·exact absurd h6 (h3 i h4 h5)
 ·exact h
theorem kkind_place (a:Nat) (ha:a<12) (w:World):Calls Tryz.prog 60 #[.string (placeB a)] w fun e w'=>e=.returned (.int .u8 ((kindC a).toNat:Int))/\w'=w:=by
 have hs:=placeB_size a
 refine Calls.mono (kkind_any (placeB a) w hs.1 (by omega)) ?_
 rintro e w' ⟨⟨j,hj,rfl,h1,h2⟩,rfl⟩
 have h3:=kind_fix a ha j (by omega) hj h1 h2
 rw[List.getElem?_eq_getElem (by simpa using hj)] at h3
 have h4:(placeB a)[j]=kindC a:=Option.some.inj h3
 rw[h4]
 exact ⟨rfl,rfl⟩

def valL (b:Nat):Thk.Bs:=[UInt8.ofNat (97+b % 4)]
def changeL (a b:Nat):Thk.Bs :=
 toL (placeB a) ++ (if b=39 then [33] else if kindC a=115 then (if b % 3=2 then [45] else [43]) ++ valL b else if kindC a=102 then (if b % 3=2 then [95] else [94]) else if kindC a=114 then [61] ++ valL b
  else if kindC a=99 then [62] ++ Thk.digits ((b:Int)-20) else [33])
theorem val_ext (r:Nat) (h:r<4):toL ((⟨#[97,98,99,100]⟩:ByteArray).extract r (r+1))=[UInt8.ofNat (97+r)]:=by
 obtain rfl | rfl | rfl | rfl:r=0\/r=1\/r=2\/r=3:=by omega
 all_goals rfl
theorem val_size (r:Nat) (h:r<4):((⟨#[97,98,99,100]⟩:ByteArray).extract r (r+1)).size=1:=by
 obtain rfl | rfl | rfl | rfl:r=0\/r=1\/r=2\/r=3:=by omega
 all_goals rfl
theorem fin_mk {p u:ByteArray} {L:Thk.Bs} {w w':World} (hp:p.size<=8) (hu:u.size<=200) (hL:L=toL p ++ toL u) (hb:Below w.heap.size w w'):∃ t,Ending.returned (Value.string (p ++ u))=.returned (.string t)/\toL t=L/\t.size<=300/\Below w.heap.size w w' :=
 ⟨_,rfl,by rw[toL_append,hL],by rw[ByteArray.size_append];omega,hb⟩
theorem fin_mk2 {p u q:ByteArray} {L:Thk.Bs} {w w':World} (hp:p.size<=8) (hu:u.size<=20) (hq:q.size<=200) (hL:L=toL p ++ (toL u ++ toL q)) (hb:Below w.heap.size w w'):∃ t,Ending.returned (Value.string (p ++ u ++ q))=.returned (.string t)/\toL t=L/\t.size<=300/\Below w.heap.size w w' :=
 ⟨_,rfl,by rw[toL_append,toL_append,hL,List.append_assoc],by rw[ByteArray.size_append,ByteArray.size_append];omega,hb⟩

theorem kchange_any (k v:Int) (w:World) (hk:i64B k) (hv:i64B v) :
  Calls Tryz.prog 33 #[.int .i64 k,.int .i64 v] w fun e w'=>∃ t,e=.returned (.string t)/\toL t=changeL (pickN k 12) (pickN v 40)/\t.size<=300/\Below w.heap.size w w':=by
 have Hp:Hid (∀ wx,Calls Tryz.prog 42 #[.int .i64 k] wx fun r w'=>r=.returned (.string (placeB (pickN k 12)))/\w'=wx):=fun wx=>kplace_any k wx hk
 have Hn:Hid (∀ wx,Calls Tryz.prog 18 #[.int .i64 v,.int .i64 40] wx fun r w'=>r=.returned (.int .i64 (pickN v 40:Int))/\w'=wx):=fun wx=>kpick_any v 40 wx hv (by decide) (by decide)
 have ha:=pickN_lt k (show 1<=12 by omega)
 have hb:=pickN_lt v (show 1<=40 by omega)
 clear hk hv
 generalize pickN k 12=a at *
 generalize pickN v 40=b at *
 have Hk:Hid (∀ wx,Calls Tryz.prog 60 #[.string (placeB a)] wx fun e w'=>e=.returned (.int .u8 ((kindC a).toNat:Int))/\w'=wx):=fun wx=>kkind_place a ha wx
 have Hd:Hid (∀ wx,Calls Tryz.prog 26 #[.int .i64 ((b:Int)-20)] wx fun e w'=>∃ t,e=.returned (.string t)/\toL t=Thk.digits ((b:Int)-20)/\t.size<=200/\Below wx.heap.size wx w'):=fun wx=>kdigits_any _ wx (by omega)
 have hps:=(placeB_size a).2
 obtain ⟨kd,hkd⟩:∃ kd,kindC a=kd:=⟨_,rfl⟩
 have HC:Hid (changeL a b=toL (placeB a) ++ (if b=39 then [33] else if kd=115 then (if b % 3=2 then [45] else [43]) ++ valL b else if kd=102 then (if b % 3=2 then [95] else [94]) else if kd=114 then [61] ++ valL b
  else if kd=99 then [62] ++ Thk.digits ((b:Int)-20) else [33])):=by unfold Hid changeL;rw[hkd]
 rw[hkd] at Hk
 clear hkd ha
 generalize placeB a=p at *
 generalize changeL a b=L at *
 have hv4:b % 4<4:=Nat.mod_lt _ (by decide)
 have e3:(b:Int).tmod 4=((b % 4:Nat):Int):=rfl
 have e4:(b:Int).tmod 3=((b % 3:Nat):Int):=rfl
 go_enter Tryz.func33,Tryz.ntmps33
 go_wp2_with fail
 refine Calls.mono (Hp.out _) ?_
 rintro e w1 ⟨rfl,rfl⟩
 go_wp2_with fail
 refine Calls.mono (Hn.out _) ?_
 rintro e w1 ⟨rfl,rfl⟩
 by_cases h39:b=39
 ·subst h39
  go_wp2
  go_ret
  exact fin_mk (u:=⟨#[33]⟩) hps (by decide) (by rw[HC.out,if_pos (by first | exact trivial | rfl)];rfl) (Below.refl _ _)
 ·have h39':¬(b:Int)=39:=by omega
  go_wp2_with fail
  refine Calls.mono (Hk.out _) ?_
  rintro e w2 ⟨rfl,rfl⟩
  rw[if_neg h39] at HC
  have hq:=val_ext (b % 4) hv4
  have hqs:=val_size (b % 4) hv4
  generalize (⟨#[97,98,99,100]⟩:ByteArray).extract (b % 4) (b % 4+1)=q at *
  have Hq:Hid (toL q=valL b):=hq
  clear hq hv4 e3
  by_cases h1:kd=115
  ·subst h1
   rw[if_pos rfl] at HC
   have hx:(((115:UInt8).toNat:Nat):Int)=115:=rfl
   by_cases h2:b % 3=2
   ·rw[if_pos h2] at HC
    go_wp2
    go_ret
    exact fin_mk2 (u:=⟨#[45]⟩) hps (by decide) (by rw[hqs];decide) (by rw[HC.out,<- Hq.out];rfl) (Below.refl _ _)
   ·rw[if_neg h2] at HC
    have h2':¬(b:Int) % 3=2:=by omega
    go_wp2
    go_ret
    exact fin_mk2 (u:=⟨#[43]⟩) hps (by decide) (by rw[hqs];decide) (by rw[HC.out,<- Hq.out];rfl) (Below.refl _ _)
  ·rw[if_neg h1] at HC
   have h1':¬(kd.toNat:Int)=115:=fun h=>h1 (UInt8.toNat_inj.1 (Int.ofNat.inj h))
   by_cases h1b:kd=102
   ·subst h1b
    rw[if_pos rfl] at HC
    have hx:(((102:UInt8).toNat:Nat):Int)=102:=rfl
    by_cases h2:b % 3=2
    ·rw[if_pos h2] at HC
     go_wp2
     go_ret
     exact fin_mk (u:=⟨#[95]⟩) hps (by decide) (by rw[HC.out];rfl) (Below.refl _ _)
    ·rw[if_neg h2] at HC
     have h2':¬(b:Int) % 3=2:=by omega
     go_wp2
     go_ret
     exact fin_mk (u:=⟨#[94]⟩) hps (by decide) (by rw[HC.out];rfl) (Below.refl _ _)
   ·rw[if_neg h1b] at HC
    have h1c:¬(kd.toNat:Int)=102:=fun h=>h1b (UInt8.toNat_inj.1 (Int.ofNat.inj h))
    by_cases h1d:kd=114
    ·subst h1d
     rw[if_pos rfl] at HC
     have hx:(((114:UInt8).toNat:Nat):Int)=114:=rfl
     go_wp2
     go_ret
     exact fin_mk2 (u:=⟨#[61]⟩) hps (by decide) (by rw[hqs];decide) (by rw[HC.out,<- Hq.out];rfl) (Below.refl _ _)
    ·rw[if_neg h1d] at HC
     have h1e:¬(kd.toNat:Int)=114:=fun h=>h1d (UInt8.toNat_inj.1 (Int.ofNat.inj h))
     by_cases h1f:kd=99
     ·subst h1f
      rw[if_pos rfl] at HC
      have hx:(((99:UInt8).toNat:Nat):Int)=99:=rfl
      go_wp2_with fail
      refine Calls.mono (Hd.out _) ?_
      rintro e w3 ⟨u,rfl,hu,hus,hb3⟩
      have Hu:Hid (toL u=Thk.digits ((b:Int)-20)):=hu
      have Hb3:Hid (Below _ _ w3):=hb3
      clear hu hb3
      go_wp2
      go_ret
      exact fin_mk2 (u:=⟨#[62]⟩) hps (by decide) hus (by rw[HC.out,<- Hu.out];rfl) Hb3.out
     ·rw[if_neg h1f] at HC
      have h1g:¬(kd.toNat:Int)=99:=fun h=>h1f (UInt8.toNat_inj.1 (Int.ofNat.inj h))
      go_wp2
      go_ret
      exact fin_mk (u:=⟨#[33]⟩) hps (by decide) (by rw[HC.out];rfl) (Below.refl _ _)
variable {F:Stt} {R:Nat->Prop}

def Mk (B:Nat) (T:Nat->Prop):Nat->Prop:=fun k=>B<=k/\¬T k
structure KAt (F:Stt) (T:Nat->Prop) (w:World) (x:Nat) (s:St) (wx:World):Prop where
 f:∃ S,F wx x S s/\∀ k,S k->w.heap.size<=k/\¬T k
 tl:∀ k,T k->k<wx.heap.size
 bel:Below w.heap.size w wx
 gw:Glob w
theorem KAt.glob {F:Stt} {T:Nat->Prop} {w wx:World} {x:Nat} {s:St} (h:KAt F T w x s wx):Glob wx:=h.gw.mono h.bel
theorem chg_wide {M M':Nat->Prop} {w w':World} (h:Chg M w w') (hm:∀ k,M k->M' k):Chg M' w w':=⟨h.os,h.tape,h.output,h.size,fun k hk hn=>h.block k hk (fun e=>hn (hm k e))⟩
section
variable {T:Nat->Prop} {w wx wy:World} {x:Nat} {s s':St} {S S':Nat->Prop}
theorem KAt.next (h:KAt F T w x s wx) (hS:∀ k,S k->w.heap.size<=k/\¬T k) (hf:F wy x S' s') (hs:∀ k,S' k->S k\/wx.heap.size<=k) (hc:Chg S wx wy):KAt F T w x s' wy/\Chg (Mk w.heap.size T) wx wy :=
 have hb:Below w.heap.size wx wy:=chgS_below hc (fun k hk=>(hS k hk).1) h.bel.size
 ⟨⟨⟨S',hf,fun k hk=>(hs k hk).elim (hS k) (fun h2=>⟨Nat.le_trans h.bel.size h2,fun ht=>by have:=h.tl k ht;omega⟩)⟩,fun k hk=>Nat.lt_of_lt_of_le (h.tl k hk) hc.size,h.bel.trans hb,h.gw⟩,chg_wide hc (fun k hk=>hS k hk)⟩
theorem KAt.does (hF:ProgOK F R) (h:KAt F T w x s wx) {i:Int} {t:ByteArray} {r:Int} {es':List Ev} {kn':List (List Bool)} (ht:t.size<=1048576) (hd:DoOut s.es s.kn i (toL t) r es' kn') :
  Calls Tryz.prog 23 #[.pointer (some ⟨x,0,none⟩),.int .i64 i,.string t] wx fun e w'=>e=.returned (.int .i64 r)/\KAt F T w x ⟨es',kn',s.fs⟩ w'/\Chg (Mk w.heap.size T) wx w':=by
 obtain ⟨S,f1,s1⟩:=h.f
 refine Calls.mono (hF.does wx x S s i t r es' kn' h.glob f1 ht hd) ?_
 rintro e w2 ⟨rfl,S2,f2,s2,hc2⟩
 exact ⟨rfl,h.next s1 f2 s2 hc2⟩
theorem KAt.asks (hF:ProgOK F R) (h:KAt F T w x s wx) (i:Int) {t:ByteArray} (ht:t.size<=1048576) :
  Calls Tryz.prog 24 #[.pointer (some ⟨x,0,none⟩),.int .i64 i,.string t] wx fun e w'=>∃ u,e=.returned (.tuple #[.string u,.int .i64 (askR s.es s.kn i (toL t)).2])/\toL u=(askR s.es s.kn i (toL t)).1/\KAt F T w x s w'/\Chg (Mk w.heap.size T) wx w':=by
 obtain ⟨S,f1,s1⟩:=h.f
 refine Calls.mono (hF.asks wx x S s i t h.glob f1 ht) ?_
 rintro e w2 ⟨u,rfl,hu,S2,f2,s2,hc2⟩
 exact ⟨u,rfl,hu,h.next s1 f2 s2 hc2⟩
theorem KAt.knows (hF:ProgOK F R) (h:KAt F T w x s wx) (i:Int) :
  Calls Tryz.prog 22 #[.pointer (some ⟨x,0,none⟩),.int .i64 i] wx fun e w'=>e=.returned (.tuple #[.int .i64 (knowsR s.kn i).1,.int .i64 (knowsR s.kn i).2])/\KAt F T w x s w'/\Chg (Mk w.heap.size T) wx w':=by
 obtain ⟨S,f1,s1⟩:=h.f
 refine Calls.mono (hF.knows wx x S s i h.glob f1) ?_
 rintro e w2 ⟨rfl,S2,f2,s2,hc2⟩
 exact ⟨rfl,h.next s1 f2 s2 hc2⟩
theorem KAt.sends (hF:ProgOK F R) (h:KAt F T w x s wx) (i j:Int) :
  Calls Tryz.prog 27 #[.pointer (some ⟨x,0,none⟩),.int .i64 i,.int .i64 j] wx fun e w'=>e=.returned (.tuple #[.int .i64 (sendR s i j).1,.int .i64 (sendR s i j).2])/\∃ s',SendTo s i j s'/\KAt F T w x s' w'/\Chg (Mk w.heap.size T) wx w':=by
 obtain ⟨S,f1,s1⟩:=h.f
 refine Calls.mono (hF.sends wx x S s i j h.glob f1) ?_
 rintro e w2 ⟨rfl,S2,s2',hs,f2,s2,hc2⟩
 exact ⟨rfl,s2',hs,h.next s1 f2 s2 hc2⟩
theorem KAt.dels (hF:ProgOK F R) (h:KAt F T w x s wx) (f:Int) :
  Calls Tryz.prog 31 #[.pointer (some ⟨x,0,none⟩),.int .i64 f] wx fun e w'=>e=.returned (.tuple #[.int .i64 (delR s f).1,.int .i64 (delR s f).2])/\∃ s',DelTo s f s'/\KAt F T w x s' w'/\Chg (Mk w.heap.size T) wx w':=by
 obtain ⟨S,f1,s1⟩:=h.f
 refine Calls.mono (hF.dels wx x S s f h.glob f1) ?_
 rintro e w2 ⟨rfl,S2,s2',hs,f2,s2,hc2⟩
 exact ⟨rfl,s2',hs,h.next s1 f2 s2 hc2⟩
theorem KAt.more {T':Nat->Prop} (h:KAt F T w x s wx) (hb:Below wx.heap.size wx wy) (hP:∀ S,F wx x S s->F wy x S s) (hT:∀ S,F wx x S s->∀ k,S k->k<wx.heap.size) (ht:∀ k,T' k->T k\/wx.heap.size<=k) (htl:∀ k,T' k->k<wy.heap.size):KAt F T' w x s wy:=by
 obtain ⟨S,f1,s1⟩:=h.f
 exact ⟨⟨S,hP S f1,fun k hk=>⟨(s1 k hk).1,fun h9=>(ht k h9).elim (s1 k hk).2 (fun h8=>by have:=hT S f1 k hk;omega)⟩⟩,htl,h.bel.trans (hb.mono h.bel.size),h.gw⟩
end

def zE1:Ev:=⟨⟨#[115,122,122]⟩,43,⟨#[113]⟩,0,[]⟩
def zE2:Ev:=⟨⟨#[115,122,122]⟩,45,⟨#[113]⟩,0,[true]⟩
def zS (n:Nat):St:=⟨[zE1,zE2],[true,true] :: List.replicate (n-1) [],[]⟩
theorem zd1 (n:Nat) (h:2<=n/\n<=4):DoOut [] (List.replicate n []) 0 (toL ⟨#[115,122,122,43,113]⟩) 0 [zE1] ([true] :: List.replicate (n-1) []):=by
 obtain rfl | rfl | rfl:n=2\/n=3\/n=4:=by omega
 all_goals exact DoOut.done (es:=[]) (knowns:=List.replicate _ []) (i:=0) ⟨[115,122,122],43,[113],0⟩ zE1 (by decide) (by kernel_rfl) (by decide) rfl rfl rfl rfl rfl
theorem zd2 (n:Nat) (h:2<=n/\n<=4):DoOut [zE1] ([true] :: List.replicate (n-1) []) 0 (toL ⟨#[115,122,122,45,113]⟩) 0 [zE1,zE2] ([true,true] :: List.replicate (n-1) []):=by
 obtain rfl | rfl | rfl:n=2\/n=3\/n=4:=by omega
 all_goals exact DoOut.done (es:=[zE1]) (knowns:=[true] :: List.replicate _ []) (i:=0) ⟨[115,122,122],45,[113],0⟩ zE2 (by decide) (by kernel_rfl) (by decide) rfl rfl rfl rfl rfl
theorem za1 (n:Nat) (h:2<=n/\n<=4):askR [zE1] ([true] :: List.replicate (n-1) []) 0 (toL ⟨#[115,122,122]⟩)=([113],0):=by
 obtain rfl | rfl | rfl:n=2\/n=3\/n=4:=by omega
 all_goals decide +kernel
theorem za2 (n:Nat) (h:2<=n/\n<=4):askR [zE1,zE2] ([true,true] :: List.replicate (n-1) []) 0 (toL ⟨#[115,122,122]⟩)=([],0):=by
 obtain rfl | rfl | rfl:n=2\/n=3\/n=4:=by omega
 all_goals decide +kernel
theorem zk (n:Nat) (h:2<=n/\n<=4):knowsR ([true,true] :: List.replicate (n-1) []) 0=(2,0):=by
 obtain rfl | rfl | rfl:n=2\/n=3\/n=4:=by omega
 all_goals decide +kernel
end Go.Proofs.YtfmmllpjgkgeaaaGreatDoor
namespace Go.Proofs.YtfmmllpjgkgeaaaGreatDoor
open Go.RowKit
variable {F:Stt} {R:Nat->Prop}

theorem cluster_any (hF:ProgOK F R) (w:World) (hG:Glob w) (n room:Nat) (hn:2<=n/\n<=4) (hr:room<=50) (hR:R room) :
  Calls Tryz.prog 17 #[.int .i64 (n:Int),.int .i64 (room:Int)] w fun e w'=>∃ x,e=.returned (.pointer (some ⟨x,0,none⟩))/\KAt F (fun _=>False) w x (zS n) w':=by
 have HN:Hid (Calls Tryz.prog 40 #[.int .i64 (n:Int),.int .i64 (room:Int)] w fun e w'=>∃ x,e=.returned (.tuple #[.pointer (some ⟨x,0,none⟩),.int .i64 0])/\KAt F (fun _=>False) w x ⟨[],List.replicate n [],[]⟩ w'):=by
  refine Calls.mono (hF.good w n room hG (by omega) (by omega) hr hR) ?_
  rintro e w1 ⟨x,S1,rfl,f1,s1,hb1⟩
  exact ⟨x,rfl,⟨S1,f1,fun k hk=>⟨s1 k hk,id⟩⟩,fun k hk=>hk.elim,hb1,hG⟩
 have HD1:Hid (∀ x wx,KAt F (fun _=>False) w x ⟨[],List.replicate n [],[]⟩ wx->Calls Tryz.prog 23 #[.pointer (some ⟨x,0,none⟩),.int .i64 0,.string ⟨#[115,122,122,43,113]⟩] wx fun e w'=>e=.returned (.int .i64 0)/\KAt F (fun _=>False) w x ⟨[zE1],[true] :: List.replicate (n-1) [],[]⟩ w'):=fun x wx h=>by
  refine Calls.mono (h.does hF (by decide) (zd1 n hn)) ?_
  rintro e w2 ⟨rfl,h2,_⟩
  exact ⟨rfl,h2⟩
 have HA1:Hid (∀ x wx,KAt F (fun _=>False) w x ⟨[zE1],[true] :: List.replicate (n-1) [],[]⟩ wx->Calls Tryz.prog 24 #[.pointer (some ⟨x,0,none⟩),.int .i64 0,.string ⟨#[115,122,122]⟩] wx fun e w'=>e=.returned (.tuple #[.string ⟨#[113]⟩,.int .i64 0])/\KAt F (fun _=>False) w x ⟨[zE1],[true] :: List.replicate (n-1) [],[]⟩ w'):=fun x wx h=>by
  refine Calls.mono (h.asks hF 0 (by decide)) ?_
  show ∀ e w',_->_
  rw[za1 n hn]
  rintro e w2 ⟨u,rfl,hu,h2,_⟩
  have:u=⟨#[113]⟩:=toL_inj hu
  subst this
  exact ⟨rfl,h2⟩
 have HD2:Hid (∀ x wx,KAt F (fun _=>False) w x ⟨[zE1],[true] :: List.replicate (n-1) [],[]⟩ wx->Calls Tryz.prog 23 #[.pointer (some ⟨x,0,none⟩),.int .i64 0,.string ⟨#[115,122,122,45,113]⟩] wx fun e w'=>e=.returned (.int .i64 0)/\KAt F (fun _=>False) w x (zS n) w'):=fun x wx h=>by
  refine Calls.mono (h.does hF (by decide) (zd2 n hn)) ?_
  rintro e w2 ⟨rfl,h2,_⟩
  exact ⟨rfl,h2⟩
 have HA2:Hid (∀ x wx,KAt F (fun _=>False) w x (zS n) wx->Calls Tryz.prog 24 #[.pointer (some ⟨x,0,none⟩),.int .i64 0,.string ⟨#[115,122,122]⟩] wx fun e w'=>e=.returned (.tuple #[.string ⟨#[]⟩,.int .i64 0])/\KAt F (fun _=>False) w x (zS n) w'):=fun x wx h=>by
  refine Calls.mono (h.asks hF 0 (by decide)) ?_
  have e1:askR (zS n).es (zS n).kn 0 (toL ⟨#[115,122,122]⟩)=([],0):=za2 n hn
  rw[e1]
  rintro e w2 ⟨u,rfl,hu,h2,_⟩
  have:u=⟨#[]⟩:=toL_inj hu
  subst this
  exact ⟨rfl,h2⟩
 have HK:Hid (∀ x wx,KAt F (fun _=>False) w x (zS n) wx->Calls Tryz.prog 22 #[.pointer (some ⟨x,0,none⟩),.int .i64 0] wx fun e w'=>e=.returned (.tuple #[.int .i64 2,.int .i64 0])/\KAt F (fun _=>False) w x (zS n) w'):=fun x wx h=>by
  refine Calls.mono (h.knows hF 0) ?_
  have e1:knowsR (zS n).kn 0=(2,0):=zk n hn
  rw[e1]
  rintro e w2 ⟨rfl,h2,_⟩
  exact ⟨rfl,h2⟩
 clear hF hG hn hr
 go_enter Tryz.func17,Tryz.ntmps17
 go_wp2_with fail
 refine Calls.mono HN.out ?_
 rintro e w1 ⟨x,rfl,h1⟩
 go_wp2_with fail
 refine Calls.mono (HD1.out x w1 h1) ?_
 rintro e w2 ⟨rfl,h2⟩
 clear h1
 go_wp2_with fail
 refine Calls.mono (HA1.out x w2 h2) ?_
 rintro e w3 ⟨rfl,h3⟩
 clear h2
 go_wp2_with fail
 refine Calls.mono (HD2.out x w3 h3) ?_
 rintro e w4 ⟨rfl,h4⟩
 clear h3
 go_wp2_with fail
 refine Calls.mono (HA2.out x w4 h4) ?_
 rintro e w5 ⟨rfl,h5⟩
 clear h4
 go_wp2_with fail
 refine Calls.mono (HK.out x w5 h5) ?_
 rintro e w6 ⟨rfl,h6⟩
 have H6:Hid (KAt F (fun _=>False) w x (zS n) w6):=h6
 clear h5 h6 HN HD1 HD2 HA1 HA2 HK
 go_wp2
 go_ret
 exact ⟨x,rfl,H6.out⟩
end Go.Proofs.YtfmmllpjgkgeaaaGreatDoor
namespace Go.Proofs.YtfmmllpjgkgeaaaGreatDoor
open Go.RowKit

variable {F:Stt}

section
variable {T:Nat->Prop} {w wx wy:World} {x:Nat} {s s':St}
theorem KAt.below (hP:ProgFrame F) (h:KAt F T w x s wx) (hb:Below wx.heap.size wx wy):KAt F T w x s wy/\Chg (Mk w.heap.size T) wx wy:=by
 obtain ⟨S,f1,s1⟩:=h.f
 exact ⟨⟨⟨S,hP.below f1 hb,s1⟩,fun k hk=>Nat.lt_of_lt_of_le (h.tl k hk) hb.size,h.bel.trans (hb.mono h.bel.size),h.gw⟩,Chg.of_below hb⟩
end
end Go.Proofs.YtfmmllpjgkgeaaaGreatDoor
namespace Go.Proofs.YtfmmllpjgkgeaaaGreatDoor
open Go.RowKit
variable {F:Stt} {R:Nat->Prop}

def KTo (F:Stt) (T:Nat->Prop) (w:World) (x:Nat) (s:St) (wx wy:World):Prop:=KAt F T w x s wy/\Chg (Mk w.heap.size T) wx wy
theorem KTo.trans {T:Nat->Prop} {w wx wy wz:World} {x:Nat} {s s':St} (h:KTo F T w x s wx wy) (h2:KTo F T w x s' wy wz):KTo F T w x s' wx wz:=⟨h2.1,h.2.trans h2.2⟩
end Go.Proofs.YtfmmllpjgkgeaaaGreatDoor
namespace Go.Proofs.YtfmmllpjgkgeaaaGreatDoor
open Go.RowKit
variable {F:Stt} {R:Nat->Prop}

structure ExTo (s:St) (i j:Nat) (s':St):Prop where
 es:s'.es=s.es
 kn:s'.kn=s.kn.set j (delK (s.kn.getD j []) (s.kn.getD i []))
 fs:∃ b c,s'.fs=s.fs ++ [⟨i,j,0,s.kn.getD i [],b⟩,⟨j,i,s.fs.length+1,[],c⟩]

theorem sendR_ok {s:St} {i j:Nat} (hi:i<s.kn.length) (hj:j<s.kn.length) (hne:i≠j) (hl:s.fs.length<500):sendR s (i:Int) (j:Int)=((s.fs.length:Int)+1,0):=by
 unfold sendR
 rw[if_pos ⟨⟨by omega,by omega⟩,by omega,by omega⟩,if_neg (by omega),if_neg (by omega)]
theorem frNo_last (s:St) (g:FrD) (fs:List FrD) (h:s.fs=fs ++ [g]):frNo s ((fs.length:Int)+1)=some g:=by
 unfold frNo
 rw[h,if_pos ⟨by omega,by simp⟩,show ((fs.length:Int)+1).toNat-1=fs.length by omega]
 simp
theorem delR_new {s:St} {f:Int} {g:FrD} (h:frNo s f=some g) (ha:g.ack=0) (hl:s.fs.length<500):delR s f=((s.fs.length:Int)+1,0):=by
 unfold delR;rw[h];simp only;rw[if_neg (by omega),if_neg (by omega)]
theorem delR_ack {s:St} {f:Int} {g:FrD} (h:frNo s f=some g) (ha:0<g.ack):delR s f=(0,0):=by
 unfold delR;rw[h];simp only;rw[if_pos ha]
theorem DelTo.new {s s':St} {f:Int} {g:FrD} (h:DelTo s f s') (hf:frNo s f=some g) (ha:g.ack=0) (hl:s.fs.length<500):s'.es=s.es/\s'.kn=s.kn.set g.dst (delK (s.kn.getD g.dst []) g.known)/\∃ b,s'.fs=s.fs ++ [⟨g.dst,g.src,f.toNat,[],b⟩]:=by
 obtain ⟨h1,h2⟩:=h
 rw[hf] at h2
 simp only at h2
 rw[if_neg (by omega)] at h2
 exact ⟨h1,h2.1,h2.2⟩
theorem DelTo.old {s s':St} {f:Int} {g:FrD} (h:DelTo s f s') (hf:frNo s f=some g) (ha:0<g.ack):s'=s:=by
 obtain ⟨h1,h2⟩:=h
 rw[hf] at h2
 simp only at h2
 rw[if_pos (Or.inl ha)] at h2
 obtain ⟨a,b,c⟩:=s
 obtain ⟨a',b',c'⟩:=s'
 simp only at h1 h2
 rw[h1,h2.1,h2.2]

theorem exchange_of {w0:World} {x i j N:Nat} {A1 A2 A3:World->Prop} (hN:N<=500) (Hs:Hid (Calls Tryz.prog 27 #[.pointer (some ⟨x,0,none⟩),.int .i64 (i:Int),.int .i64 (j:Int)] w0 fun e w'=>e=.returned (.tuple #[.int .i64 ((N:Int)+1),.int .i64 0])/\Hid (A1 w')))
  (Hd:Hid (∀ wx,A1 wx->Calls Tryz.prog 31 #[.pointer (some ⟨x,0,none⟩),.int .i64 ((N:Int)+1)] wx fun e w'=>e=.returned (.tuple #[.int .i64 ((N:Int)+2),.int .i64 0])/\Hid (A2 w')))
  (Ha:Hid (∀ wx,A2 wx->Calls Tryz.prog 31 #[.pointer (some ⟨x,0,none⟩),.int .i64 ((N:Int)+2)] wx fun e w'=>e=.returned (.tuple #[.int .i64 0,.int .i64 0])/\Hid (A3 w'))) :
  Calls Tryz.prog 35 #[.pointer (some ⟨x,0,none⟩),.int .i64 (i:Int),.int .i64 (j:Int)] w0 fun e w'=>e=.returned (.bool true)/\A3 w':=by
 go_enter Tryz.func35,Tryz.ntmps35
 go_wp2_with fail
 refine Calls.mono Hs.out ?_
 rintro e w1 ⟨rfl,H1⟩
 clear Hs
 go_wp2_with fail
 refine Calls.mono (Hd.out w1 H1.out) ?_
 rintro e w2 ⟨rfl,H2⟩
 clear Hd H1
 go_wp2_with fail
 refine Calls.mono (Ha.out w2 H2.out) ?_
 rintro e w3 ⟨rfl,H3⟩
 clear Ha H2
 go_wp2
 go_ret
 exact ⟨rfl,H3.out⟩

theorem exchange_any (hF:ProgOK F R) (T:Nat->Prop) (w w0:World) (x:Nat) (s:St) (h:KAt F T w x s w0) (i j:Nat) (hi:i<s.kn.length) (hj:j<s.kn.length) (hne:i≠j) (hl:s.fs.length+2<=500) :
  Calls Tryz.prog 35 #[.pointer (some ⟨x,0,none⟩),.int .i64 (i:Int),.int .i64 (j:Int)] w0 fun e w'=>e=.returned (.bool true)/\∃ s',ExTo s i j s'/\KTo F T w x s' w0 w':=by
 have Hs:Hid (Calls Tryz.prog 27 #[.pointer (some ⟨x,0,none⟩),.int .i64 (i:Int),.int .i64 (j:Int)] w0 fun e w'=>e=.returned (.tuple #[.int .i64 ((s.fs.length:Int)+1),.int .i64 0])/\∃ b,KTo F T w x ⟨s.es,s.kn,s.fs ++ [⟨i,j,0,s.kn.getD i [],b⟩]⟩ w0 w'):=by
  refine Calls.mono (h.sends hF (i:Int) (j:Int)) ?_
  rw[sendR_ok hi hj hne (by omega)]
  rintro e w' ⟨rfl,s',⟨t1,t2,t3⟩,hk⟩
  rw[sendR_ok hi hj hne (by omega),if_pos rfl] at t3
  obtain ⟨b,t3⟩:=t3
  obtain ⟨a1,a2,a3⟩:=s'
  simp only at t1 t2 t3
  subst t1 t2 t3
  exact ⟨rfl,b,hk⟩
 have Hd:Hid (∀ wx b,KTo F T w x ⟨s.es,s.kn,s.fs ++ [⟨i,j,0,s.kn.getD i [],b⟩]⟩ w0 wx->Calls Tryz.prog 31 #[.pointer (some ⟨x,0,none⟩),.int .i64 ((s.fs.length:Int)+1)] wx fun e w'=>e=.returned (.tuple #[.int .i64 ((s.fs.length:Int)+2),.int .i64 0])/\∃ s',ExTo s i j s'/\KTo F T w x s' w0 w'):=fun wx b hk=>by
  refine Calls.mono (hk.1.dels hF ((s.fs.length:Int)+1)) ?_
  have hf:=frNo_last ⟨s.es,s.kn,s.fs ++ [⟨i,j,0,s.kn.getD i [],b⟩]⟩ _ s.fs rfl
  have hl2:(⟨s.es,s.kn,s.fs ++ [⟨i,j,0,s.kn.getD i [],b⟩]⟩:St).fs.length=s.fs.length+1:=by simp
  rw[delR_new hf rfl (by omega),hl2]
  rintro e w' ⟨rfl,s',hd,hk2⟩
  obtain ⟨t1,t2,c,t3⟩:=hd.new hf rfl (by omega)
  refine ⟨by congr 4,s',⟨t1,t2,b,c, ?_⟩,hk.trans hk2⟩
  rw[t3,show ((s.fs.length:Int)+1).toNat=s.fs.length+1 by omega]
  simp
 have Ha:Hid (∀ wx s',ExTo s i j s'->KTo F T w x s' w0 wx->Calls Tryz.prog 31 #[.pointer (some ⟨x,0,none⟩),.int .i64 ((s.fs.length:Int)+2)] wx fun e w'=>e=.returned (.tuple #[.int .i64 0,.int .i64 0])/\KTo F T w x s' w0 w'):=fun wx s' hx hk=>by
  refine Calls.mono (hk.1.dels hF ((s.fs.length:Int)+2)) ?_
  obtain ⟨b,c,hfs⟩:=hx.fs
  have hf:=frNo_last s' ⟨j,i,s.fs.length+1,[],c⟩ (s.fs ++ [⟨i,j,0,s.kn.getD i [],b⟩]) (by rw[hfs];simp)
  rw[show (((s.fs ++ [(⟨i,j,0,s.kn.getD i [],b⟩:FrD)]).length:Nat):Int)+1=(s.fs.length:Int)+2 by simp;omega] at hf
  rw[delR_ack hf (by simp)]
  rintro e w' ⟨rfl,s2,hd,hk2⟩
  have:=hd.old hf (by simp)
  subst this
  exact ⟨rfl,hk.trans hk2⟩
 have hl64:s.fs.length<=500:=by omega
 clear hF h hi hj hne hl
 generalize s.fs.length=N at Hs Hd Ha hl64
 go_enter Tryz.func35,Tryz.ntmps35
 go_wp2_with fail
 refine Calls.mono Hs.out ?_
 rintro e w1 ⟨rfl,b,h1⟩
 have H1:Hid (_):=h1
 clear h1 Hs
 go_wp2_with fail
 refine Calls.mono (Hd.out w1 b H1.out) ?_
 rintro e w2 ⟨rfl,s',hx,h2⟩
 have H2:Hid (KTo F T w x s' w0 w2):=h2
 have HX:Hid (ExTo s i j s'):=hx
 clear h2 hx Hd H1
 go_wp2_with fail
 refine Calls.mono (Ha.out w2 s' HX.out H2.out) ?_
 rintro e w3 ⟨rfl,h3⟩
 have H3:Hid (KTo F T w x s' w0 w3):=h3
 clear h3 Ha H2
 go_wp2
 go_ret
 exact ⟨rfl,s',HX.out,H3.out⟩
end Go.Proofs.YtfmmllpjgkgeaaaGreatDoor
namespace Go.Proofs.YtfmmllpjgkgeaaaGreatDoor
open Go.RowKit
variable {F:Stt} {R:Nat->Prop}

def KK (s:St) (q m:Nat):Prop:=(s.kn.getD q []).getD m false=true
theorem getD_set' {α : Type} (l:List (List α)) (j:Nat) (v:List α) (q:Nat):(l.set j v).getD q []=if j=q/\j<l.length then v else l.getD q []:=by
 rw[List.getD_eq_getElem?_getD,List.getElem?_set,List.getD_eq_getElem?_getD]
 by_cases h:j=q
 ·subst h
  by_cases h2:j<l.length
  ·simp[h2]
  ·simp[h2]
 ·simp[h]
theorem KK_ex {s s':St} {i j:Nat} (h:ExTo s i j s') (hj:j<s.kn.length) (q m:Nat):KK s' q m↔(KK s q m\/(q=j/\KK s i m)):=by
 unfold KK
 rw[h.kn,getD_set']
 by_cases e:j=q
 ·subst e
  rw[if_pos ⟨rfl,hj⟩,delK_getD,bothL_getD,Bool.or_eq_true]
  simp
 ·rw[if_neg (fun h=>e h.1)]
  constructor
  ·exact Or.inl
  ·rintro (h | ⟨h,_⟩)
   ·exact h
   ·exact absurd h.symm e
theorem kl_get {s:St} {N:Nat} (h:∀ l∈s.kn,l.length<=N) (q:Nat):(s.kn.getD q []).length<=N:=by
 rw[List.getD_eq_getElem?_getD]
 cases hk:s.kn[q]? with
 | none=>simp
 | some y=>exact h y (List.mem_of_getElem? hk)

structure RndI (n:Nat) (s0:St) (g i j:Nat) (s:St):Prop where
 es:s.es=s0.es
 len:s.kn.length=n
 kl:∀ l∈s.kn,l.length<=s0.es.length
 up:∀ q m,KK s0 q m->KK s q m
 dn:∀ q m,KK s q m->∃ q',q'<n/\KK s0 q' m
 all:1<=g->∀ p q,p<n->q<n->∀ m,KK s0 p m->KK s q m
 a:∀ p q,p<i->q<n->∀ m,KK s0 p m->KK s q m
 b:∀ q,q<j->∀ m,KK s0 i m->KK s q m
 fl:s.fs.length<=s0.fs.length+2*(g*16+i*4+j)
theorem KK_lt {s:St} {q m:Nat} (h:KK s q m):q<s.kn.length:=by
 refine Classical.byContradiction fun h2=>?_
 have e:s.kn.getD q []=[]:=by rw[List.getD_eq_getElem?_getD,List.getElem?_eq_none (by omega)];(first | done | rfl)
 unfold KK at h
 rw[e] at h
 simp at h
theorem RndI.start {n:Nat} {s0:St} (hl:s0.kn.length=n) (hk:∀ l∈s0.kn,l.length<=s0.es.length):RndI n s0 0 0 0 s0 :=
 ⟨rfl,hl,hk,fun _ _ h=>h,fun q m h=>⟨q,by rw[<- hl];exact KK_lt h,h⟩,fun h=>by omega,fun _ _ h=>by omega,fun _ h=>by omega,by omega⟩
theorem RndI.skip {n:Nat} {s0 s:St} {g i:Nat} (h:RndI n s0 g i i s):RndI n s0 g i (i+1) s :=
 ⟨h.es,h.len,h.kl,h.up,h.dn,h.all,h.a,fun q hq m hm=>by
  by_cases e:q=i
  ·subst e;exact h.up _ _ hm
  ·exact h.b q (by omega) m hm,by have:=h.fl;omega⟩
theorem RndI.step {n:Nat} {s0 s s':St} {g i j:Nat} (h:RndI n s0 g i j s) (hj:j<n) (hx:ExTo s i j s'):RndI n s0 g i (j+1) s':=by
 have hk:=KK_ex hx (by rw[h.len];exact hj)
 refine ⟨hx.es.trans h.es,by rw[hx.kn,List.length_set,h.len], ?_,fun q m hm=>(hk q m).2 (Or.inl (h.up q m hm)),fun q m hm=>?_,fun hg p q hp hq m hm=>(hk q m).2 (Or.inl (h.all hg p q hp hq m hm)),fun p q hp hq m hm=>(hk q m).2 (Or.inl (h.a p q hp hq m hm)),fun q hq m hm=>?_, ?_⟩
 ·intro l hl
  rw[hx.kn] at hl
  rcases List.mem_or_eq_of_mem_set hl with h2 | rfl
  ·exact h.kl l h2
  ·exact delK_len _ _ _ (kl_get h.kl j) (kl_get h.kl i)
 ·rcases (hk q m).1 hm with h2 | ⟨_,h2⟩
  ·exact h.dn q m h2
  ·exact h.dn i m h2
 ·by_cases e:q=j
  ·exact (hk q m).2 (Or.inr ⟨e,h.up _ _ hm⟩)
  ·exact (hk q m).2 (Or.inl (h.b q (by omega) m hm))
 ·obtain ⟨b,c,hf⟩:=hx.fs
  have:=h.fl
  rw[hf]
  simp
  omega
theorem RndI.nextI {n:Nat} {s0 s:St} {g i:Nat} (h:RndI n s0 g i n s) (hn:n<=4):RndI n s0 g (i+1) 0 s :=
 ⟨h.es,h.len,h.kl,h.up,h.dn,h.all,fun p q hp hq m hm=>by
  by_cases e:p=i
  ·subst e;exact h.b q hq m hm
  ·exact h.a p q (by omega) hq m hm,fun _ h=>by omega,by have:=h.fl;omega⟩
theorem RndI.nextG {n:Nat} {s0 s:St} {g:Nat} (h:RndI n s0 g n 0 s) (hn:n<=4):RndI n s0 (g+1) 0 0 s :=
 ⟨h.es,h.len,h.kl,h.up,h.dn,fun _ p q hp hq m hm=>h.a p q hp hq m hm,fun _ _ h=>by omega,fun _ h=>by omega,by have:=h.fl;omega⟩

theorem round_any (hF:ProgOK F R) (T:Nat->Prop) (w w0:World) (x:Nat) (n:Nat) (hn:2<=n/\n<=4) (s:St) (h:KAt F T w x s w0) (hl:s.kn.length=n) (hk:∀ l∈s.kn,l.length<=s.es.length) (hf:s.fs.length<=400) :
  Calls Tryz.prog 20 #[.pointer (some ⟨x,0,none⟩),.int .i64 (n:Int)] w0 fun e w'=>e=.returned (.bool true)/\∃ s',RndI n s 2 0 0 s'/\KTo F T w x s' w0 w':=by
 have H0:Hid (RndI n s 0 0 0 s/\KTo F T w x s w0 w0):=⟨RndI.start hl hk,h,Chg.refl _ _⟩
 have He:Hid (∀ g i j wx s',g<2->i<n->j<n->i≠j->RndI n s g i j s'/\KTo F T w x s' w0 wx->Calls Tryz.prog 35 #[.pointer (some ⟨x,0,none⟩),.int .i64 (i:Int),.int .i64 (j:Int)] wx fun e w'=>e=.returned (.bool true)/\∃ s'',RndI n s g i (j+1) s''/\KTo F T w x s'' w0 w'):=fun g i j wx s' hg hi hj hne hx=>by
  have hfl:=hx.1.fl
  refine Calls.mono (exchange_any hF T w wx x s' hx.2.1 i j (by rw[hx.1.len];exact hi) (by rw[hx.1.len];exact hj) hne (by omega)) ?_
  rintro e w' ⟨rfl,s'',hex,hk2⟩
  exact ⟨rfl,s'',hx.1.step hj hex,hx.2.trans hk2⟩
 obtain ⟨hn1,hn2⟩:=hn
 clear hF h hl hk hf
 go_enter Tryz.func20,Tryz.ntmps20
 go_wp2
 go_loopw [5] (fun v5 wr=>∃ g:Nat,v5=.int .i64 (g:Int)/\g<=2/\Hid (∃ s',RndI n s g 0 0 s'/\KTo F T w x s' w0 wr)) (fun v5 _=>2-(intOf v5).toNat)
 case atStart=>exact ⟨0,rfl,by omega,s,H0.out⟩
 case round =>
  obtain ⟨g,rfl,hg,HG⟩:=hrel
  by_cases hg2:g<2
  ·have hgI:(g:Int)<2:=by omega
   go_wp2
   go_loopw [6] (fun v6 wr=>∃ i:Nat,v6=.int .i64 (i:Int)/\i<=n/\Hid (∃ s',RndI n s g i 0 s'/\KTo F T w x s' w0 wr)) (fun v6 _=>n-(intOf v6).toNat)
   case atStart=>exact ⟨0,rfl,by omega,HG⟩
   case round =>
    clear HG
    obtain ⟨i,rfl,hi,HI⟩:=hrel
    by_cases hi2:i<n
    ·go_wp2
     go_loopw [7] (fun v7 wr=>∃ j:Nat,v7=.int .i64 (j:Int)/\j<=n/\Hid (∃ s',RndI n s g i j s'/\KTo F T w x s' w0 wr)) (fun v7 _=>n-(intOf v7).toNat)
     case atStart=>exact ⟨0,rfl,by omega,HI⟩
     case round =>
      clear HI
      obtain ⟨j,rfl,hj,HJ⟩:=hrel
      by_cases hj2:j<n
      ·by_cases hij:i=j
       ·have HJ2:Hid (∃ s',RndI n s g i (j+1) s'/\KTo F T w x s' w0 wr):=by
         obtain ⟨s',h1,h2⟩:=HJ.out
         subst hij
         exact ⟨s',h1.skip,h2⟩
        clear HJ
        have hij':(i:Int)=(j:Int):=by omega
        go_wp2
        go_roundw
        case rel=>exact ⟨j+1,by first | rfl | go_num,by omega,HJ2⟩
        case measure=>simp[intOf] <;> omega
       ·obtain ⟨s',HS⟩:∃ s',Hid (RndI n s g i j s'/\KTo F T w x s' w0 wr):=HJ.out
        clear HJ
        have hij':¬(i:Int)=(j:Int):=by omega
        go_wp2_with fail
        refine Calls.mono (He.out g i j _ s' hg2 hi2 hj2 hij HS.out) ?_
        rintro e w1 ⟨rfl,h1⟩
        have H1:Hid (∃ s'',RndI n s g i (j+1) s''/\KTo F T w x s'' w0 w1):=h1
        clear h1 HS
        go_wp2
        go_roundw
        case rel=>exact ⟨j+1,by first | rfl | go_num,by omega,H1⟩
        case measure=>simp[intOf] <;> omega
      ·have hjn:j=n:=by omega
       subst hjn
       have HJ2:Hid (∃ s',RndI j s g (i+1) 0 s'/\KTo F T w x s' w0 wr):=by
        obtain ⟨s',h1,h2⟩:=HJ.out
        exact ⟨s',h1.nextI hn2,h2⟩
       clear HJ
       go_wp2
       go_roundw
       case rel=>exact ⟨i+1,by first | rfl | go_num,by omega,HJ2⟩
       case measure=>simp[intOf] <;> omega
    ·have hin:i=n:=by omega
     subst hin
     have HI2:Hid (∃ s',RndI i s (g+1) 0 0 s'/\KTo F T w x s' w0 wr):=by
      obtain ⟨s',h1,h2⟩:=HI.out
      exact ⟨s',h1.nextG hn2,h2⟩
     clear HI
     go_wp2
     go_roundw
     case rel=>exact ⟨g+1,by first | rfl | go_num,by omega,HI2⟩
     case measure=>simp[intOf] <;> omega
  ·have hg3:g=2:=by omega
   subst hg3
   go_wp2
   go_ret
   exact ⟨rfl,HG.out⟩
end Go.Proofs.YtfmmllpjgkgeaaaGreatDoor
namespace Go.Proofs.YtfmmllpjgkgeaaaGreatDoor
open Go.RowKit

structure ProgTick (F:Stt):Prop where
 crash:∀ w x S s i,Glob w->F w x S s->Calls Tryz.prog 41 #[.pointer (some ⟨x,0,none⟩),.int .i64 i] w fun e w'=>e=.returned (.int .i64 (if 0<=i/\i<s.kn.length then 0 else 2))/\∃ S',F w' x S' s/\(∀ k,S' k->S k\/w.heap.size<=k)/\Chg S w w'
 tick:∀ w x S s i,Glob w->F w x S s->Calls Tryz.prog 36 #[.pointer (some ⟨x,0,none⟩),.int .i64 i] w fun e w'=>e=.returned (.int .i64 (if 0<=i/\i<s.kn.length then 0 else 2))/\∃ S',F w' x S' s/\(∀ k,S' k->S k\/w.heap.size<=k)/\Chg S w w'
structure KOk (n c:Nat) (s:St):Prop where
 n2:2<=n
 n4:n<=4
 len:s.kn.length=n
 ev:s.es.length<=4+c
 evs:∀ e∈s.es,EvOk e
 kl:∀ l∈s.kn,l.length<=s.es.length
 kn:∀ m,m<s.es.length->∃ q,KK s q m
 fl:s.fs.length<=c
 fr:∀ g∈s.fs,g.dst<n/\g.src<n/\g.known.length<=s.es.length
theorem KOk.up {n c c':Nat} {s:St} (h:KOk n c s) (hc:c<=c'):KOk n c' s:=⟨h.n2,h.n4,h.len,by have:=h.ev;omega,h.evs,h.kl,h.kn,by have:=h.fl;omega,h.fr⟩
theorem KOk.did {n c:Nat} {s:St} (h:KOk n c s) {i:Nat} (hi:i<n) {e:Ev} (he:EvOk e):KOk n (c+1) ⟨s.es ++ [e],s.kn.set i (moreOf (s.kn.getD i []) s.es.length),s.fs⟩:=by
 have hil:i<s.kn.length:=by rw[h.len];exact hi
 have hk:=kl_get h.kl i
 refine ⟨h.n2,h.n4,by simp[h.len],by have:=h.ev;simp;omega, ?_, ?_, ?_,by have:=h.fl;simp only;omega, ?_⟩
 ·intro e' he'
  rcases List.mem_append.1 he' with h1 | h1
  ·exact h.evs e' h1
  ·simp at h1;subst h1;exact he
 ·intro l hl
  simp only[List.length_append,List.length_singleton]
  rcases List.mem_or_eq_of_mem_set hl with h2 | rfl
  ·have:=h.kl l h2;omega
  ·rw[moreOf_length _ _ hk];omega
 ·intro m hm
  simp only[List.length_append,List.length_singleton] at hm
  by_cases e1:m=s.es.length
  ·refine ⟨i, ?_⟩
   unfold KK
   simp only
   rw[getD_set',if_pos ⟨rfl,hil⟩,moreOf_getD _ _ hk]
   simp[e1]
  ·obtain ⟨q,hq⟩:=h.kn m (by omega)
   refine ⟨q, ?_⟩
   unfold KK at hq ⊢
   simp only
   rw[getD_set']
   by_cases e2:i=q
   ·subst e2
    rw[if_pos ⟨rfl,hil⟩,moreOf_getD _ _ hk,hq];(first | done | rfl)
   ·rw[if_neg (fun h=>e2 h.1)];exact hq
 ·intro g hg
  have:=h.fr g hg
  simp only[List.length_append,List.length_singleton]
  exact ⟨this.1,this.2.1,by omega⟩
theorem KOk.sent {n c:Nat} {s s':St} (h:KOk n c s) {i j:Nat} (hi:i<n) (hj:j<n) {b:ByteArray} (h1:s'.es=s.es) (h2:s'.kn=s.kn) (h3:s'.fs=s.fs ++ [⟨i,j,0,s.kn.getD i [],b⟩]):KOk n (c+1) s':=by
 obtain ⟨a1,a2,a3⟩:=s'
 simp only at h1 h2 h3
 subst h1 h2 h3
 refine ⟨h.n2,h.n4,h.len,by have:=h.ev;simp only;omega,h.evs,h.kl,h.kn,by have:=h.fl;simp;omega, ?_⟩
 intro g hg
 rcases List.mem_append.1 hg with h1 | h1
 ·exact h.fr g h1
 ·simp at h1;subst h1;exact ⟨hj,hi,kl_get h.kl i⟩
theorem KK_set {s s':St} {j:Nat} {l:List Bool} (h:s'.kn=s.kn.set j (delK (s.kn.getD j []) l)) (hj:j<s.kn.length) (q m:Nat):KK s' q m↔(KK s q m\/(q=j/\l.getD m false=true)):=by
 unfold KK
 rw[h,getD_set']
 by_cases e:j=q
 ·subst e
  rw[if_pos ⟨rfl,hj⟩,delK_getD,bothL_getD,Bool.or_eq_true]
  simp
 ·rw[if_neg (fun h=>e h.1)]
  constructor
  ·exact Or.inl
  ·rintro (h | ⟨h,_⟩)
   ·exact h
   ·exact absurd h.symm e
theorem KOk.came {n c:Nat} {s s':St} (h:KOk n c s) {g:FrD} (hg:g∈s.fs) {b:ByteArray} {k:Nat} (h1:s'.es=s.es) (h2:s'.kn=s.kn.set g.dst (delK (s.kn.getD g.dst []) g.known)) (h3:s'.fs=s.fs ++ [⟨g.dst,g.src,k,[],b⟩]):KOk n (c+1) s':=by
 have hf:=h.fr g hg
 have hk:=KK_set h2 (by rw[h.len];exact hf.1)
 have hes:s'.es.length=s.es.length:=by rw[h1]
 refine ⟨h.n2,h.n4,by rw[h2,List.length_set,h.len],by have:=h.ev;omega,by rw[h1];exact h.evs, ?_,fun m hm=>?_,by have:=h.fl;rw[h3];simp;omega, ?_⟩
 ·intro l hl
  rw[h2] at hl
  rw[hes]
  rcases List.mem_or_eq_of_mem_set hl with h4 | rfl
  ·exact h.kl l h4
  ·exact delK_len _ _ _ (kl_get h.kl _) hf.2.2
 ·obtain ⟨q,hq⟩:=h.kn m (by omega)
  exact ⟨q,(hk q m).2 (Or.inl hq)⟩
 ·intro g' hg'
  rw[h3] at hg'
  rw[hes]
  rcases List.mem_append.1 hg' with h4 | h4
  ·exact h.fr g' h4
  ·simp at h4;subst h4;exact ⟨hf.2.1,hf.1,by simp⟩

theorem all_true {l:List Bool} {N:Nat} (h1:l.length<=N) (h2:∀ m,m<N->l.getD m false=true):l=List.replicate N true:=by
 have hl:l.length=N:=by
  refine Nat.le_antisymm h1 (Classical.byContradiction fun h=>?_)
  have:=h2 l.length (by omega)
  rw[getD_len (Nat.le_refl _)] at this
  cases this
 refine List.ext_getElem (by simp[hl]) fun m hm1 hm2=>?_
 have:=h2 m (by omega)
 rw[List.getD_eq_getElem?_getD,List.getElem?_eq_getElem hm1] at this
 simpa using this
theorem KOk.full {n c:Nat} {s s':St} (h:KOk n c s) (hr:RndI n s 2 0 0 s') {q:Nat} (hq:q<n):s'.kn.getD q []=List.replicate s'.es.length true:=by
 rw[hr.es]
 refine all_true (kl_get hr.kl q) fun m hm=>?_
 obtain ⟨p,hp⟩:=h.kn m hm
 exact hr.all (by omega) p q (by rw[<- h.len];exact KK_lt hp) hq m hp

def chOk (a b:Nat):Bool:=match Thk.read (changeL a b) with
 | .inl _=>false
 | .inr c=>decide (c.path.length<=20) && decide (c.val.length<=20) && decide (c.n<=1000000000) && decide (-1000000000<=c.n)
theorem chOk_all:∀ a,a<12->∀ b,b<40->chOk a b=true:=by decide +kernel
structure EvFor (s:St) (i:Nat) (a b:Nat) (e:Ev):Prop where
 ex:∃ c,Thk.read (changeL a b)=.inr c/\toL e.p=c.path/\e.a=c.act/\toL e.v=c.val/\e.n=c.n
 saw:e.saw=s.kn.getD i []
 ok:EvOk e
theorem evFor {n c:Nat} {s:St} (h:KOk n c s) (hc:c<=400) (i:Nat) {a b:Nat} (ha:a<12) (hb:b<40):∃ e,EvFor s i a b e:=by
 have h1:=chOk_all a ha b hb
 unfold chOk at h1
 cases hr:Thk.read (changeL a b) with
 | inl k=>rw[hr] at h1;cases h1
 | inr ch =>
  rw[hr] at h1
  simp only[Bool.and_eq_true,decide_eq_true_eq] at h1
  obtain ⟨⟨⟨h2,h3⟩,h4⟩,h5⟩:=h1
  have hk:=kl_get h.kl i
  have hev:=h.ev
  exact ⟨⟨⟨ch.path.toArray⟩,ch.act,⟨ch.val.toArray⟩,ch.n,s.kn.getD i []⟩,⟨ch,hr,rfl,rfl,rfl,rfl⟩,rfl,⟨h2,h3,h4,h5,by show (s.kn.getD i []).length<=1000;omega⟩⟩
theorem EvFor.out {n c:Nat} {s:St} (h:KOk n c s) (hc:c<=400) {i:Nat} (hi:i<n) {a b:Nat} {e:Ev} (he:EvFor s i a b e) {t:ByteArray} (ht:toL t=changeL a b) :
  DoOut s.es s.kn (i:Int) (toL t) 0 (s.es ++ [e]) (s.kn.set i (moreOf (s.kn.getD i []) s.es.length)):=by
 obtain ⟨ch,hr,h1,h2,h3,h4⟩:=he.ex
 have hev:=h.ev
 have:=DoOut.done (es:=s.es) (knowns:=s.kn) (i:=(i:Int)) (s:=toL t) ch e ⟨by omega,by rw[h.len];omega⟩ (by rw[ht];exact hr) (by omega) h1 h2 h3 h4 (by rw[Int.toNat_natCast];exact he.saw)
 rw[Int.toNat_natCast] at this
 exact this

structure ActD where
 kd:Int
 i:Int
 j:Int
 k:Int
 v:Int
def ActD.ok (a:ActD):Prop:=i64B a.kd/\i64B a.i/\i64B a.j/\i64B a.k/\i64B a.v
def ActD.val (a:ActD):Value:=.agg #[.int .i64 a.kd,.int .i64 a.i,.int .i64 a.j,.int .i64 a.k,.int .i64 a.v]
def PlayTo (n:Nat) (s:St) (a:ActD) (s':St):Prop :=
 if pickN a.kd 8<3 then ∃ e,EvFor s (pickN a.i n) (pickN a.k 12) (pickN a.v 40) e/\s'=⟨s.es ++ [e],s.kn.set (pickN a.i n) (moreOf (s.kn.getD (pickN a.i n) []) s.es.length),s.fs⟩
 else if pickN a.kd 8<5 then (if pickN a.i n=pickN a.j n then s'=s else SendTo s (pickN a.i n:Int) (pickN a.j n:Int) s')
 else if pickN a.kd 8<7 then (if s.fs.length=0 then s'=s else DelTo s (1+(pickN a.k s.fs.length:Int)) s')
 else s'=s
def evMore (a:ActD):Nat:=if pickN a.kd 8<3 then 1 else 0
theorem frNo_pick {s:St} {k:Int} (h:s.fs.length≠0):∃ g,g∈s.fs/\frNo s (1+(pickN k s.fs.length:Int))=some g:=by
 have hl:=pickN_lt k (show 1<=s.fs.length by omega)
 unfold frNo
 rw[if_pos ⟨by omega,by omega⟩,show (1+(pickN k s.fs.length:Int)).toNat-1=pickN k s.fs.length by omega,List.getElem?_eq_getElem hl]
 exact ⟨_,List.getElem_mem hl,rfl⟩
theorem KOk.play {n c:Nat} {s s':St} {a:ActD} (h:KOk n c s) (hc:c<=400) (hp:PlayTo n s a s'):KOk n (c+1) s':=by
 have hi:=pickN_lt a.i (show 1<=n by have:=h.n2;omega)
 have hj:=pickN_lt a.j (show 1<=n by have:=h.n2;omega)
 have hfl:=h.fl
 unfold PlayTo at hp
 split at hp
 ·obtain ⟨e,he,rfl⟩:=hp
  exact h.did hi he.ok
 ·split at hp
  ·split at hp
   ·rw[hp];exact h.up (by omega)
   ·rename_i hne
    obtain ⟨h1,h2,h3⟩:=hp
    rw[sendR_ok (by rw[h.len];exact hi) (by rw[h.len];exact hj) hne (by omega),if_pos rfl,Int.toNat_natCast,Int.toNat_natCast] at h3
    obtain ⟨b,h3⟩:=h3
    exact h.sent hi hj h1 h2 h3
  ·split at hp
   ·split at hp
    ·rw[hp];exact h.up (by omega)
    ·rename_i hne
     obtain ⟨g,hg,hf⟩:=frNo_pick (k:=a.k) hne
     by_cases ha:g.ack=0
     ·obtain ⟨h1,h2,b,h3⟩:=hp.new hf ha (by omega)
      exact h.came hg h1 h2 h3
     ·rw[hp.old hf (by omega)];exact h.up (by omega)
   ·rw[hp];exact h.up (by omega)
theorem KOk.start {n:Nat} (h2:2<=n) (h4:n<=4):KOk n 0 (zS n):=by
 refine ⟨h2,h4,by unfold zS;simp;omega,by unfold zS;simp, ?_, ?_, ?_,by unfold zS;simp,by unfold zS;simp⟩
 ·intro e he
  unfold zS at he
  simp at he
  rcases he with rfl | rfl
  ·exact ⟨by decide,by decide,by decide,by decide,by decide⟩
  ·exact ⟨by decide,by decide,by decide,by decide,by decide⟩
 ·intro l hl
  unfold zS at hl ⊢
  simp at hl ⊢
  rcases hl with rfl | ⟨_,rfl⟩ <;> simp
 ·intro m hm
  refine ⟨0, ?_⟩
  unfold zS at hm
  simp at hm
  obtain rfl | rfl:m=0\/m=1:=by omega
  ·rfl
  ·rfl
variable {F:Stt}

section
variable {T:Nat->Prop} {w wx wy:World} {x:Nat} {s:St}
theorem KAt.box (hP:ProgFrame F) (h:KAt F T w x s wx) (o:Obj):KAt F (fun k=>T k\/k=wx.heap.size) w x s (wx.alloc o):=by
 have hb:Below wx.heap.size wx (wx.alloc o):=(Below.refl _ _).alloc (Nat.le_refl _) _
 have hs:(wx.alloc o).heap.size=wx.heap.size+1:=by simp
 refine h.more hb (fun S f=>hP.below f hb) (fun S f k hk=>hP.lt f hk) (fun k hk=>hk.imp id (fun e=>by omega)) (fun k hk=>?_)
 rcases hk with hk | rfl
 ·have:=h.tl k hk;omega
 ·omega
theorem KAt.less {T':Nat->Prop} (h:KAt F T w x s wx) (hT:∀ k,T' k->T k):KAt F T' w x s wx:=by
 obtain ⟨S,f1,s1⟩:=h.f
 exact ⟨⟨S,f1,fun k hk=>⟨(s1 k hk).1,fun h9=>(s1 k hk).2 (hT k h9)⟩⟩,fun k hk=>h.tl k (hT k hk),h.bel,h.gw⟩
theorem KAt.store (hP:ProgFrame F) (h:KAt F T w x s wx) {p:Addr} (hp:T p.block) (hB:w.heap.size<=p.block) (u:Value):KAt F T w x s (wx.setCell p u):=by
 obtain ⟨S,f1,s1⟩:=h.f
 have hc:Chg (fun k=>k=p.block) wx (wx.setCell p u):=Chg.setCell (M:=fun k=>k=p.block) (Chg.refl _ wx) rfl u
 refine ⟨⟨S,hP.stable f1 hc (fun k hk e=>(s1 k hk).2 (by rw[e];exact hp)),s1⟩,fun k hk=>Nat.lt_of_lt_of_le (h.tl k hk) hc.size, ?_,h.gw⟩
 exact h.bel.trans (chgS_below hc (fun k hk=>by rw[hk];exact hB) h.bel.size)
end

theorem Blk.set {w:World} {b:Nat} {cs:Array Value} {t:TypeId} (h:Blk w b cs t) (j:Nat) (v:Value):Blk (w.setCell ⟨b,j,none⟩ v) b (cs.setIfInBounds j v) t:=by
 have h1:w.heap[b]? = some (.cells cs t (0,0)):=h
 have hl:b<w.heap.size:=Blk.lt h
 have h2:w.heap[b]=.cells cs t (0,0):=by
  rw[Array.getElem?_eq_getElem hl] at h1;exact Option.some.inj h1
 unfold Blk
 simp[World.setCell,hl,Array.getElem_modify,h2]
def TalAt (w:World) (tb fr ev:Nat):Prop:=Blk w tb #[.int .i64 (fr:Int),.int .i64 (ev:Int)] 32
def ActB (w:World) (ab:Nat) (a:ActD):Prop:=Blk w ab #[.int .i64 a.kd,.int .i64 a.i,.int .i64 a.j,.int .i64 a.k,.int .i64 a.v] 35

structure Pl (F:Stt) (T:Nat->Prop) (w w0:World) (x tb ab fr ev:Nat) (a:ActD) (s:St) (wx:World):Prop where
 k:KAt F (fun k=>T k\/k=ab) w x s wx
 t:TalAt wx tb fr ev
 a:ActB wx ab a
 c:Chg (fun k=>Mk w.heap.size T k\/k=tb) w0 wx
 ht:T tb
 tB:w.heap.size<=tb
 ne:tb≠ab
 aB:w0.heap.size<=ab
section
variable {T:Nat->Prop} {w w0 wx wy:World} {x tb ab fr ev:Nat} {a:ActD} {s s':St}
theorem Pl.start (hP:ProgFrame F) (h:KAt F T w x s w0) (ht:TalAt w0 tb fr ev) (hT:T tb) (hB:w.heap.size<=tb):Pl F T w w0 x tb w0.heap.size fr ev a s (w0.alloc (.cells #[.int .i64 a.kd,.int .i64 a.i,.int .i64 a.j,.int .i64 a.k,.int .i64 a.v] 35)) :=
 ⟨h.box hP _,Blk.alloc ht _,Blk.new _ _ _,Chg.of_below ((Below.refl _ _).alloc (Nat.le_refl _) _),hT,hB,by have:=Blk.lt ht;omega,Nat.le_refl _⟩
theorem Pl.calls (h:Pl F T w w0 x tb ab fr ev a s wx) (hk:KTo F (fun k=>T k\/k=ab) w x s' wx wy):Pl F T w w0 x tb ab fr ev a s' wy:=by
 refine ⟨hk.1,Blk.chg h.t hk.2 (fun e=>e.2 (Or.inl h.ht)),Blk.chg h.a hk.2 (fun e=>e.2 (Or.inr rfl)), ?_,h.ht,h.tB,h.ne,h.aB⟩
 exact h.c.trans (chg_wide hk.2 (fun k hk=>Or.inl ⟨hk.1,fun e=>hk.2 (Or.inl e)⟩))
theorem Pl.below (hP:ProgFrame F) (h:Pl F T w w0 x tb ab fr ev a s wx) (hb:Below wx.heap.size wx wy):Pl F T w w0 x tb ab fr ev a s wy:=h.calls (h.k.below hP hb)
end
end Go.Proofs.YtfmmllpjgkgeaaaGreatDoor

