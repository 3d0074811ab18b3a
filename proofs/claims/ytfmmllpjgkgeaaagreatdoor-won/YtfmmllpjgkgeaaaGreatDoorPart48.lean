import Derived.Test.YtfmmllpjgkgeaaaGreatDoorPart41
import Derived.Test.YtfmmllpjgkgeaaaGreatDoorPart45
set_option linter.unusedVariables false
set_option linter.unusedSimpArgs false
set_option maxHeartbeats 16000000
set_option maxRecDepth 100000
namespace Go.Proofs.YtfmmllpjgkgeaaaGreatDoor
open Go.RowKit
variable {F:Stt}

theorem ext_toL (b:ByteArray) (i j:Nat):toL (b.extract i j)=((toL b).take j).drop i:=by
 unfold toL
 rw[ByteArray.data_extract,Array.toList_extract,List.extract_eq_take_drop,List.drop_take]
def comB (s:ByteArray):ByteArray:=⟨#[44]⟩ ++ s ++ ⟨#[44]⟩
theorem comB_toL (s:ByteArray):toL (comB s)=comL (toL s):=by
 unfold comB comL
 rw[toL_append,toL_append]
 show [44] ++ toL s ++ [44]=_
 simp
theorem comB_size (s:ByteArray):(comB s).size=s.size+2:=by
 unfold comB
 rw[ByteArray.size_append,ByteArray.size_append]
 have:(⟨#[44]⟩:ByteArray).size=1:=rfl
 omega
theorem toL_size (b:ByteArray):(toL b).length=b.size:=by unfold toL;rw[Array.length_toList];(first | done | rfl)
theorem sub_ext {s w:ByteArray} (h:SubL (comL (toL w)) (comL (toL s))):∃ p,p+(comB w).size<=(comB s).size/\(comB s).extract p (p+(comB w).size)=comB w:=by
 obtain ⟨a,b,h⟩:=h
 have hl:=congrArg List.length h
 rw[<- comB_toL,<- comB_toL] at h hl
 rw[List.length_append,List.length_append,toL_size,toL_size] at hl
 refine ⟨a.length,by omega,toL_inj ?_⟩
 rw[ext_toL,h,<- toL_size (comB w),List.drop_take,List.drop_left]
 rw[show a.length+(toL (comB w)).length-a.length=(toL (comB w)).length by omega,List.take_left]
theorem ext_sub {s w:ByteArray} {p:Nat} (h:p+(comB w).size<=(comB s).size) (he:(comB s).extract p (p+(comB w).size)=comB w):SubL (comL (toL w)) (comL (toL s)):=by
 refine ⟨(toL (comB s)).take p,(toL (comB s)).drop (p+(comB w).size), ?_⟩
 have h1:=ext_toL (comB s) p (p+(comB w).size)
 rw[he,comB_toL] at h1
 rw[<- comB_toL s,h1]
 have h2:(toL (comB s)).take p=((toL (comB s)).take (p+(comB w).size)).take p:=by rw[List.take_take];congr 1;omega
 rw[h2,<- List.append_assoc,List.take_append_drop,List.take_append_drop]

theorem eqB_yes {a b:ByteArray} (h:a=b):(a.toList == b.toList)=true:=by rw[h];exact beq_self_eq_true _
theorem eqB_no {a b:ByteArray} (h:¬a=b):(a.toList == b.toList)=false:=by
 rw[beq_eq_false_iff_ne,toList_eq,toList_eq]
 exact fun e=>h (toL_inj e)

theorem has_yes_any (s w:ByteArray) (wx:World) (hs:s.size<=20000) (hw:w.size<=20) (h:SubL (comL (toL w)) (comL (toL s))) :
  Calls Tryz.prog 25 #[.string s,.string w] wx fun e w'=>e=.returned (.bool true)/\w'=wx:=by
 obtain ⟨p,hp,he⟩:=sub_ext h
 have z1:(comB s).size<=20002:=by have:=comB_size s;omega
 have z2:(comB w).size<=22:=by have:=comB_size w;omega
 clear h
 have k1:(⟨#[44]⟩ ++ s ++ ⟨#[44]⟩:ByteArray)=comB s:=rfl
 have k2:(⟨#[44]⟩ ++ w ++ ⟨#[44]⟩:ByteArray)=comB w:=rfl
 generalize comB s=S at *
 generalize comB w=V at *
 go_enter Tryz.func25,Tryz.ntmps25
 go_wp2_with fail
 clear k1 k2
 go_loopw [5] (fun v5 wr=>∃ i:Nat,v5=.int .i64 (i:Int)/\i<=p/\wr=wx) (fun v5 _=>p+1-(intOf v5).toNat)
 case atStart=>exact ⟨0,rfl,by omega,rfl⟩
 case round =>
  obtain ⟨i,rfl,hi,rfl⟩:=hrel
  have hiI:(i:Int)+(V.size:Int)<=(S.size:Int):=by omega
  by_cases hm:S.extract i (i+V.size)=V
  ·have hlo:i<=i+V.size:=by omega
   have hhi:i+V.size<=S.size:=by omega
   have hmB:=eqB_yes hm
   go_wp2
   go_ret
   exact ⟨rfl,rfl⟩
  ·have hip:i≠p:=fun e=>hm (by rw[e];exact he)
   have hlo:i<=i+V.size:=by omega
   have hhi:i+V.size<=S.size:=by omega
   have hmB:=eqB_no hm
   go_wp2
   go_roundw
   case rel=>exact ⟨i+1,by first | rfl | go_num,by omega,by first | rfl | trivial⟩
   case measure=>simp[intOf] <;> omega

theorem has_no_any (s w:ByteArray) (wx:World) (hs:s.size<=20000) (hw:w.size<=20) (h:¬SubL (comL (toL w)) (comL (toL s))) :
  Calls Tryz.prog 25 #[.string s,.string w] wx fun e w'=>e=.returned (.bool false)/\w'=wx:=by
 have hno:∀ p,p+(comB w).size<=(comB s).size->¬(comB s).extract p (p+(comB w).size)=comB w:=fun p h1 h2=>h (ext_sub h1 h2)
 have z1:(comB s).size<=20002:=by have:=comB_size s;omega
 have z2:(comB w).size<=22:=by have:=comB_size w;omega
 clear h
 have k1:(⟨#[44]⟩ ++ s ++ ⟨#[44]⟩:ByteArray)=comB s:=rfl
 have k2:(⟨#[44]⟩ ++ w ++ ⟨#[44]⟩:ByteArray)=comB w:=rfl
 generalize comB s=S at *
 generalize comB w=V at *
 have Hno:Hid (∀ p,p+V.size<=S.size->¬S.extract p (p+V.size)=V):=hno
 clear hno
 go_enter Tryz.func25,Tryz.ntmps25
 go_wp2_with fail
 clear k1 k2
 go_loopw [5] (fun v5 wr=>∃ i:Nat,v5=.int .i64 (i:Int)/\i<=30000/\wr=wx) (fun v5 _=>30000-(intOf v5).toNat)
 case atStart=>exact ⟨0,rfl,by omega,rfl⟩
 case round =>
  obtain ⟨i,rfl,hi,rfl⟩:=hrel
  by_cases hm:i+V.size<=S.size
  ·have hiI:(i:Int)+(V.size:Int)<=(S.size:Int):=by omega
   have hne:=Hno.out i hm
   have hlo:i<=i+V.size:=by omega
   have hmB:=eqB_no hne
   go_wp2
   go_roundw
   case rel=>exact ⟨i+1,by first | rfl | go_num,by omega,by first | rfl | trivial⟩
   case measure=>simp[intOf] <;> omega
  ·have hiI:¬(i:Int)+(V.size:Int)<=(S.size:Int):=by omega
   go_wp2
   go_ret
   exact ⟨rfl,rfl⟩
end Go.Proofs.YtfmmllpjgkgeaaaGreatDoor
namespace Go.Proofs.YtfmmllpjgkgeaaaGreatDoor
open Go.RowKit
variable {F:Stt}

structure WP (F:Stt) (T:Nat->Prop) (w:World) (x n c:Nat) (s:St) (wr:World):Prop where
 k:KAt F T w x s wr
 ok:KOk n c s
 rd:∀ e∈s.es,EvRd e
theorem WP.does (hF:ProgOK F) {T:Nat->Prop} {w wr:World} {x n c:Nat} {s:St} (h:WP F T w x n c s wr) (hc:c<=100) {i:Nat} (hi:i<n) {ch:Thk.Ch} {t:ByteArray} (hr:Thk.read (toL t)=.inr ch) (hs:chSmall ch) (hd:rdOk ch=true) (ht:t.size<=100) :
  Calls Tryz.prog 23 #[.pointer (some ⟨x,0,none⟩),.int .i64 (i:Int),.string t] wr fun e w'=>e=.returned (.int .i64 0)/\WP F T w x n (c+1) (doE s i ch) w':=by
 have hev:=h.ok.ev
 have hln:=h.ok.len
 refine Calls.mono (h.k.does hF (by omega) (doE_out (by omega) hr (by omega))) ?_
 rintro e w' ⟨rfl,hk,_⟩
 refine ⟨rfl,hk,h.ok.doE (by omega) hi hs,fun e he=>?_⟩
 rcases List.mem_append.1 he with h1 | h1
 ·exact h.rd e h1
 ·simp at h1;subst h1;exact EvRd.mk hd _
structure WQ (F:Stt) (T:Nat->Prop) (w:World) (x n:Nat) (s t:St) (wr:World):Prop where
 k:KAt F T w x t wr
 len:t.kn.length=n
 ev:EvsOk t
 e4:t.es.length<=200
 rd:∀ e∈t.es,EvRd e
 full:∀ q,q<n->t.kn.getD q []=List.replicate t.es.length true
 won:WonEs s t.es
theorem WP.round (hF:ProgOK F) {T:Nat->Prop} {w wr:World} {x n c:Nat} {s0 s:St} (h:WP F T w x n c s wr) (hc:c<=100) (hw:WonEs s0 s.es) :
  Calls Tryz.prog 20 #[.pointer (some ⟨x,0,none⟩),.int .i64 (n:Int)] wr fun e w'=>e=.returned (.bool true)/\∃ t,WQ F T w x n s0 t w':=by
 have hfl:=h.ok.fl
 have hev:=h.ok.ev
 refine Calls.mono (round_any hF T w wr x n ⟨h.ok.n2,h.ok.n4⟩ s h.k h.ok.len h.ok.kl (by omega)) ?_
 rintro e w' ⟨rfl,t,hr,hk⟩
 exact ⟨rfl,t,hk.1,hr.len,(hr.small h.ok (by omega)).1,by rw[hr.es];omega,by rw[hr.es];exact h.rd,fun q hq=>h.ok.full hr hq,by rw[hr.es];exact hw⟩
theorem WQ.calls {T:Nat->Prop} {w wr w':World} {x n:Nat} {s t:St} (h:WQ F T w x n s t wr) (hk:KTo F T w x t wr w'):WQ F T w x n s t w':=⟨hk.1,h.len,h.ev,h.e4,h.rd,h.full,h.won⟩
theorem WQ.asks (hF:ProgOK F) {T:Nat->Prop} {w wr:World} {x n:Nat} {s t:St} (h:WQ F T w x n s t wr) {i:Int} {p:ByteArray} (hp:p.size<=100) {r:Thk.Bs} (hr:askR t.es t.kn i (toL p)=(r,0)) :
  Calls Tryz.prog 24 #[.pointer (some ⟨x,0,none⟩),.int .i64 i,.string p] wr fun e w'=>∃ u:ByteArray,e=.returned (.tuple #[.string u,.int .i64 0])/\toL u=r/\u.size<=20000/\WQ F T w x n s t w':=by
 have hl:=ask_len t h.ev i (toL p)
 refine Calls.mono (h.k.asks hF i (by omega)) ?_
 rw[hr] at hl ⊢
 rintro e w' ⟨u,rfl,hu,hk⟩
 refine ⟨u,rfl,hu, ?_,h.calls hk⟩
 rw[<- hu,toL_size] at hl
 omega
structure WE (F:Stt) (T:Nat->Prop) (w:World) (x n:Nat) (s t u:St) (wr:World):Prop where
 k:KAt F T w x u wr
 q:∃ wq,WQ F T w x n s t wq
 ev:EvsOk u
 e4:u.es.length<=202
theorem WE.does (hF:ProgOK F) {T:Nat->Prop} {w wr:World} {x n:Nat} {s t u:St} (h:WE F T w x n s t u wr) (h4:u.es.length<=201) {i:Nat} (hi:i<u.kn.length) {ch:Thk.Ch} {c:ByteArray} (hr:Thk.read (toL c)=.inr ch) (hs:chSmall ch) (ht:c.size<=100) (hk:(u.kn.getD i []).length<=1000) :
  Calls Tryz.prog 23 #[.pointer (some ⟨x,0,none⟩),.int .i64 (i:Int),.string c] wr fun e w'=>e=.returned (.int .i64 0)/\WE F T w x n s t (doE u i ch) w':=by
 refine Calls.mono (h.k.does hF (by omega) (doE_out hi hr (by omega))) ?_
 rintro e w' ⟨rfl,hk2,_⟩
 refine ⟨rfl,hk2,h.q,⟨by unfold doE;simp;omega,fun e he=>?_⟩,by unfold doE;simp;omega⟩
 rcases List.mem_append.1 he with h1 | h1
 ·exact h.ev.2 e h1
 ·simp at h1;subst h1
  exact ⟨by show ch.path.toArray.size<=20;simpa using hs.1,by show ch.val.toArray.size<=20;simpa using hs.2.1,hs.2.2.1,hs.2.2.2,hk⟩
theorem WE.asks (hF:ProgOK F) {T:Nat->Prop} {w wr:World} {x n:Nat} {s t u:St} (h:WE F T w x n s t u wr) {i:Int} {p:ByteArray} (hp:p.size<=100) {r:Thk.Bs} (hr:askR u.es u.kn i (toL p)=(r,0)) :
  Calls Tryz.prog 24 #[.pointer (some ⟨x,0,none⟩),.int .i64 i,.string p] wr fun e w'=>∃ c:ByteArray,e=.returned (.tuple #[.string c,.int .i64 0])/\toL c=r/\c.size<=20000/\WE F T w x n s t u w':=by
 have hl:=ask_len u h.ev i (toL p)
 refine Calls.mono (h.k.asks hF i (by omega)) ?_
 rw[hr] at hl ⊢
 rintro e w' ⟨c,rfl,hu,hk⟩
 refine ⟨c,rfl,hu, ?_,hk.1,h.q,h.ev,h.e4⟩
 rw[<- hu,toL_size] at hl
 omega
theorem rA:Thk.read (toL ⟨#[109,97,47,115,97,43,119,105,110]⟩)=.inr chA:=by kernel_rfl
theorem rB:Thk.read (toL ⟨#[109,97,47,109,98,47,102,97,94]⟩)=.inr chB:=by kernel_rfl
theorem rC:Thk.read (toL ⟨#[109,97,47,109,98,47,114,97,61,111,110,101]⟩)=.inr chC:=by kernel_rfl
theorem rD:Thk.read (toL ⟨#[109,97,33]⟩)=.inr chD:=by kernel_rfl
theorem rG:Thk.read (toL ⟨#[109,97,47,115,97,45,119,105,110]⟩)=.inr chG:=by kernel_rfl
theorem rE:Thk.read (toL ⟨#[109,97,47,109,98,47,102,97,95]⟩)=.inr chE:=by kernel_rfl
theorem rF:Thk.read (toL ⟨#[109,97,47,109,98,47,114,97,61,116,119,111]⟩)=.inr chF:=by kernel_rfl
theorem rH:Thk.read (toL ⟨#[109,97,47,109,98,47,114,97,61,116,104,114,101,101]⟩)=.inr chH:=by kernel_rfl
theorem smA:chSmall chA:=⟨by decide,by decide,by decide,by decide⟩
theorem smB:chSmall chB:=⟨by decide,by decide,by decide,by decide⟩
theorem smC:chSmall chC:=⟨by decide,by decide,by decide,by decide⟩
theorem smD:chSmall chD:=⟨by decide,by decide,by decide,by decide⟩
theorem smG:chSmall chG:=⟨by decide,by decide,by decide,by decide⟩
theorem smE:chSmall chE:=⟨by decide,by decide,by decide,by decide⟩
theorem smF:chSmall chF:=⟨by decide,by decide,by decide,by decide⟩
theorem smH:chSmall chH:=⟨by decide,by decide,by decide,by decide⟩
def winB:ByteArray:=⟨#[119,105,110]⟩
def oneB:ByteArray:=⟨#[111,110,101]⟩
def twoB:ByteArray:=⟨#[116,119,111]⟩
def InW (u v:ByteArray):Prop:=SubL (comL (toL v)) (comL (toL u))
theorem WQ.told (hF:ProgOK F) {T:Nat->Prop} {w wr:World} {x n:Nat} {s t:St} (h:WQ F T w x n s t wr) {i:Nat} (hi:i<n) :
  (Calls Tryz.prog 24 #[.pointer (some ⟨x,0,none⟩),.int .i64 (i:Int),.string ⟨#[109,97,47,115,97]⟩] wr fun e w'=>∃ u:ByteArray,e=.returned (.tuple #[.string u,.int .i64 0])/\u.size<=20000/\InW u winB/\WQ F T w x n s t w') /\
  (Calls Tryz.prog 24 #[.pointer (some ⟨x,0,none⟩),.int .i64 (i:Int),.string ⟨#[109,97,47,109,98,47,102,97]⟩] wr fun e w'=>e=.returned (.tuple #[.string ⟨#[49]⟩,.int .i64 0])/\WQ F T w x n s t w') /\
  (Calls Tryz.prog 24 #[.pointer (some ⟨x,0,none⟩),.int .i64 (i:Int),.string ⟨#[109,97,47,109,98,47,114,97]⟩] wr fun e w'=>∃ u:ByteArray,e=.returned (.tuple #[.string u,.int .i64 0])/\u.size<=20000/\InW u oneB/\InW u twoB/\WQ F T w x n s t w'):=by
 obtain ⟨⟨l,e1,m1⟩,e2,⟨l',e3,m2,m3⟩⟩:=won_all h.won (by rw[h.len];exact hi) (h.full i hi)
 refine ⟨?_, ?_, ?_⟩
 ·refine Calls.mono (h.asks hF (p:=⟨#[109,97,47,115,97]⟩) (by decide) e1) ?_
  rintro e w' ⟨u,rfl,hu,hs,h2⟩
  refine ⟨u,rfl,hs, ?_,h2⟩
  unfold InW;rw[hu];exact has_yes m1
 ·refine Calls.mono (h.asks hF (p:=⟨#[109,97,47,109,98,47,102,97]⟩) (by decide) e2) ?_
  rintro e w' ⟨u,rfl,hu,hs,h2⟩
  have:u=⟨#[49]⟩:=toL_inj hu
  subst this
  exact ⟨rfl,h2⟩
 ·refine Calls.mono (h.asks hF (p:=⟨#[109,97,47,109,98,47,114,97]⟩) (by decide) e3) ?_
  rintro e w' ⟨u,rfl,hu,hs,h2⟩
  refine ⟨u,rfl,hs, ?_, ?_,h2⟩
  ·unfold InW;rw[hu];exact has_yes m2
  ·unfold InW;rw[hu];exact has_yes m3
theorem WQ.last (hF:ProgOK F) {T:Nat->Prop} {w wr:World} {x n:Nat} {s t:St} (h:WQ F T w x n s t wr) (hn:1<=n) :
  Calls Tryz.prog 23 #[.pointer (some ⟨x,0,none⟩),.int .i64 ((n:Int)-1),.string ⟨#[109,97,47,115,97,45,119,105,110]⟩] wr fun e w'=>e=.returned (.int .i64 0)/\WE F T w x n s t (doE t (n-1) chG) w':=by
 have h4:=h.e4
 have hf:=h.full (n-1) (by omega)
 have hb:WE F T w x n s t t wr:=⟨h.k,⟨wr,h⟩,h.ev,by omega⟩
 rw[show (n:Int)-1=((n-1:Nat):Int) by omega]
 exact hb.does hF (by omega) (by rw[h.len];omega) rG smG (by decide) (by rw[hf,List.length_replicate];omega)
theorem WE.last2 (hF:ProgOK F) {T:Nat->Prop} {w wr:World} {x n:Nat} {s t:St} (h:WE F T w x n s t (doE t (n-1) chG) wr) (hn:1<=n) :
  Calls Tryz.prog 23 #[.pointer (some ⟨x,0,none⟩),.int .i64 ((n:Int)-1),.string ⟨#[109,97,47,109,98,47,114,97,61,116,104,114,101,101]⟩] wr fun e w'=>e=.returned (.int .i64 0)/\WE F T w x n s t (doE (doE t (n-1) chG) (n-1) chH) w':=by
 obtain ⟨wq,hq⟩:=h.q
 have h4:=hq.e4
 have hf:=hq.full (n-1) (by omega)
 have hl:(doE t (n-1) chG).es.length=t.es.length+1:=by unfold doE;simp
 have hkl:(doE t (n-1) chG).kn.length=n:=by unfold doE;simp[hq.len]
 have hg:(doE t (n-1) chG).kn.getD (n-1) []=List.replicate (t.es.length+1) true:=by
  unfold doE;simp only;rw[getD_eq (by rw[hq.len];omega),hf,moreOf_rep]
 rw[show (n:Int)-1=((n-1:Nat):Int) by omega]
 exact h.does hF (by omega) (by omega) rH smH (by decide) (by rw[hg,List.length_replicate];omega)
theorem WE.lastA (hF:ProgOK F) {T:Nat->Prop} {w wr:World} {x n:Nat} {s t:St} (h:WE F T w x n s t (doE (doE t (n-1) chG) (n-1) chH) wr) (hn:1<=n) :
  (Calls Tryz.prog 24 #[.pointer (some ⟨x,0,none⟩),.int .i64 ((n:Int)-1),.string ⟨#[109,97,47,115,97]⟩] wr fun e w'=>∃ u:ByteArray,e=.returned (.tuple #[.string u,.int .i64 0])/\u.size<=20000/\¬InW u winB/\WE F T w x n s t (doE (doE t (n-1) chG) (n-1) chH) w') /\
  (Calls Tryz.prog 24 #[.pointer (some ⟨x,0,none⟩),.int .i64 ((n:Int)-1),.string ⟨#[109,97,47,109,98,47,114,97]⟩] wr fun e w'=>e=.returned (.tuple #[.string ⟨#[116,104,114,101,101]⟩,.int .i64 0])/\WE F T w x n s t (doE (doE t (n-1) chG) (n-1) chH) w'):=by
 obtain ⟨wq,hq⟩:=h.q
 have hE:=won_end (t:=t) (i:=n-1) (by rw[hq.len];omega) (hq.full (n-1) (by omega))
 obtain ⟨l,e1,n1,n2⟩:=end_A hE hq.rd (fun l s=>(withL_bd l s).2)
 have e2:=end_C hE hq.rd
 rw[show (n:Int)-1=((n-1:Nat):Int) by omega]
 refine ⟨?_, ?_⟩
 ·refine Calls.mono (h.asks hF (p:=⟨#[109,97,47,115,97]⟩) (by decide) e1) ?_
  rintro e w' ⟨u,rfl,hu,hs,h2⟩
  refine ⟨u,rfl,hs, ?_,h2⟩
  unfold InW;rw[hu];exact has_no (w:=chA.val) (by decide) (by decide) n2 n1
 ·refine Calls.mono (h.asks hF (p:=⟨#[109,97,47,109,98,47,114,97]⟩) (by decide) e2) ?_
  rintro e w' ⟨u,rfl,hu,hs,h2⟩
  have:u=⟨#[116,104,114,101,101]⟩:=toL_inj hu
  subst this
  exact ⟨rfl,h2⟩
end Go.Proofs.YtfmmllpjgkgeaaaGreatDoor

