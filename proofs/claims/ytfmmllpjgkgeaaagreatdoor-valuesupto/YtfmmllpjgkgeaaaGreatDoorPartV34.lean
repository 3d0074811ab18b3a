import Derived.Test.YtfmmllpjgkgeaaaGreatDoorPartV05
import Derived.Test.YtfmmllpjgkgeaaaGreatDoorPartV31
set_option linter.unusedVariables false
set_option linter.unusedSimpArgs false
set_option maxHeartbeats 16000000
set_option maxRecDepth 100000
namespace Go.Proofs.YtfmmllpjgkgeaaaGreatDoor
open Go.RowKit

structure StepD where
 kind:Int
 a:Int
 n:Int
 m:Int
 s:ByteArray
def StepD.ok (o:StepD):Prop:=(-9223372036854775808<=o.kind/\o.kind<=9223372036854775807)/\(-9223372036854775808<=o.a/\o.a<=9223372036854775807)/\(-9223372036854775808<=o.n/\o.n<=9223372036854775807)/\(-9223372036854775808<=o.m/\o.m<=9223372036854775807)/\o.s.size<=1048576
def StepD.val (o:StepD):Value:=.agg #[.int .i64 o.kind,.int .i64 o.a,.int .i64 o.n,.int .i64 o.m,.string o.s]

structure ScriptAt (w:World) (b off:Nat) (l:List StepD):Prop where
 lt:b<w.heap.size
 k:∀ j (h:j<l.length),w.cell? ⟨b,off+j*5,none⟩=some (.int .i64 l[j].kind)
 a:∀ j (h:j<l.length),w.cell? ⟨b,off+j*5+1,none⟩=some (.int .i64 l[j].a)
 n:∀ j (h:j<l.length),w.cell? ⟨b,off+j*5+2,none⟩=some (.int .i64 l[j].n)
 m:∀ j (h:j<l.length),w.cell? ⟨b,off+j*5+3,none⟩=some (.int .i64 l[j].m)
 s:∀ j (h:j<l.length),w.cell? ⟨b,off+j*5+4,none⟩=some (.string l[j].s)
theorem ScriptAt.below {w w':World} {b off:Nat} {l:List StepD} (h:ScriptAt w b off l) (hb:Below w.heap.size w w'):ScriptAt w' b off l :=
 ⟨Nat.lt_of_lt_of_le h.lt hb.size,fun j hj=>(hb.cell (p:=⟨b,_,none⟩) h.lt).trans (h.k j hj),fun j hj=>(hb.cell (p:=⟨b,_,none⟩) h.lt).trans (h.a j hj),fun j hj=>(hb.cell (p:=⟨b,_,none⟩) h.lt).trans (h.n j hj),fun j hj=>(hb.cell (p:=⟨b,_,none⟩) h.lt).trans (h.m j hj),fun j hj=>(hb.cell (p:=⟨b,_,none⟩) h.lt).trans (h.s j hj)⟩

structure LawOK (last:Int) (I:Nat->Nat->World->Nat->Prop):Prop where
 heads:∀ w,Glob w->Calls Tryz.prog 38 #[.bool (decide (5<=last))] w fun e w'=>e=.returned (.bool true)/\Below w.heap.size w w'
 start:∀ w,Glob w->I 0 w.heap.size (w.alloc (.cells #[.slice none 0 0,.bool (decide (7<last))] 63)) w.heap.size
 step:∀ c B w b (o:StepD),o.ok->o.kind<=last->c<1099511627776->I c B w b->Calls Tryz.prog 39 #[.pointer (some ⟨b,0,none⟩),o.val] w fun e w'=>e=.returned (.bool true)/\I (c+1) B w' b/\Below B w w'

theorem upTo_any (last:Int) (I:Nat->Nat->World->Nat->Prop) (hL:LawOK last I) (w:World) (hG:Glob w) (b off cap:Nat) (l:List StepD) (hS:ScriptAt w b off l) (hcap:l.length<=cap) (hlen:l.length<=1099511627776) (hok:∀ o∈l,o.ok) :
  Calls Tryz.prog 15 #[.slice (some ⟨b,off,none⟩) l.length cap,.int .i64 last] w fun e w'=>e=.returned (.int .i64 (-1))/\Below w.heap.size w w':=by
 have HL:Hid (LawOK last I):=hL
 have HG:Hid (Glob w):=hG
 have HS:Hid (ScriptAt w b off l):=hS
 have Hok:Hid (∀ o∈l,o.ok):=hok
 clear hL hG hS hok
 go_enter Tryz.func15,Tryz.ntmps15
 go_wp2_with fail
 refine Calls.mono (HL.out.heads w HG.out) ?_
 rintro e w1 ⟨rfl,hb1⟩
 have b1:Hid (Below w.heap.size w w1):=hb1
 have g1:Hid (Glob w1):=HG.out.mono hb1
 have i1:Hid (_):=HL.out.start w1 g1.out
 have bz:Hid (∀ o,Below w.heap.size w (w1.alloc o)):=fun o=>hb1.alloc hb1.size o
 clear hb1
 go_wp2_with fail
 go_loopg [5,7] l.length (fun g v5 v7 wx=>∃ i:Nat,i+g=l.length/\v5=.bool true/\v7=.int .i64 (i:Int)/\(∃ c,c<=i/\I c w1.heap.size wx w1.heap.size)/\Below w.heap.size w wx)
 case atStart=>exact ⟨0,by omega,rfl,rfl,⟨0,Nat.le_refl _,i1.out⟩,bz.out _⟩
 case round =>
  obtain ⟨i,hig,rfl,rfl,⟨ct,hct,hI⟩,hb⟩:=hrel
  have HI:Hid (I ct w1.heap.size wr w1.heap.size):=hI
  have HB:Hid (Below w.heap.size w wr):=hb
  clear hI hb
  by_cases hi:i<l.length
  ·have hS2:=HS.out.below HB.out
   have hk:=hS2.k i hi
   have ha:=hS2.a i hi
   have hn:=hS2.n i hi
   have hm:=hS2.m i hi
   have hs:=hS2.s i hi
   clear hS2
   have Ho:Hid (l[i].ok):=Hok.out _ (List.getElem_mem hi)
   generalize l[i]=o at *
   by_cases hkd:last<o.kind
   ·go_wp2
    go_roundg (l.length-(i+1))
    case measure=>omega
    case rel=>exact ⟨i+1,by omega,rfl,rfl,⟨ct,by omega,HI.out⟩,HB.out⟩
   ·have hkl:o.kind<=last:=by omega
    have Hc:Hid (_):=HL.out.step ct w1.heap.size wr w1.heap.size o Ho.out hkl (by omega) HI.out
    go_wp2_with fail
    refine Calls.mono Hc.out ?_
    rintro e w2 ⟨rfl,hI2,hb2⟩
    have HI2:Hid (I (ct+1) w1.heap.size w2 w1.heap.size):=hI2
    have HB2:Hid (Below w.heap.size w w2):=HB.out.trans (hb2.mono b1.out.size)
    clear hI2 hb2 Hc
    go_wp2
    go_roundg (l.length-(i+1))
    case measure=>omega
    case rel=>exact ⟨i+1,by omega,rfl,rfl,⟨ct+1,by omega,HI2.out⟩,HB2.out⟩
  ·go_wp2
   go_ret
   exact ⟨rfl,HB.out⟩

theorem upTo_nil (last:Int) (I:Nat->Nat->World->Nat->Prop) (hL:LawOK last I) (w:World) (hG:Glob w) (ad:Option Addr) (cap:Nat) :
  Calls Tryz.prog 15 #[.slice ad 0 cap,.int .i64 last] w fun e w'=>e=.returned (.int .i64 (-1))/\Below w.heap.size w w':=by
 have HL:Hid (LawOK last I):=hL
 have HG:Hid (Glob w):=hG
 clear hL hG
 go_enter Tryz.func15,Tryz.ntmps15
 go_wp2_with fail
 refine Calls.mono (HL.out.heads w HG.out) ?_
 rintro e w1 ⟨rfl,hb1⟩
 have bz:Hid (∀ o,Below w.heap.size w (w1.alloc o)):=fun o=>hb1.alloc hb1.size o
 clear hb1
 go_wp2_with fail
 go_loopg [5,7] 0 (fun g v5 v7 wx=>v7=.int .i64 0/\Below w.heap.size w wx)
 case atStart=>exact ⟨rfl,bz.out _⟩
 case round =>
  obtain ⟨rfl,hb⟩:=hrel
  have HB:Hid (Below w.heap.size w wr):=hb
  clear hb
  go_wp2
  go_ret
  exact ⟨rfl,HB.out⟩

def ScriptV (w:World) (v:Value) (l:List StepD):Prop :=
 (∃ ad cap,v=.slice ad 0 cap/\l=[])\/∃ b off cap,v=.slice (some ⟨b,off,none⟩) l.length cap/\l.length<=cap/\ScriptAt w b off l


structure Prog4 (F:Stt):Prop where
 bad:∀ w (r room:Int),Glob w->(r<1\/6<r\/room<0\/50<room) ->
  Calls Tryz.prog 40 #[.int .i64 r,.int .i64 room] w fun e w'=>e=.returned (.tuple #[.pointer none,.int .i64 1])/\Below w.heap.size w w'
 good:∀ w (r room:Nat),Glob w->1<=r->r<=6->room<=50 ->
  Calls Tryz.prog 40 #[.int .i64 (r:Int),.int .i64 (room:Int)] w fun e w'=>∃ x S,e=.returned (.tuple #[.pointer (some ⟨x,0,none⟩),.int .i64 0])/\F w' x S ⟨[],List.replicate r [],[]⟩/\(∀ k,S k->w.heap.size<=k)/\Below w.heap.size w w'
 does:∀ w x S s i t r es' kn',Glob w->F w x S s->t.size<=1048576->DoOut s.es s.kn i (toL t) r es' kn' ->
  Calls Tryz.prog 23 #[.pointer (some ⟨x,0,none⟩),.int .i64 i,.string t] w fun e w'=>e=.returned (.int .i64 r)/\∃ S',F w' x S' ⟨es',kn',s.fs⟩/\(∀ k,S' k->S k\/w.heap.size<=k)/\Chg S w w'
 asks:∀ w x S s i t,Glob w->F w x S s->t.size<=1048576 ->
  Calls Tryz.prog 24 #[.pointer (some ⟨x,0,none⟩),.int .i64 i,.string t] w fun e w'=>∃ u,e=.returned (.tuple #[.string u,.int .i64 (askR s.es s.kn i (toL t)).2])/\toL u=(askR s.es s.kn i (toL t)).1/\∃ S',F w' x S' s/\(∀ k,S' k->S k\/w.heap.size<=k)/\Chg S w w'
 knows:∀ w x S s i,Glob w->F w x S s ->
  Calls Tryz.prog 22 #[.pointer (some ⟨x,0,none⟩),.int .i64 i] w fun e w'=>e=.returned (.tuple #[.int .i64 (knowsR s.kn i).1,.int .i64 (knowsR s.kn i).2])/\∃ S',F w' x S' s/\(∀ k,S' k->S k\/w.heap.size<=k)/\Chg S w w'
structure RefOK (G:Stt):Prop where
 up:∀ w c R s i,G w c R s->Calls Tryz.prog 109 #[.pointer (some ⟨c,0,none⟩),.int .i64 i] w fun e w'=>e=.returned (.int .i64 (if 0<=i/\i<s.kn.length then 0 else 2))/\w'=w
 does:∀ w c R s i t,G w c R s->t.size<=1048576 ->
  Calls Tryz.prog 116 #[.pointer (some ⟨c,0,none⟩),.int .i64 i,.string t] w fun e w'=>∃ r es' kn',e=.returned (.int .i64 r)/\DoOut s.es s.kn i (toL t) r es' kn'/\∃ R',G w' c R' ⟨es',kn',s.fs⟩/\(∀ k,R' k->R k\/w.heap.size<=k)/\Chg R w w'/\IntsKept w w'
 asks:∀ w c R s i t,G w c R s->t.size<=1048576 ->
  Calls Tryz.prog 110 #[.pointer (some ⟨c,0,none⟩),.int .i64 i,.string t] w fun e w'=>∃ u,e=.returned (.tuple #[.string u,.int .i64 (askR s.es s.kn i (toL t)).2])/\toL u=(askR s.es s.kn i (toL t)).1/\Below w.heap.size w w'
 cells:∀ w c R s,G w c R s->s.kn.length<=6/\∃ rb cap,w.cell? ⟨c,1,none⟩=some (.slice (some ⟨rb,0,none⟩) s.kn.length cap)/\s.kn.length<=cap/\∀ i (h:i<s.kn.length),∃ kv,w.cell? ⟨rb,i*13,none⟩=some kv/\SliceT 4 w kv (bools s.kn[i])/\s.kn[i].length<=1048576

def hE1:Ev:=⟨⟨#[115,120]⟩,43,⟨#[97]⟩,0,[]⟩
def hE2:Ev:=⟨⟨#[115,120]⟩,43,⟨#[98]⟩,0,[true]⟩
def hE3:Ev:=⟨⟨#[115,120]⟩,45,⟨#[97]⟩,0,[true,true]⟩
theorem hd1:DoOut [] (List.replicate 2 []) 0 (toL ⟨#[115,120,43,97]⟩) 0 [hE1] [[true],[]] :=
 DoOut.done (es:=[]) (knowns:=List.replicate 2 []) (i:=0) ⟨[115,120],43,[97],0⟩ hE1 (by decide) (by kernel_rfl) (by decide) rfl rfl rfl rfl rfl
theorem hd2:DoOut [hE1] [[true],[]] 0 (toL ⟨#[115,120,43,98]⟩) 0 [hE1,hE2] [[true,true],[]] :=
 DoOut.done (es:=[hE1]) (knowns:=[[true],[]]) (i:=0) ⟨[115,120],43,[98],0⟩ hE2 (by decide) (by kernel_rfl) (by decide) rfl rfl rfl rfl rfl
theorem hd3:DoOut [hE1,hE2] [[true,true],[]] 0 (toL ⟨#[115,120,45,97]⟩) 0 [hE1,hE2,hE3] [[true,true,true],[]] :=
 DoOut.done (es:=[hE1,hE2]) (knowns:=[[true,true],[]]) (i:=0) ⟨[115,120],45,[97],0⟩ hE3 (by decide) (by kernel_rfl) (by decide) rfl rfl rfl rfl rfl
theorem hask:askR [hE1,hE2,hE3] [[true,true,true],[]] 0 (toL ⟨#[115,120]⟩)=([98],0):=by decide +kernel
theorem hkn:knowsR [[true,true,true],[]] 0=(3,0):=by decide +kernel
structure HdAt (F:Stt) (w:World) (x:Nat) (s:St) (wx:World):Prop where
 f:∃ S,F wx x S s/\∀ k,S k->w.heap.size<=k
 bel:Below w.heap.size w wx
 glob:Glob wx
theorem HdAt.next {F:Stt} {w wx wy:World} {x:Nat} {s s':St} {S S':Nat->Prop} (h:HdAt F w x s wx) (hS:∀ k,S k->w.heap.size<=k) (hG:Glob w) (hf:F wy x S' s') (hs:∀ k,S' k->S k\/wx.heap.size<=k) (hc:Chg S wx wy):HdAt F w x s' wy :=
 have hb:Below w.heap.size w wy:=h.bel.trans (chgS_below hc hS h.bel.size)
 ⟨⟨S',hf,fun k hk=>(hs k hk).elim (hS k) (fun h2=>Nat.le_trans h.bel.size h2)⟩,hb,hG.mono hb⟩

theorem heads0_any {F:Stt} (hF:Prog4 F) (w:World) (hG:Glob w) :
  Calls Tryz.prog 38 #[.bool false] w fun e w'=>e=.returned (.bool true)/\Below w.heap.size w w':=by
 have HN:Hid (Calls Tryz.prog 40 #[.int .i64 2,.int .i64 10] w fun e w'=>∃ x,e=.returned (.tuple #[.pointer (some ⟨x,0,none⟩),.int .i64 0])/\HdAt F w x ⟨[],List.replicate 2 [],[]⟩ w'):=by
  refine Calls.mono (hF.good w 2 10 hG (by decide) (by decide) (by decide)) ?_
  rintro e w1 ⟨x,S1,rfl,f1,s1,hb1⟩
  exact ⟨x,rfl,⟨S1,f1,s1⟩,hb1,hG.mono hb1⟩
 have HD:Hid (∀ x s wx t r es' kn',HdAt F w x s wx->t.size<=1048576->DoOut s.es s.kn 0 (toL t) r es' kn'->Calls Tryz.prog 23 #[.pointer (some ⟨x,0,none⟩),.int .i64 0,.string t] wx fun e w'=>e=.returned (.int .i64 r)/\HdAt F w x ⟨es',kn',s.fs⟩ w'):=fun x s wx t r es' kn' h ht hd=>by
  obtain ⟨S,f1,s1⟩:=h.f
  refine Calls.mono (hF.does wx x S s 0 t r es' kn' h.glob f1 ht hd) ?_
  rintro e w2 ⟨rfl,S2,f2,s2,hc2⟩
  exact ⟨rfl,h.next s1 hG f2 s2 hc2⟩
 have HA:Hid (∀ x s wx i t u,HdAt F w x s wx->t.size<=1048576->askR s.es s.kn i (toL t)=(toL u,0)->Calls Tryz.prog 24 #[.pointer (some ⟨x,0,none⟩),.int .i64 i,.string t] wx fun e w'=>e=.returned (.tuple #[.string u,.int .i64 0])/\HdAt F w x s w'):=fun x s wx i t u h ht ha=>by
  obtain ⟨S,f1,s1⟩:=h.f
  refine Calls.mono (hF.asks wx x S s i t h.glob f1 ht) ?_
  rw[ha]
  rintro e w2 ⟨u',rfl,hu,S2,f2,s2,hc2⟩
  have:u'=u:=toL_inj hu
  subst this
  exact ⟨rfl,h.next s1 hG f2 s2 hc2⟩
 have HK:Hid (∀ x s wx,HdAt F w x s wx->knowsR s.kn 0=(3,0)->Calls Tryz.prog 22 #[.pointer (some ⟨x,0,none⟩),.int .i64 0] wx fun e w'=>e=.returned (.tuple #[.int .i64 3,.int .i64 0])/\HdAt F w x s w'):=fun x s wx h hk=>by
  obtain ⟨S,f1,s1⟩:=h.f
  refine Calls.mono (hF.knows wx x S s 0 h.glob f1) ?_
  rw[hk]
  rintro e w2 ⟨rfl,S2,f2,s2,hc2⟩
  exact ⟨rfl,h.next s1 hG f2 s2 hc2⟩
 clear hF hG
 go_enter Tryz.func38,Tryz.ntmps38
 go_wp2_with fail
 refine Calls.mono HN.out ?_
 rintro e w1 ⟨x,rfl,h1⟩
 go_wp2_with fail
 refine Calls.mono (HD.out x _ w1 _ _ _ _ h1 (by decide) hd1) ?_
 rintro e w2 ⟨rfl,h2⟩
 clear h1
 go_wp2_with fail
 refine Calls.mono (HD.out x _ w2 _ _ _ _ h2 (by decide) hd2) ?_
 rintro e w3 ⟨rfl,h3⟩
 clear h2
 go_wp2_with fail
 refine Calls.mono (HD.out x _ w3 _ _ _ _ h3 (by decide) hd3) ?_
 rintro e w4 ⟨rfl,h4⟩
 clear h3
 go_wp2_with fail
 refine Calls.mono (HA.out x _ w4 0 _ ⟨#[98]⟩ h4 (by decide) hask) ?_
 rintro e w5 ⟨rfl,h5⟩
 clear h4
 go_wp2_with fail
 refine Calls.mono (HK.out x _ w5 h5 hkn) ?_
 rintro e w6 ⟨rfl,h6⟩
 have H9:Hid (Below w.heap.size w w6):=h6.bel
 clear h5 h6 HN HD HA HK
 go_wp2
 go_ret
 exact ⟨rfl,H9.out⟩


structure RefFrame (G:Stt):Prop where
 stable:∀ {M:Nat->Prop} {w w':World} {c:Nat} {R:Nat->Prop} {s:St},G w c R s->Chg M w w'->(∀ k,R k->¬M k)->(∀ b,Tagged w b 4->¬M b)->IntsKept w w'->G w' c R s
 tags:∀ {w:World} {c:Nat} {R:Nat->Prop} {s:St} {k:Nat},G w c R s->R k->∃ t,isRef t/\Tagged w k t
theorem isRef_ne {t:TypeId} (h:isRef t):t≠4/\t≠159/\t≠63/\t≠116:=by
 rcases h with rfl | rfl | rfl | rfl | rfl <;> decide

structure PairAt (F G:Stt) (w:World) (pb x:Nat) (S:Nat->Prop) (c:Nat) (R:Nat->Prop) (s:St):Prop where
 tag:Tagged w pb 159
 c0:w.cell? ⟨pb,0,none⟩=some (.pointer (some ⟨x,0,none⟩))
 c1:w.cell? ⟨pb,1,none⟩=some (.pointer (some ⟨c,0,none⟩))
 f:F w x S s
 r:G w c R s

variable {F G:Stt}
theorem fr_sr (hP:ProgFrame F) (hQ:RefFrame G) {w:World} {x:Nat} {S:Nat->Prop} {s s2:St} {c:Nat} {R:Nat->Prop} (hf:F w x S s) (hg:G w c R s2) (k:Nat) (hs:S k) (hr:R k):False:=by
 obtain ⟨t,h1,h2⟩:=hQ.tags hg hr
 exact (hP.tags hf hs h2).1 h1
theorem RefFrame.lt (hQ:RefFrame G) {w:World} {c:Nat} {R:Nat->Prop} {s:St} {k:Nat} (hg:G w c R s) (hr:R k):k<w.heap.size:=by
 obtain ⟨t,_,h2⟩:=hQ.tags hg hr
 exact h2.lt
theorem RefFrame.below (hQ:RefFrame G) {w w':World} {c:Nat} {R:Nat->Prop} {s:St} (hg:G w c R s) (hb:Below w.heap.size w w'):G w' c R s:=hQ.stable hg (Chg.of_below (M:=fun _=>False) hb) (fun _ _ h=>h) (fun _ _ h=>h) (IntsKept.of_below hb)
theorem PairAt.below (hP:ProgFrame F) (hQ:RefFrame G) {w w':World} {pb x:Nat} {S:Nat->Prop} {c:Nat} {R:Nat->Prop} {s:St} (h:PairAt F G w pb x S c R s) (hb:Below w.heap.size w w'):PairAt F G w' pb x S c R s :=
 ⟨h.tag.below hb,(hb.cell (p:=⟨pb,0,none⟩) h.tag.lt).trans h.c0,(hb.cell (p:=⟨pb,1,none⟩) h.tag.lt).trans h.c1,hP.below h.f hb,hQ.below h.r hb⟩

structure Mid0 (F G:Stt) (S R:Nat->Prop) (w0:World) (pb x c:Nat) (s1 s2:St) (wx:World):Prop where
 tag:Tagged wx pb 159
 p0:wx.cell? ⟨pb,0,none⟩=some (.pointer (some ⟨x,0,none⟩))
 p1:wx.cell? ⟨pb,1,none⟩=some (.pointer (some ⟨c,0,none⟩))
 f:∃ S',F wx x S' s1/\∀ k,S' k->S k\/w0.heap.size<=k
 g:∃ R',G wx c R' s2/\∀ k,R' k->R k\/w0.heap.size<=k
 chg:Chg (fun k=>S k\/R k) w0 wx
 ints:IntsKept w0 wx
 glob:Glob wx
 s4:(∀ k,S k->4<=k)/\(∀ k,R k->4<=k)/\4<=w0.heap.size
abbrev stepO (o:StepD):Obj:=.cells #[.int .i64 o.kind,.int .i64 o.a,.int .i64 o.n,.int .i64 o.m,.string o.s] 65
structure Mid (F G:Stt) (S R:Nat->Prop) (w0:World) (bx:Nat) (o:StepD) (pb x c:Nat) (s1 s2:St) (wx:World):Prop where
 m:Mid0 F G S R w0 pb x c s1 s2 wx
 bk:Blk w0 bx #[.int .i64 o.kind,.int .i64 o.a,.int .i64 o.n,.int .i64 o.m,.string o.s] 65
 bS:¬S bx
 bR:¬R bx

section
variable {S R:Nat->Prop} {w0:World} {bx:Nat} {o:StepD} {pb x c:Nat} {s1 s2:St} {wx wy:World}
theorem Mid0.cell (h:Mid0 F G S R w0 pb x c s1 s2 wx) {b:Nat} (hb:b<w0.heap.size) (hS:¬S b) (hR:¬R b) (i:Nat):wx.cell? ⟨b,i,none⟩=w0.cell? ⟨b,i,none⟩:=World.cell?_of_block (w:=w0) (h.chg.block b hb (fun h2=>h2.elim hS hR))
theorem Mid.p0 (h:Mid F G S R w0 bx o pb x c s1 s2 wx):wx.cell? ⟨pb,0,none⟩=some (.pointer (some ⟨x,0,none⟩)):=h.m.p0
theorem Mid.p1 (h:Mid F G S R w0 bx o pb x c s1 s2 wx):wx.cell? ⟨pb,1,none⟩=some (.pointer (some ⟨c,0,none⟩)):=h.m.p1
theorem Mid.b0 (h:Mid F G S R w0 bx o pb x c s1 s2 wx):wx.cell? ⟨bx,0,none⟩=some (.int .i64 o.kind):=(h.m.cell h.bk.lt h.bS h.bR 0).trans ((h.bk.cell 0).trans rfl)
theorem Mid.b2 (h:Mid F G S R w0 bx o pb x c s1 s2 wx):wx.cell? ⟨bx,2,none⟩=some (.int .i64 o.n):=(h.m.cell h.bk.lt h.bS h.bR 2).trans ((h.bk.cell 2).trans rfl)
theorem Mid.b4 (h:Mid F G S R w0 bx o pb x c s1 s2 wx):wx.cell? ⟨bx,4,none⟩=some (.string o.s):=(h.m.cell h.bk.lt h.bS h.bR 4).trans ((h.bk.cell 4).trans rfl)
theorem Mid0.below (hP:ProgFrame F) (hQ:RefFrame G) (h:Mid0 F G S R w0 pb x c s1 s2 wx) (hb:Below wx.heap.size wx wy):Mid0 F G S R w0 pb x c s1 s2 wy:=by
 obtain ⟨S',h1,h2⟩:=h.f
 obtain ⟨R',h3,h4⟩:=h.g
 exact ⟨h.tag.below hb,(hb.cell (p:=⟨pb,0,none⟩) h.tag.lt).trans h.p0,(hb.cell (p:=⟨pb,1,none⟩) h.tag.lt).trans h.p1,⟨S',hP.below h1 hb,h2⟩,⟨R',hQ.below h3 hb,h4⟩,h.chg.below hb,h.ints.trans (IntsKept.of_below hb),h.glob.mono hb,h.s4⟩
theorem Mid.below (hP:ProgFrame F) (hQ:RefFrame G) (h:Mid F G S R w0 bx o pb x c s1 s2 wx) (hb:Below wx.heap.size wx wy):Mid F G S R w0 bx o pb x c s1 s2 wy:=⟨h.m.below hP hQ hb,h.bk,h.bS,h.bR⟩
theorem Mid.drew (hP:ProgFrame F) (hQ:RefFrame G) (h:Mid F G S R w0 bx o pb x c s1 s2 wx):Mid F G S R w0 bx o pb x c s1 s2 wx.drew:=h.below hP hQ (Below.refl _ _).drew
theorem Mid.drewN (hP:ProgFrame F) (hQ:RefFrame G) (h:Mid F G S R w0 bx o pb x c s1 s2 wx) (n:Nat):Mid F G S R w0 bx o pb x c s1 s2 (wx.drewN n):=h.below hP hQ (below_drewN (Below.refl _ _) n)
theorem glob4 {wx wy:World} (h:Glob wx) (hb4:Below 4 wx wy):Glob wy:=by
 obtain ⟨⟨m,g1⟩,⟨e1,g2,g2'⟩,⟨e2,g3,g3'⟩,g4,g5⟩:=h
 refine ⟨⟨m,(hb4.cell (p:=⟨0,0,none⟩) (by decide)).trans g1⟩,⟨e1,(hb4.cell (p:=⟨1,0,none⟩) (by decide)).trans g2,g2'⟩,⟨e2,(hb4.cell (p:=⟨2,0,none⟩) (by decide)).trans g3,g3'⟩, ?_,Nat.lt_of_lt_of_le g5 hb4.size⟩
 exact var?_below (g:=3) hb4 (by kernel_rfl) (by decide) g4

theorem Mid0.prog (hP:ProgFrame F) (hQ:RefFrame G) (h:Mid0 F G S R w0 pb x c s1 s2 wx) {S1 S2:Nat->Prop} {s1':St} (h1:F wx x S1 s1) (hs1:∀ k,S1 k->S k\/w0.heap.size<=k) (hf:F wy x S2 s1') (hs2:∀ k,S2 k->S1 k\/wx.heap.size<=k) (hc:Chg S1 wx wy):Mid0 F G S R w0 pb x c s1' s2 wy:=by
 obtain ⟨R',h3,h4⟩:=h.g
 have hpb:¬S1 pb:=fun hs=>(hP.tags h1 hs h.tag).2.2.1 rfl
 have hcp:∀ i,wy.cell? ⟨pb,i,none⟩=wx.cell? ⟨pb,i,none⟩:=fun i=>World.cell?_of_block (w:=wx) (hc.block pb h.tag.lt hpb)
 have hik:IntsKept wx wy:=IntsKept.of_chg hc (fun b hb hs=>(hP.tags h1 hs hb).1 (Or.inr (Or.inr (Or.inr (Or.inr rfl)))))
 refine ⟨h.tag.chg hc hpb,(hcp 0).trans h.p0,(hcp 1).trans h.p1,⟨S2,hf,fun k hk=>(hs2 k hk).elim (hs1 k) (fun h2=>Or.inr (Nat.le_trans h.chg.size h2))⟩,⟨R',hQ.stable h3 hc (fun k hr hs=>fr_sr hP hQ h1 h3 k hs hr) (fun b hb hs=>(hP.tags h1 hs hb).2.1 rfl) hik,h4⟩, ?_,h.ints.trans hik, ?_,h.s4⟩
 ·refine ⟨hc.os.trans h.chg.os,hc.tape.trans h.chg.tape,hc.output.trans h.chg.output,Nat.le_trans h.chg.size hc.size,fun k hk hn=>?_⟩
  exact (hc.block k (Nat.lt_of_lt_of_le hk h.chg.size) (fun hs=>(hs1 k hs).elim (fun h2=>hn (Or.inl h2)) (fun h2=>by omega))).trans (h.chg.block k hk hn)
 ·exact glob4 h.glob (chgS_below hc (fun k hk=>(hs1 k hk).elim (h.s4.1 k) (fun h2=>Nat.le_trans h.s4.2.2 h2)) (Nat.le_trans h.s4.2.2 h.chg.size))
theorem Mid0.ref (hP:ProgFrame F) (hQ:RefFrame G) (h:Mid0 F G S R w0 pb x c s1 s2 wx) {R1 R2:Nat->Prop} {s2':St} (h1:G wx c R1 s2) (hs1:∀ k,R1 k->R k\/w0.heap.size<=k) (hf:G wy c R2 s2') (hs2:∀ k,R2 k->R1 k\/wx.heap.size<=k) (hc:Chg R1 wx wy) (hik:IntsKept wx wy):Mid0 F G S R w0 pb x c s1 s2' wy:=by
 obtain ⟨S',h3,h4⟩:=h.f
 have hpb:¬R1 pb:=fun hs=>by
  obtain ⟨t,h5,h6⟩:=hQ.tags h1 hs
  exact (isRef_ne h5).2.1 (tag_same h6 h.tag)
 have hcp:∀ i,wy.cell? ⟨pb,i,none⟩=wx.cell? ⟨pb,i,none⟩:=fun i=>World.cell?_of_block (w:=wx) (hc.block pb h.tag.lt hpb)
 refine ⟨h.tag.chg hc hpb,(hcp 0).trans h.p0,(hcp 1).trans h.p1,⟨S',hP.stable h3 hc (fun k hs hr=>fr_sr hP hQ h3 h1 k hs hr),h4⟩,⟨R2,hf,fun k hk=>(hs2 k hk).elim (hs1 k) (fun h2=>Or.inr (Nat.le_trans h.chg.size h2))⟩, ?_,h.ints.trans hik, ?_,h.s4⟩
 ·refine ⟨hc.os.trans h.chg.os,hc.tape.trans h.chg.tape,hc.output.trans h.chg.output,Nat.le_trans h.chg.size hc.size,fun k hk hn=>?_⟩
  exact (hc.block k (Nat.lt_of_lt_of_le hk h.chg.size) (fun hs=>(hs1 k hs).elim (fun h2=>hn (Or.inr h2)) (fun h2=>by omega))).trans (h.chg.block k hk hn)
 ·exact glob4 h.glob (chgS_below hc (fun k hk=>(hs1 k hk).elim (h.s4.2.1 k) (fun h2=>Nat.le_trans h.s4.2.2 h2)) (Nat.le_trans h.s4.2.2 h.chg.size))

def Told (F G:Stt) (S R:Nat->Prop) (w:World) (pb x c:Nat) (s:St) (w':World):Prop :=
 ∃ S' R',PairAt F G w' pb x S' c R' s/\(∀ k,S' k->S k\/w.heap.size<=k)/\(∀ k,R' k->R k\/w.heap.size<=k)/\Chg (fun k=>S k\/R k) w w'/\IntsKept w w'
theorem Mid0.start (hP:ProgFrame F) (hQ:RefFrame G) {w w':World} (hG:Glob w) {s:St} (h:PairAt F G w pb x S c R s) (h4:(∀ k,S k->4<=k)/\(∀ k,R k->4<=k)) (hb:Below w.heap.size w w'):Mid0 F G S R w pb x c s s w':=by
 have h2:=h.below hP hQ hb
 exact ⟨h2.tag,h2.c0,h2.c1,⟨S,h2.f,fun k hk=>Or.inl hk⟩,⟨R,h2.r,fun k hk=>Or.inl hk⟩,Chg.of_below hb,IntsKept.of_below hb,hG.mono hb,h4.1,h4.2,hG.size⟩
theorem Mid0.fin {w:World} {s:St} (h:Mid0 F G S R w pb x c s s wx):Told F G S R w pb x c s wx:=by
 obtain ⟨S',h1,h2⟩:=h.f
 obtain ⟨R',h3,h4⟩:=h.g
 exact ⟨S',R',⟨h.tag,h.p0,h.p1,h1,h3⟩,h2,h4,h.chg,h.ints⟩
theorem Mid.start (hP:ProgFrame F) (hQ:RefFrame G) {w:World} (hG:Glob w) {s:St} (h:PairAt F G w pb x S c R s) (h4:(∀ k,S k->4<=k)/\(∀ k,R k->4<=k)) (o:StepD):Mid F G S R (w.alloc (stepO o)) w.heap.size o pb x c s s (w.alloc (stepO o)):=by
 have hb:Below w.heap.size w (w.alloc (stepO o)):=(Below.refl _ w).alloc (Nat.le_refl _) _
 exact ⟨Mid0.start hP hQ (hG.mono hb) (h.below hP hQ hb) h4 (Below.refl _ _),Blk.new w _ _,fun hk=>by have:=hP.lt h.f hk;omega,fun hk=>by have:=hQ.lt h.r hk;omega⟩
theorem Mid.fin {w:World} {s:St} (h:Mid F G S R (w.alloc (stepO o)) w.heap.size o pb x c s s wx):Told F G S R w pb x c s wx:=by
 obtain ⟨S',R',h1,h2,h3,h4,h5⟩:=h.m.fin
 have hb:Below w.heap.size w (w.alloc (stepO o)):=(Below.refl _ w).alloc (Nat.le_refl _) _
 exact ⟨S',R',h1,fun k hk=>(h2 k hk).imp id (fun h5=>Nat.le_trans hb.size h5),fun k hk=>(h3 k hk).imp id (fun h5=>Nat.le_trans hb.size h5),(Chg.of_below hb).trans h4,(IntsKept.of_below hb).trans h5⟩
end
end Go.Proofs.YtfmmllpjgkgeaaaGreatDoor
namespace Go.Proofs.YtfmmllpjgkgeaaaGreatDoor
open Go.RowKit
variable {F G:Stt}

def upR (kn:List (List Bool)) (i:Int):Int:=if 0<=i/\i<kn.length then 0 else 2

section
variable {S R:Nat->Prop} {w0:World} {bx:Nat} {o:StepD} {pb x c:Nat} {s1 s2:St} {wx:World}
theorem Mid0.pAsk (hF:Prog4 F) (hP:ProgFrame F) (hQ:RefFrame G) (h:Mid0 F G S R w0 pb x c s1 s2 wx) (i:Int) (t:ByteArray) (ht:t.size<=1048576) :
  Calls Tryz.prog 24 #[.pointer (some ⟨x,0,none⟩),.int .i64 i,.string t] wx fun e w'=>∃ u,e=.returned (.tuple #[.string u,.int .i64 (askR s1.es s1.kn i (toL t)).2])/\toL u=(askR s1.es s1.kn i (toL t)).1/\Mid0 F G S R w0 pb x c s1 s2 w':=by
 obtain ⟨S1,h1,h2⟩:=h.f
 refine Calls.mono (hF.asks wx x S1 s1 i t h.glob h1 ht) ?_
 rintro e w' ⟨u,rfl,hu,S2,f2,g2,hc⟩
 exact ⟨u,rfl,hu,h.prog hP hQ h1 h2 f2 g2 hc⟩
theorem Mid0.rAsk (hR:RefOK G) (hP:ProgFrame F) (hQ:RefFrame G) (h:Mid0 F G S R w0 pb x c s1 s2 wx) (i:Int) (t:ByteArray) (ht:t.size<=1048576) :
  Calls Tryz.prog 110 #[.pointer (some ⟨c,0,none⟩),.int .i64 i,.string t] wx fun e w'=>∃ u,e=.returned (.tuple #[.string u,.int .i64 (askR s2.es s2.kn i (toL t)).2])/\toL u=(askR s2.es s2.kn i (toL t)).1/\Mid0 F G S R w0 pb x c s1 s2 w':=by
 obtain ⟨R1,h1,h2⟩:=h.g
 refine Calls.mono (hR.asks wx c R1 s2 i t h1 ht) ?_
 rintro e w' ⟨u,rfl,hu,hb⟩
 exact ⟨u,rfl,hu,h.below hP hQ hb⟩
theorem Mid0.pKnows (hF:Prog4 F) (hP:ProgFrame F) (hQ:RefFrame G) (h:Mid0 F G S R w0 pb x c s1 s2 wx) (i:Int) :
  Calls Tryz.prog 22 #[.pointer (some ⟨x,0,none⟩),.int .i64 i] wx fun e w'=>e=.returned (.tuple #[.int .i64 (knowsR s1.kn i).1,.int .i64 (knowsR s1.kn i).2])/\Mid0 F G S R w0 pb x c s1 s2 w':=by
 obtain ⟨S1,h1,h2⟩:=h.f
 refine Calls.mono (hF.knows wx x S1 s1 i h.glob h1) ?_
 rintro e w' ⟨rfl,S2,f2,g2,hc⟩
 exact ⟨rfl,h.prog hP hQ h1 h2 f2 g2 hc⟩
theorem Mid0.pDo (hF:Prog4 F) (hP:ProgFrame F) (hQ:RefFrame G) (h:Mid0 F G S R w0 pb x c s1 s2 wx) (i:Int) (t:ByteArray) (ht:t.size<=1048576) {r:Int} {es':List Ev} {kn':List (List Bool)} (hd:DoOut s1.es s1.kn i (toL t) r es' kn') :
  Calls Tryz.prog 23 #[.pointer (some ⟨x,0,none⟩),.int .i64 i,.string t] wx fun e w'=>e=.returned (.int .i64 r)/\Mid0 F G S R w0 pb x c ⟨es',kn',s1.fs⟩ s2 w':=by
 obtain ⟨S1,h1,h2⟩:=h.f
 refine Calls.mono (hF.does wx x S1 s1 i t r es' kn' h.glob h1 ht hd) ?_
 rintro e w' ⟨rfl,S2,f2,g2,hc⟩
 exact ⟨rfl,h.prog hP hQ h1 h2 f2 g2 hc⟩
theorem Mid0.rDo (hR:RefOK G) (hP:ProgFrame F) (hQ:RefFrame G) (h:Mid0 F G S R w0 pb x c s1 s2 wx) (i:Int) (t:ByteArray) (ht:t.size<=1048576) :
  Calls Tryz.prog 116 #[.pointer (some ⟨c,0,none⟩),.int .i64 i,.string t] wx fun e w'=>∃ r es' kn',e=.returned (.int .i64 r)/\DoOut s2.es s2.kn i (toL t) r es' kn'/\Mid0 F G S R w0 pb x c s1 ⟨es',kn',s2.fs⟩ w':=by
 obtain ⟨R1,h1,h2⟩:=h.g
 refine Calls.mono (hR.does wx c R1 s2 i t h1 ht) ?_
 rintro e w' ⟨r,es',kn',rfl,hd,R2,f2,g2,hc,hi⟩
 exact ⟨r,es',kn',rfl,hd,h.ref hP hQ h1 h2 f2 g2 hc hi⟩
theorem Mid0.rUp (hR:RefOK G) (h:Mid0 F G S R w0 pb x c s1 s2 wx) (i:Int):Calls Tryz.prog 109 #[.pointer (some ⟨c,0,none⟩),.int .i64 i] wx fun e w'=>e=.returned (.int .i64 (upR s2.kn i))/\w'=wx:=by
 obtain ⟨R1,h1,h2⟩:=h.g
 exact hR.up wx c R1 s2 i h1

theorem Mid.pAsk (hF:Prog4 F) (hP:ProgFrame F) (hQ:RefFrame G) (h:Mid F G S R w0 bx o pb x c s1 s2 wx) (i:Int) (t:ByteArray) (ht:t.size<=1048576) :
  Calls Tryz.prog 24 #[.pointer (some ⟨x,0,none⟩),.int .i64 i,.string t] wx fun e w'=>∃ u,e=.returned (.tuple #[.string u,.int .i64 (askR s1.es s1.kn i (toL t)).2])/\toL u=(askR s1.es s1.kn i (toL t)).1/\Mid F G S R w0 bx o pb x c s1 s2 w':=by
 refine Calls.mono (h.m.pAsk hF hP hQ i t ht) ?_
 rintro e w' ⟨u,rfl,hu,hm⟩
 exact ⟨u,rfl,hu,hm,h.bk,h.bS,h.bR⟩
theorem Mid.rAsk (hR:RefOK G) (hP:ProgFrame F) (hQ:RefFrame G) (h:Mid F G S R w0 bx o pb x c s1 s2 wx) (i:Int) (t:ByteArray) (ht:t.size<=1048576) :
  Calls Tryz.prog 110 #[.pointer (some ⟨c,0,none⟩),.int .i64 i,.string t] wx fun e w'=>∃ u,e=.returned (.tuple #[.string u,.int .i64 (askR s2.es s2.kn i (toL t)).2])/\toL u=(askR s2.es s2.kn i (toL t)).1/\Mid F G S R w0 bx o pb x c s1 s2 w':=by
 refine Calls.mono (h.m.rAsk hR hP hQ i t ht) ?_
 rintro e w' ⟨u,rfl,hu,hm⟩
 exact ⟨u,rfl,hu,hm,h.bk,h.bS,h.bR⟩
theorem Mid.pKnows (hF:Prog4 F) (hP:ProgFrame F) (hQ:RefFrame G) (h:Mid F G S R w0 bx o pb x c s1 s2 wx) (i:Int) :
  Calls Tryz.prog 22 #[.pointer (some ⟨x,0,none⟩),.int .i64 i] wx fun e w'=>e=.returned (.tuple #[.int .i64 (knowsR s1.kn i).1,.int .i64 (knowsR s1.kn i).2])/\Mid F G S R w0 bx o pb x c s1 s2 w':=by
 refine Calls.mono (h.m.pKnows hF hP hQ i) ?_
 rintro e w' ⟨rfl,hm⟩
 exact ⟨rfl,hm,h.bk,h.bS,h.bR⟩
theorem Mid.pDo (hF:Prog4 F) (hP:ProgFrame F) (hQ:RefFrame G) (h:Mid F G S R w0 bx o pb x c s1 s2 wx) (i:Int) (t:ByteArray) (ht:t.size<=1048576) {r:Int} {es':List Ev} {kn':List (List Bool)} (hd:DoOut s1.es s1.kn i (toL t) r es' kn') :
  Calls Tryz.prog 23 #[.pointer (some ⟨x,0,none⟩),.int .i64 i,.string t] wx fun e w'=>e=.returned (.int .i64 r)/\Mid F G S R w0 bx o pb x c ⟨es',kn',s1.fs⟩ s2 w':=by
 refine Calls.mono (h.m.pDo hF hP hQ i t ht hd) ?_
 rintro e w' ⟨rfl,hm⟩
 exact ⟨rfl,hm,h.bk,h.bS,h.bR⟩
theorem Mid.rDo (hR:RefOK G) (hP:ProgFrame F) (hQ:RefFrame G) (h:Mid F G S R w0 bx o pb x c s1 s2 wx) (i:Int) (t:ByteArray) (ht:t.size<=1048576) :
  Calls Tryz.prog 116 #[.pointer (some ⟨c,0,none⟩),.int .i64 i,.string t] wx fun e w'=>∃ r es' kn',e=.returned (.int .i64 r)/\DoOut s2.es s2.kn i (toL t) r es' kn'/\Mid F G S R w0 bx o pb x c s1 ⟨es',kn',s2.fs⟩ w':=by
 refine Calls.mono (h.m.rDo hR hP hQ i t ht) ?_
 rintro e w' ⟨r,es',kn',rfl,hd,hm⟩
 exact ⟨r,es',kn',rfl,hd,hm,h.bk,h.bS,h.bR⟩
theorem Mid.rUp (hR:RefOK G) (h:Mid F G S R w0 bx o pb x c s1 s2 wx) (i:Int):Calls Tryz.prog 109 #[.pointer (some ⟨c,0,none⟩),.int .i64 i] wx fun e w'=>e=.returned (.int .i64 (upR s2.kn i))/\w'=wx:=h.m.rUp hR i
end

theorem tells_ask (hF:Prog4 F) (hR:RefOK G) (hP:ProgFrame F) (hQ:RefFrame G) (w:World) (hG:Glob w) (pb x:Nat) (S:Nat->Prop) (c:Nat) (R:Nat->Prop) (s:St) (h:PairAt F G w pb x S c R s) (h4:(∀ k,S k->4<=k)/\(∀ k,R k->4<=k))
  (o:StepD) (ho:o.ok) (hk:o.kind=3) :
  Calls Tryz.prog 69 #[.pointer (some ⟨pb,0,none⟩),o.val] w fun e w'=>e=.returned (.bool true)/\Told F G S R w pb x c s w':=by
 have HP:Hid (ProgFrame F):=hP
 have HQ:Hid (RefFrame G):=hQ
 have hs:o.s.size<=1048576:=ho.2.2.2.2
 unfold StepD.val
 obtain ⟨W1,hW1⟩:∃ W1,W1=w.alloc (stepO o):=⟨_,rfl⟩
 have HA0:Hid (∀ q,Mid F G S R W1 w.heap.size o pb x c s s (W1.drewN q)):=fun q=>by rw[hW1];exact (Mid.start hP hQ hG h h4 o).drewN hP hQ q
 have HX:Hid (∀ wx,Mid F G S R W1 w.heap.size o pb x c s s wx->Calls Tryz.prog 24 #[.pointer (some ⟨x,0,none⟩),.int .i64 o.n,.string o.s] wx _):=fun wx hx=>hx.pAsk hF hP hQ o.n o.s hs
 have HY:Hid (∀ wx,Mid F G S R W1 w.heap.size o pb x c s s wx->Calls Tryz.prog 110 #[.pointer (some ⟨c,0,none⟩),.int .i64 o.n,.string o.s] wx _):=fun wx hx=>hx.rAsk hR hP hQ o.n o.s hs
 have HU:Hid (∀ wx,Mid F G S R W1 w.heap.size o pb x c s s wx->Calls Tryz.prog 109 #[.pointer (some ⟨c,0,none⟩),.int .i64 o.n] wx _):=fun wx hx=>hx.rUp hR o.n
 have hfin:Hid (∀ wx,Mid F G S R W1 w.heap.size o pb x c s s wx->Told F G S R w pb x c s wx):=fun wx hx=>by rw[hW1] at hx;exact hx.fin
 have HW:Hid (w.alloc (stepO o)=W1):=hW1.symm
 have y0:W1.cell? ⟨w.heap.size,0,none⟩=some (.int .i64 o.kind):=(HA0.out 0).b0
 have y1:W1.cell? ⟨pb,1,none⟩=some (.pointer (some ⟨c,0,none⟩)):=(HA0.out 0).p1
 have y2:W1.cell? ⟨w.heap.size,2,none⟩=some (.int .i64 o.n):=(HA0.out 0).b2
 obtain ⟨k,a,n,m,t⟩:=o
 simp only at *
 subst hk
 clear hF hR hP hQ hG h ho hW1 h4
 go_enter Tryz.func69,Tryz.ntmps69
 go_wp2_with fail
 rw[HW.out]
 go_quiet (first | (go_at_call 109;exact Calls.mono (HU.out _ (HA0.out _)) (fun _ _ h=>⟨h.1,_,h.2⟩)))
 go_wp2_with fail
 have hA:=HA0.out nq
 clear HA0 HU y0 y1 y2
 generalize W1.drewN nq=w2 at *
 have q0:=hA.p0
 have q2:=hA.b2
 have q4:=hA.b4
 simp only at q2 q4
 go_region_held3 (fun w'=>Mid F G S R W1 w.heap.size ⟨3,a,n,m,t⟩ pb x c s s w'/\w'.cell? ⟨pb,0,none⟩=some (.pointer (some ⟨x,0,none⟩))/\w'.cell? ⟨w.heap.size,2,none⟩=some (.int .i64 n)/\w'.cell? ⟨w.heap.size,4,none⟩=some (.string t)) ((refine ⟨?_, ?_, ?_, ?_⟩ <;> (first | assumption | (exact Mid.drew HP.out HQ.out (by assumption)) | (exact Mid.p0 (by assumption)) | (exact Mid.b2 (by assumption)) | (exact Mid.b4 (by assumption))))) (first | (go_at_call 24;refine Calls.mono (HX.out _ ?_) ?_;(exact hA.drew HP.out HQ.out);rintro e w3 ⟨u,rfl,hu,hA3⟩))
 have Hu:Hid (toL u=(askR s.es s.kn n (toL t)).1):=hu
 clear hA q0 q2 q4 hu
 go_wp2_with fail
 have r1:=hA3.p1
 have r2:=hA3.b2
 have r4:=hA3.b4
 simp only at r2 r4
 go_region_held3 (fun w'=>Mid F G S R W1 w.heap.size ⟨3,a,n,m,t⟩ pb x c s s w'/\w'.cell? ⟨pb,1,none⟩=some (.pointer (some ⟨c,0,none⟩))/\w'.cell? ⟨w.heap.size,2,none⟩=some (.int .i64 n)/\w'.cell? ⟨w.heap.size,4,none⟩=some (.string t)) ((refine ⟨?_, ?_, ?_, ?_⟩ <;> (first | assumption | (exact Mid.drew HP.out HQ.out (by assumption)) | (exact Mid.p1 (by assumption)) | (exact Mid.b2 (by assumption)) | (exact Mid.b4 (by assumption))))) (first | (go_at_call 110;refine Calls.mono (HY.out _ ?_) ?_;(exact hA3.drew HP.out HQ.out);rintro e w4 ⟨u',rfl,hu',hA4⟩))
 have htt:u'=u:=toL_inj (hu'.trans Hu.out.symm)
 subst htt
 have HA4:Hid (Mid F G S R W1 w.heap.size ⟨3,a,n,m,t⟩ pb x c s s w4):=hA4
 clear hA3 hA4 r1 r2 r4 hu'
 generalize (askR s.es s.kn n (toL t)).2=g at *
 go_wp2_with (first | (go_at_call 108;refine (num_any _ _).mono ?_;rintro e w5 ⟨rfl,rfl⟩))
 go_ret
 exact ⟨rfl,hfin.out _ HA4.out⟩
end Go.Proofs.YtfmmllpjgkgeaaaGreatDoor
namespace Go.Proofs.YtfmmllpjgkgeaaaGreatDoor
open Go.RowKit
variable {F G:Stt}

theorem tells_knows (hF:Prog4 F) (hR:RefOK G) (hP:ProgFrame F) (hQ:RefFrame G) (w:World) (hG:Glob w) (pb x:Nat) (S:Nat->Prop) (c:Nat) (R:Nat->Prop) (s:St) (h:PairAt F G w pb x S c R s) (h4:(∀ k,S k->4<=k)/\(∀ k,R k->4<=k))
  (o:StepD) (ho:o.ok) (hk:o.kind=4) :
  Calls Tryz.prog 69 #[.pointer (some ⟨pb,0,none⟩),o.val] w fun e w'=>e=.returned (.bool true)/\Told F G S R w pb x c s w':=by
 have HP:Hid (ProgFrame F):=hP
 have HQ:Hid (RefFrame G):=hQ
 have HR:Hid (RefOK G):=hR
 unfold StepD.val
 obtain ⟨W1,hW1⟩:∃ W1,W1=w.alloc (stepO o):=⟨_,rfl⟩
 have HA0:Hid (∀ q,Mid F G S R W1 w.heap.size o pb x c s s (W1.drewN q)):=fun q=>by rw[hW1];exact (Mid.start hP hQ hG h h4 o).drewN hP hQ q
 have HX:Hid (∀ wx,Mid F G S R W1 w.heap.size o pb x c s s wx->Calls Tryz.prog 22 #[.pointer (some ⟨x,0,none⟩),.int .i64 o.n] wx _):=fun wx hx=>hx.pKnows hF hP hQ o.n
 have HU:Hid (∀ wx,Mid F G S R W1 w.heap.size o pb x c s s wx->Calls Tryz.prog 109 #[.pointer (some ⟨c,0,none⟩),.int .i64 o.n] wx _):=fun wx hx=>hx.rUp hR o.n
 have hfin:Hid (∀ wx,Mid F G S R W1 w.heap.size o pb x c s s wx->Told F G S R w pb x c s wx):=fun wx hx=>by rw[hW1] at hx;exact hx.fin
 have HW:Hid (w.alloc (stepO o)=W1):=hW1.symm
 have y0:W1.cell? ⟨w.heap.size,0,none⟩=some (.int .i64 o.kind):=(HA0.out 0).b0
 have y1:W1.cell? ⟨pb,1,none⟩=some (.pointer (some ⟨c,0,none⟩)):=(HA0.out 0).p1
 have y2:W1.cell? ⟨w.heap.size,2,none⟩=some (.int .i64 o.n):=(HA0.out 0).b2
 obtain ⟨k,a,n,m,t⟩:=o
 simp only at *
 subst hk
 clear hF hR hP hQ hG h ho hW1 h4
 go_enter Tryz.func69,Tryz.ntmps69
 go_wp2_with fail
 rw[HW.out]
 go_quiet (first | (go_at_call 109;exact Calls.mono (HU.out _ (HA0.out _)) (fun _ _ h=>⟨h.1,_,h.2⟩)))
 go_wp2_with fail
 have hA:=HA0.out nq
 clear HA0 HU y0 y1 y2
 generalize W1.drewN nq=w2 at *
 have q0:=hA.p0
 have q2:=hA.b2
 simp only at q2
 go_region_held3 (fun w'=>Mid F G S R W1 w.heap.size ⟨4,a,n,m,t⟩ pb x c s s w'/\w'.cell? ⟨pb,0,none⟩=some (.pointer (some ⟨x,0,none⟩))/\w'.cell? ⟨w.heap.size,2,none⟩=some (.int .i64 n)) ((refine ⟨?_, ?_, ?_⟩ <;> (first | assumption | (exact Mid.drew HP.out HQ.out (by assumption)) | (exact Mid.p0 (by assumption)) | (exact Mid.b2 (by assumption))))) (first | (go_at_call 22;refine Calls.mono (HX.out _ ?_) ?_;(exact hA.drew HP.out HQ.out);rintro e w3 ⟨rfl,hA3⟩))
 clear hA q0 q2 HX
 by_cases hn:0<=n/\n<s.kn.length
 ·obtain ⟨i,rfl⟩:=Int.eq_ofNat_of_zero_le hn.1
  have hi:i<s.kn.length:=by omega
  have e1:upR s.kn (i:Int)=0:=if_pos hn
  have e2:knowsR s.kn (i:Int)=((cnt s.kn[i]:Int),0):=by
   unfold knowsR;rw[if_pos hn];simp[List.getD_eq_getElem?_getD,hi]
  rw[e1,e2]
  obtain ⟨R1,h1,h2⟩:=hA3.m.g
  obtain ⟨h6,rb,cap,f1,hcap,hrows⟩:=HR.out.cells _ _ _ _ h1
  obtain ⟨kv,k0,k1,hl5⟩:=hrows i hi
  have r1:=hA3.p1
  have r2:=hA3.b2
  simp only at r2
  have Hcnt:Hid (∀ q,Calls Tryz.prog 111 #[kv] (w3.drewN q) fun e w'=>e=.returned (.int .i64 (cnt s.kn[i]:Int))/\w'=w3.drewN q):=fun q=>Count_any w3.heap.size kv s.kn[i] _ hl5 (SliceT.below k1 (below_drewN (Below.refl _ _) q)).toIn
  have HA3:Hid (Mid F G S R W1 w.heap.size ⟨4,a,(i:Int),m,t⟩ pb x c s s w3):=hA3
  clear h1 h2 hA3 k1 e1 e2 hn hrows
  generalize cnt s.kn[i]=z at *
  have hi0:(0:Int)<=(i:Int):=by omega
  have hi1:(i:Int)<(s.kn.length:Int):=by omega
  go_wp2_with fail
  go_quiet (first | (go_at_call 111;exact Calls.mono (Hcnt.out _) (fun _ _ h=>⟨h.1,_,h.2⟩)))
  have HA4:Hid (Mid F G S R W1 w.heap.size ⟨4,a,(i:Int),m,t⟩ pb x c s s (w3.drewN nq)):=HA3.out.drewN HP.out HQ.out _
  go_wp2_with (first | (go_at_call 108;refine (num_any _ _).mono ?_;rintro e w5 ⟨rfl,rfl⟩))
  go_ret
  exact ⟨rfl,hfin.out _ HA4.out⟩
 ·have e1:upR s.kn n=2:=if_neg hn
  have e2:knowsR s.kn n=(0,2):=if_neg hn
  rw[e1,e2]
  have HA3:Hid (Mid F G S R W1 w.heap.size ⟨4,a,n,m,t⟩ pb x c s s w3):=hA3
  clear hA3 e1 e2 hn
  go_wp2_with (first | (go_at_call 108;refine (num_any _ _).mono ?_;rintro e w5 ⟨rfl,rfl⟩))
  all_goals (go_ret;exact ⟨rfl,hfin.out _ HA3.out⟩)
end Go.Proofs.YtfmmllpjgkgeaaaGreatDoor
namespace Go.Proofs.YtfmmllpjgkgeaaaGreatDoor
open Go.RowKit

theorem doOut_exists (es:List Ev) (kn:List (List Bool)) (i:Int) (s:Thk.Bs):∃ r es' kn',DoOut es kn i s r es' kn':=by
 by_cases hi:0<=i/\i<kn.length
 ·cases hr:Thk.read s with
  | inl k=>exact ⟨_,_,_,DoOut.bad k hi hr⟩
  | inr c =>
   by_cases hl:500<=es.length
   ·exact ⟨_,_,_,DoOut.full c hi hr hl⟩
   ·exact ⟨_,_,_,DoOut.done c ⟨⟨c.path.toArray⟩,c.act,⟨c.val.toArray⟩,c.n,kn.getD i.toNat []⟩ hi hr (by omega) rfl rfl rfl rfl rfl⟩
 ·exact ⟨_,_,_,DoOut.rep hi⟩

theorem doOut_det {es:List Ev} {kn:List (List Bool)} {i:Int} {s:Thk.Bs} {r r2:Int} {e1 e2:List Ev} {k1 k2:List (List Bool)} (h:DoOut es kn i s r e1 k1) (h2:DoOut es kn i s r2 e2 k2):r=r2/\e1=e2/\k1=k2:=by
 rcases h with ⟨hi,rfl,rfl,rfl⟩ | ⟨k,hi,hr,rfl,rfl,rfl⟩ | ⟨c,hi,hr,hl,rfl,rfl,rfl⟩ | ⟨c,e,hi,hr,hl,a1,a2,a3,a4,a5,rfl,rfl,rfl⟩ <;>
  rcases h2 with ⟨h3,rfl,rfl,rfl⟩ | ⟨k',h3,h4,rfl,rfl,rfl⟩ | ⟨c',h3,h4,h5,rfl,rfl,rfl⟩ | ⟨c',e',h3,h4,h5,b1,b2,b3,b4,b5,rfl,rfl,rfl⟩
 ·exact ⟨rfl,rfl,rfl⟩
 ·exact absurd h3 hi
 ·exact absurd h3 hi
 ·exact absurd h3 hi
 ·exact absurd hi h3
 ·rw[hr] at h4;cases h4;exact ⟨rfl,rfl,rfl⟩
 ·rw[hr] at h4;cases h4
 ·rw[hr] at h4;cases h4
 ·exact absurd hi h3
 ·rw[hr] at h4;cases h4
 ·exact ⟨rfl,rfl,rfl⟩
 ·omega
 ·exact absurd hi h3
 ·rw[hr] at h4;cases h4
 ·omega
 ·rw[hr] at h4
  cases h4
  obtain ⟨p,a,v,n,sw⟩:=e
  obtain ⟨p',a',v',n',sw'⟩:=e'
  simp only at a1 a2 a3 a4 a5 b1 b2 b3 b4 b5
  have hp:p=p':=toL_inj (a1.trans b1.symm)
  have hv:v=v':=toL_inj (a3.trans b3.symm)
  subst hp hv a2 a4 a5
  refine ⟨rfl, ?_,rfl⟩
  rw[b2,b4,b5]
variable {F G:Stt}

theorem turns_do (hF:Prog4 F) (hR:RefOK G) (hP:ProgFrame F) (hQ:RefFrame G) (w:World) (hG:Glob w) (pb x:Nat) (S:Nat->Prop) (c:Nat) (R:Nat->Prop) (s:St) (h:PairAt F G w pb x S c R s) (h4:(∀ k,S k->4<=k)/\(∀ k,R k->4<=k))
  (o:StepD) (ho:o.ok) (hk:o.kind=2) :
  Calls Tryz.prog 73 #[.pointer (some ⟨pb,0,none⟩),o.val] w fun e w'=>e=.returned (.bool true)/\∃ s',Told F G S R w pb x c s' w':=by
 have HP:Hid (ProgFrame F):=hP
 have HQ:Hid (RefFrame G):=hQ
 have hs:o.s.size<=1048576:=ho.2.2.2.2
 obtain ⟨r,es1,kn1,hd⟩:=doOut_exists s.es s.kn o.n (toL o.s)
 unfold StepD.val
 obtain ⟨W1,hW1⟩:∃ W1,W1=w.alloc (stepO o):=⟨_,rfl⟩
 have HA0:Hid (Mid F G S R W1 w.heap.size o pb x c s s W1):=by rw[hW1];exact Mid.start hP hQ hG h h4 o
 have HX:Hid (∀ wx,Mid F G S R W1 w.heap.size o pb x c s s wx->Calls Tryz.prog 23 #[.pointer (some ⟨x,0,none⟩),.int .i64 o.n,.string o.s] wx _):=fun wx hx=>hx.pDo hF hP hQ o.n o.s hs hd
 have HY:Hid (∀ wx,Mid F G S R W1 w.heap.size o pb x c ⟨es1,kn1,s.fs⟩ s wx->Calls Tryz.prog 116 #[.pointer (some ⟨c,0,none⟩),.int .i64 o.n,.string o.s] wx fun e w'=>e=.returned (.int .i64 r)/\Mid F G S R W1 w.heap.size o pb x c ⟨es1,kn1,s.fs⟩ ⟨es1,kn1,s.fs⟩ w'):=fun wx hx=>by
  refine Calls.mono (hx.rDo hR hP hQ o.n o.s hs) ?_
  rintro e w' ⟨r',es',kn',rfl,hd',hm⟩
  obtain ⟨rfl,rfl,rfl⟩:=doOut_det hd hd'
  exact ⟨rfl,hm⟩
 have hfin:Hid (∀ wx,Mid F G S R W1 w.heap.size o pb x c ⟨es1,kn1,s.fs⟩ ⟨es1,kn1,s.fs⟩ wx->Told F G S R w pb x c ⟨es1,kn1,s.fs⟩ wx):=fun wx hx=>by rw[hW1] at hx;exact hx.fin
 have HW:Hid (w.alloc (stepO o)=W1):=hW1.symm
 obtain ⟨k,a,n,m,t⟩:=o
 simp only at *
 subst hk
 clear hF hR hP hQ hG h ho hW1 h4 hd
 go_enter Tryz.func73,Tryz.ntmps73
 go_wp2_with fail
 rw[HW.out]
 have hA:=HA0.out
 clear HA0
 have q0:=hA.p0
 have q2:=hA.b2
 have q4:=hA.b4
 simp only at q2 q4
 go_region_held3 (fun w'=>w'.cell? ⟨pb,0,none⟩=some (.pointer (some ⟨x,0,none⟩))/\w'.cell? ⟨w.heap.size,2,none⟩=some (.int .i64 n)/\w'.cell? ⟨w.heap.size,4,none⟩=some (.string t)) ((refine ⟨?_, ?_, ?_⟩ <;> (first | assumption | (exact Mid.p0 (by assumption)) | (exact Mid.b2 (by assumption)) | (exact Mid.b4 (by assumption))))) (first | (go_at_call 23;refine Calls.mono (HX.out _ ?_) ?_;(exact hA.drew HP.out HQ.out);rintro e w3 ⟨rfl,hA3⟩))
 clear hA q0 q2 q4 HX
 go_wp2_with fail
 have r1:=hA3.p1
 have r2:=hA3.b2
 have r4:=hA3.b4
 simp only at r2 r4
 go_region_held3 (fun w'=>w'.cell? ⟨pb,1,none⟩=some (.pointer (some ⟨c,0,none⟩))/\w'.cell? ⟨w.heap.size,2,none⟩=some (.int .i64 n)/\w'.cell? ⟨w.heap.size,4,none⟩=some (.string t)) ((refine ⟨?_, ?_, ?_⟩ <;> (first | assumption | (exact Mid.p1 (by assumption)) | (exact Mid.b2 (by assumption)) | (exact Mid.b4 (by assumption))))) (first | (go_at_call 116;refine Calls.mono (HY.out _ ?_) ?_;(exact hA3.drew HP.out HQ.out);rintro e w4 ⟨rfl,hA4⟩))
 have HA4:Hid (Told F G S R w pb x c ⟨es1,kn1,s.fs⟩ w4):=hfin.out _ hA4
 clear hA3 hA4 r1 r2 r4
 go_wp2_with (first | (go_at_call 108;refine (num_any _ _).mono ?_;rintro e w5 ⟨rfl,rfl⟩))
 go_ret
 exact ⟨rfl,_,HA4.out⟩
end Go.Proofs.YtfmmllpjgkgeaaaGreatDoor
namespace Go.Proofs.YtfmmllpjgkgeaaaGreatDoor
open Go.RowKit

theorem turns_idle (w:World) (pb:Nat) (o:StepD) (hk:o.kind<=0) :
  Calls Tryz.prog 73 #[.pointer (some ⟨pb,0,none⟩),o.val] w fun e w'=>e=.returned (.bool true)/\Below w.heap.size w w':=by
 obtain ⟨k,a,n,m,s⟩:=o
 unfold StepD.val
 simp only at *
 have k2:(k == 2)=false:=beq_eq_false_iff_ne.2 (by omega)
 have k10:(k == 10)=false:=beq_eq_false_iff_ne.2 (by omega)
 have k11:(k == 11)=false:=beq_eq_false_iff_ne.2 (by omega)
 have k12:(k == 12)=false:=beq_eq_false_iff_ne.2 (by omega)
 have k13:(k == 13)=false:=beq_eq_false_iff_ne.2 (by omega)
 have Hb:Hid (∀ ob,Below w.heap.size w (w.alloc ob)):=fun ob=>(Below.refl _ w).alloc (Nat.le_refl _) ob
 go_enter Tryz.func73,Tryz.ntmps73
 go_wp2_with (first | (go_at_call 108;refine (num_any _ _).mono ?_;rintro e w5 ⟨rfl,rfl⟩))
 go_ret
 exact ⟨rfl,Hb.out _⟩
variable {F G:Stt}

structure PairD where
 pb:Nat
 x:Nat
 S:Nat->Prop
 c:Nat
 R:Nat->Prop
 s:St
def PairD.At (F G:Stt) (w:World) (d:PairD):Prop:=PairAt F G w d.pb d.x d.S d.c d.R d.s
def PairD.foot (d:PairD) (k:Nat):Prop:=d.S k\/d.R k

theorem foot_tag (hP:ProgFrame F) (hQ:RefFrame G) {w:World} {d:PairD} (h:d.At F G w) {k:Nat} (hk:d.foot k) {t:TypeId} (ht:Tagged w k t):t≠4/\t≠159/\t≠63/\t≠116:=by
 rcases hk with hk | hk
 ·exact (hP.tags h.f hk ht).2
 ·obtain ⟨t',h1,h2⟩:=hQ.tags h.r hk
  rw[tag_same ht h2]
  exact isRef_ne h1
theorem foot_lt (hP:ProgFrame F) (hQ:RefFrame G) {w:World} {d:PairD} (h:d.At F G w) {k:Nat} (hk:d.foot k):k<w.heap.size:=hk.elim (hP.lt h.f) (hQ.lt h.r)

theorem PairD.At.other (hP:ProgFrame F) (hQ:RefFrame G) {w w':World} {d f:PairD} (h:d.At F G w) (hf:f.At F G w) (hc:Chg f.foot w w') (hi:IntsKept w w') (ha:∀ k,d.foot k->¬f.foot k):d.At F G w':=by
 have hpb:¬f.foot d.pb:=fun hk=>(foot_tag hP hQ hf hk h.tag).2.1 rfl
 have hcell:∀ i,w'.cell? ⟨d.pb,i,none⟩=w.cell? ⟨d.pb,i,none⟩:=fun i=>World.cell?_of_block (w:=w) (hc.block d.pb h.tag.lt hpb)
 exact ⟨h.tag.chg hc hpb,(hcell 0).trans h.c0,(hcell 1).trans h.c1,hP.stable h.f hc (fun k hk=>ha k (Or.inl hk)),hQ.stable h.r hc (fun k hk=>ha k (Or.inr hk)) (fun b hb hk=>(foot_tag hP hQ hf hk hb).1 rfl) hi⟩
theorem PairD.At.law (hP:ProgFrame F) (hQ:RefFrame G) {M:Nat->Prop} {w w':World} {d:PairD} (h:d.At F G w) (hc:Chg M w w') (hM:∀ k,M k->k<w.heap.size->Tagged w k 63\/Tagged w k 116):d.At F G w':=by
 have one:∀ {k:Nat} {t:TypeId},M k->Tagged w k t->t=63\/t=116:=fun hk ht=>(hM _ hk ht.lt).imp (tag_same ht) (tag_same ht)
 have no:∀ {k:Nat} {t:TypeId},Tagged w k t->t≠63->t≠116->¬M k:=fun ht h1 h2 hk=>(one hk ht).elim h1 h2
 have hpb:¬M d.pb:=no h.tag (by decide) (by decide)
 have hcell:∀ i,w'.cell? ⟨d.pb,i,none⟩=w.cell? ⟨d.pb,i,none⟩:=fun i=>World.cell?_of_block (w:=w) (hc.block d.pb h.tag.lt hpb)
 have hfoot:∀ k,d.foot k->¬M k:=fun k hk hm=>by
  rcases hM k hm (foot_lt hP hQ h hk) with h1 | h1
  ·exact (foot_tag hP hQ h hk h1).2.2.1 rfl
  ·exact (foot_tag hP hQ h hk h1).2.2.2 rfl
 exact ⟨h.tag.chg hc hpb,(hcell 0).trans h.c0,(hcell 1).trans h.c1,hP.stable h.f hc (fun k hk=>hfoot k (Or.inl hk)),hQ.stable h.r hc (fun k hk=>hfoot k (Or.inr hk)) (fun b hb=>no hb (by decide) (by decide)) (IntsKept.of_chg hc (fun b hb=>no hb (by decide) (by decide)))⟩

def pbs (l:List PairD):List Value:=l.map fun d=>.pointer (some ⟨d.pb,0,none⟩)
structure LawI (F G:Stt) (B:Nat) (w:World) (b:Nat) (rv:Value) (l:List PairD):Prop where
 glob:Glob w
 b4:4<=B
 bB:B<=b
 blk:Blk w b #[rv,.bool false] 63
 row:w.ownsRow B 116 1 rv l.length (pbs l)
 pair:∀ j (h:j<l.length),l[j].At F G w
 foot:∀ j (h:j<l.length) k,l[j].foot k->B<=k
 apart:∀ i j (hi:i<l.length) (hj:j<l.length),i≠j->∀ k,l[i].foot k->¬l[j].foot k
def LawJ (F G:Stt) (c B:Nat) (w:World) (b:Nat):Prop:=∃ rv l,l.length<=c/\LawI F G B w b rv l

section
variable {B:Nat} {w w':World} {b:Nat} {rv:Value} {l:List PairD}
theorem LawI.below (hP:ProgFrame F) (hQ:RefFrame G) (h:LawI F G B w b rv l) (hb:Below w.heap.size w w'):LawI F G B w' b rv l :=
 ⟨h.glob.mono hb,h.b4,h.bB,h.blk.below hb,ownsRow_chg h.row (Chg.of_below (M:=fun _=>False) hb) (fun _ _ h=>h),fun j hj=>PairAt.below hP hQ (h.pair j hj) hb,h.foot,h.apart⟩
theorem LawI.rowTag (h:LawI F G B w b rv l):∀ g,rv.ownBlock=some g->Tagged w g 116:=by
 intro g hg
 obtain ⟨_,h1 | ⟨g',cap,cur,rfl,_,hh,_⟩⟩:=h.row
 ·rw[h1.1] at hg;cases hg
 ·cases hg;exact ⟨cur,hh⟩
theorem LawI.turn (hP:ProgFrame F) (hQ:RefFrame G) (h:LawI F G B w b rv l) (k:Nat) (hk:k<l.length) (d:PairD) (hp:d.pb=l[k].pb) (hd:d.At F G w') (hc:Chg l[k].foot w w') (hi:IntsKept w w') (hf:∀ i,d.foot i->l[k].foot i\/w.heap.size<=i) :
  LawI F G B w' b rv (l.set k d)/\Below B w w':=by
 have hk0:=h.pair k hk
 have hBs:B<=w.heap.size:=Nat.le_trans h.bB (Nat.le_of_lt h.blk.lt)
 have hbel:Below B w w':=⟨hc.os,hc.tape,hc.output,hc.size,fun i hi=>hc.block i (Nat.lt_of_lt_of_le hi hBs) (fun e=>by have:=h.foot k hk i e;omega)⟩
 have hb':¬l[k].foot b:=fun hb=>(foot_tag hP hQ hk0 hb ⟨_,h.blk⟩).2.2.1 rfl
 have hget:∀ j (hj:j<l.length),(l.set k d)[j]'(by simpa using hj)=if k=j then d else l[j]:=fun j hj=>by rw[List.getElem_set]
 refine ⟨⟨h.glob.chg4 hc (fun i hi=>Nat.le_trans h.b4 (h.foot k hk i hi)),h.b4,h.bB,h.blk.chg hc hb', ?_,fun j hj=>?_,fun j hj i hi=>?_,fun i j hi hj hij n hn=>?_⟩,hbel⟩
 ·have e:pbs (l.set k d)=pbs l:=by
   unfold pbs
   rw[List.map_set,hp]
   refine List.ext_getElem? fun j=>?_
   rw[List.getElem?_set]
   by_cases e:k=j
   ·subst e;simp[hk]
   ·simp[e]
  rw[List.length_set,e]
  exact ownsRow_chg h.row hc (fun g hg hm=>(foot_tag hP hQ hk0 hm (h.rowTag g hg)).2.2.2 rfl)
 ·have hj':j<l.length:=by simpa using hj
  rw[hget j hj']
  by_cases e:k=j
  ·rw[if_pos e];exact hd
  ·rw[if_neg e]
   exact (h.pair j hj').other hP hQ hk0 hc hi (fun i hi=>h.apart j k hj' hk (Ne.symm e) i hi)
 ·have hj':j<l.length:=by simpa using hj
  rw[hget j hj'] at hi
  by_cases e:k=j
  ·rw[if_pos e] at hi
   rcases hf i hi with h1 | h1
   ·exact h.foot k hk i h1
   ·omega
  ·rw[if_neg e] at hi
   exact h.foot j hj' i hi
 ·have hi':i<l.length:=by simpa using hi
  have hj':j<l.length:=by simpa using hj
  rw[hget i hi'] at hn
  rw[hget j hj']
  by_cases e:k=i
  ·rw[if_pos e] at hn
   have e2:¬k=j:=by omega
   rw[if_neg e2]
   intro hm
   rcases hf n hn with h1 | h1
   ·exact h.apart k j hk hj' e2 n h1 hm
   ·have:=foot_lt hP hQ (h.pair j hj') hm;omega
  ·rw[if_neg e] at hn
   by_cases e2:k=j
   ·rw[if_pos e2]
    intro hm
    rcases hf n hm with h1 | h1
    ·exact h.apart i k hi' hk (Ne.symm e) n hn h1
    ·have:=foot_lt hP hQ (h.pair i hi') hn;omega
   ·rw[if_neg e2]
    exact h.apart i j hi' hj' hij n hn
theorem LawI.told (hP:ProgFrame F) (hQ:RefFrame G) {c:Nat} (h:LawI F G B w b rv l) (hl:l.length<=c) (k:Nat) (hk:k<l.length) {s':St}
  (hd:Told F G l[k].S l[k].R w l[k].pb l[k].x l[k].c s' w'):LawJ F G c B w' b/\Below B w w':=by
 obtain ⟨S',R',h1,h2,h3,h4,h5⟩:=hd
 obtain ⟨h6,h7⟩:=h.turn hP hQ k hk ⟨l[k].pb,l[k].x,S',l[k].c,R',s'⟩ rfl h1 h4 h5 (fun i hi=>by
  rcases hi with hi | hi
  ·exact (h2 i hi).imp (fun h=>Or.inl h) (fun h=>h)
  ·exact (h3 i hi).imp (fun h=>Or.inr h) (fun h=>h))
 exact ⟨⟨_,_,by simpa using hl,h6⟩,h7⟩
end
end Go.Proofs.YtfmmllpjgkgeaaaGreatDoor

