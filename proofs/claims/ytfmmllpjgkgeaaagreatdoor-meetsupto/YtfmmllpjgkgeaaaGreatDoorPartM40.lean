import Derived.Test.YtfmmllpjgkgeaaaGreatDoorPartM05
import Derived.Test.YtfmmllpjgkgeaaaGreatDoorPartM35
set_option linter.unusedVariables false
set_option linter.unusedSimpArgs false
set_option maxHeartbeats 16000000
set_option maxRecDepth 100000
namespace Go.Proofs.YtfmmllpjgkgeaaaGreatDoor
open Go.Proofs.Tryz Go.RowKit
structure dM where
 kind:Int
 a:Int
 n:Int
 m:Int
 s:ByteArray
def dM.ok(o:dM):Prop:=(-9223372036854775808<=o.kind/\o.kind<=9223372036854775807)/\(-9223372036854775808<=o.a/\o.a<=9223372036854775807)/\(-9223372036854775808<=o.n/\o.n<=9223372036854775807)/\(-9223372036854775808<=o.m/\o.m<=9223372036854775807)/\o.s.size<=1048576
def dM.val(o:dM):Value:=.agg #[.int .i64 o.kind,.int .i64 o.a,.int .i64 o.n,.int .i64 o.m,.string o.s]
structure mZ(w:World)(b off:Nat)(l:List dM):Prop where
 lt:b<w.heap.size
 k:∀j(h:j<l.length),w.cell? ⟨b,off+j*5,none⟩=some (.int .i64 l[j].kind)
 a:∀j(h:j<l.length),w.cell? ⟨b,off+j*5+1,none⟩=some (.int .i64 l[j].a)
 n:∀j(h:j<l.length),w.cell? ⟨b,off+j*5+2,none⟩=some (.int .i64 l[j].n)
 m:∀j(h:j<l.length),w.cell? ⟨b,off+j*5+3,none⟩=some (.int .i64 l[j].m)
 s:∀j(h:j<l.length),w.cell? ⟨b,off+j*5+4,none⟩=some (.string l[j].s)
theorem mZ.below{w w':World}{b off:Nat}{l:List dM}(h:mZ w b off l)(hb:Below w.heap.size w w'):mZ w' b off l :=
 ⟨Nat.lt_of_lt_of_le h.lt hb.size,λj hj=>(hb.cell (p:=⟨b,_,none⟩) h.lt).trans (h.k j hj),λj hj=>(hb.cell (p:=⟨b,_,none⟩) h.lt).trans (h.a j hj),λj hj=>(hb.cell (p:=⟨b,_,none⟩) h.lt).trans (h.n j hj),λj hj=>(hb.cell (p:=⟨b,_,none⟩) h.lt).trans (h.m j hj),λj hj=>(hb.cell (p:=⟨b,_,none⟩) h.lt).trans (h.s j hj)⟩
structure CB(last:Int)(I:Nat->Nat->World->Nat->Prop):Prop where
 heads:∀w,Glob w->Calls prog 38 #[.bool (decide (5<=last))] w λe w'=>e=.returned (.bool true)/\Below w.heap.size w w'
 start:∀w,Glob w->I 0 w.heap.size (w.alloc (.cells #[.slice none 0 0,.bool (decide (7<last))] 63)) w.heap.size
 step:∀c B w b(o:dM),o.ok->o.kind<=last->c<1099511627776->I c B w b->Calls prog 39 #[.pointer (some ⟨b,0,none⟩),o.val] w λe w'=>e=.returned (.bool true)/\I (c+1) B w' b/\Below B w w'
theorem RZ(last:Int)(I:Nat->Nat->World->Nat->Prop)(hL:CB last I)(w:World)(hG:Glob w)(b off cap:Nat)(l:List dM)(hS:mZ w b off l)(hcap:l.length<=cap)(hlen:l.length<=1099511627776)(hok:∀o∈l,o.ok):Calls prog 15 #[.slice (some ⟨b,off,none⟩) l.length cap,.int .i64 last] w λe w'=>e=.returned (.int .i64 (-1))/\Below w.heap.size w w':=by
 have HL:Hid (CB last I):=hL;have HG:Hid (Glob w):=hG;have HS:Hid (mZ w b off l):=hS;have Ai:Hid (∀o∈l,o.ok):=hok;clear hL hG hS hok;go_enter func15,ntmps15;go_wp2_with fail;refine Calls.mono (HL.out.heads w HG.out) ?_;rintro e w1⟨rfl,hb1⟩;have b1:Hid (Below w.heap.size w w1):=hb1;have g1:Hid (Glob w1):=HG.out.mono hb1;have i1:Hid (_):=HL.out.start w1 g1.out;have bz:Hid (∀o,Below w.heap.size w (w1.alloc o)):=λo=>hb1.alloc hb1.size o;clear hb1;go_wp2_with fail;go_loopg [5,7] l.length (λg v5 v7 wx=>∃i:Nat,i+g=l.length/\v5=.bool true/\v7=.int .i64 i/\(∃c,c<=i/\I c w1.heap.size wx w1.heap.size)/\Below w.heap.size w wx);case atStart=>exact⟨0,by omega,rfl,rfl,⟨0,Nat.le_refl _,i1.out⟩,bz.out _⟩
 case round =>
  obtain⟨i,hig,rfl,rfl,⟨ct,hct,hI⟩,hb⟩:=hrel;have HI:Hid (I ct w1.heap.size wr w1.heap.size):=hI;have HB:Hid (Below w.heap.size w wr):=hb;clear hI hb;by_cases hi:i<l.length
  ·have hS2:=HS.out.below HB.out;have hk:=hS2.k i hi;have ha:=hS2.a i hi;have hn:=hS2.n i hi;have hm:=hS2.m i hi;have hs:=hS2.s i hi;clear hS2;have Ho:Hid (l[i].ok):=Ai.out _ (List.getElem_mem hi);generalize l[i]=o at *;by_cases hkd:last<o.kind
   ·go_wp2;go_roundg (l.length-(i+1));case measure=>omega
    case rel=>exact⟨i+1,by omega,rfl,rfl,⟨ct,by omega,HI.out⟩,HB.out⟩
   ·have hkl:o.kind<=last:=by omega
    have Hc:Hid (_):=HL.out.step ct w1.heap.size wr w1.heap.size o Ho.out hkl (by omega) HI.out;go_wp2_with fail;refine Calls.mono Hc.out ?_;rintro e w2⟨rfl,hI2,hb2⟩;have HI2:Hid (I (ct+1) w1.heap.size w2 w1.heap.size):=hI2;have HB2:Hid (Below w.heap.size w w2):=HB.out.trans (hb2.mono b1.out.size);clear hI2 hb2 Hc;go_wp2;go_roundg (l.length-(i+1));case measure=>omega
    case rel=>exact⟨i+1,by omega,rfl,rfl,⟨ct+1,by omega,HI2.out⟩,HB2.out⟩
  ·go_wp2;go_ret;exact⟨rfl,HB.out⟩
theorem Si(last:Int)(I:Nat->Nat->World->Nat->Prop)(hL:CB last I)(w:World)(hG:Glob w)(ad:Option Addr)(cap:Nat):Calls prog 15 #[.slice ad 0 cap,.int .i64 last] w λe w'=>e=.returned (.int .i64 (-1))/\Below w.heap.size w w':=by
 have HL:Hid (CB last I):=hL;have HG:Hid (Glob w):=hG;clear hL hG;go_enter func15,ntmps15;go_wp2_with fail;refine Calls.mono (HL.out.heads w HG.out) ?_;rintro e w1⟨rfl,hb1⟩;have bz:Hid (∀o,Below w.heap.size w (w1.alloc o)):=λo=>hb1.alloc hb1.size o;clear hb1;go_wp2_with fail;go_loopg [5,7] 0 (λg v5 v7 wx=>v7=.int .i64 0/\Below w.heap.size w wx);case atStart=>exact⟨rfl,bz.out _⟩
 case round =>obtain⟨rfl,hb⟩:=hrel;have HB:Hid (Below w.heap.size w wr):=hb;clear hb;go_wp2;go_ret;exact⟨rfl,HB.out⟩
def Ep(w:World)(v:Value)(l:List dM):Prop :=
 (∃ad cap,v=.slice ad 0 cap/\l=[])\/∃b off cap,v=.slice (some ⟨b,off,none⟩) l.length cap/\l.length<=cap/\mZ w b off l
theorem Sj(I:Nat->Nat->World->Nat->Prop)(hL:CB 7 I)(w:World)(hG:Glob w)(v:Value)(l:List dM)(hS:Ep w v l)(hlen:l.length<=1099511627776)(hok:∀o∈l,o.ok):Calls prog 4 #[v] w λe w'=>e=.returned (.bool true)/\Below w.heap.size w w':=by
 rcases hS with⟨ad,cap,rfl,rfl⟩|⟨b,off,cap,rfl,hcap,hS⟩
 ·have Hc:Hid (_):=Si 7 I hL w hG ad cap;go_enter func4,ntmps4;go_wp2_with fail;refine Calls.mono Hc.out ?_;rintro e w1⟨rfl,hb⟩;go_wp2;go_ret;exact⟨rfl,hb⟩
 ·have Hc:Hid (_):=RZ 7 I hL w hG b off cap l hS hcap hlen hok;clear hL hS hok;go_enter func4,ntmps4;go_wp2_with fail;refine Calls.mono Hc.out ?_;rintro e w1⟨rfl,hb⟩;go_wp2;go_ret;exact⟨rfl,hb⟩
structure iW(G:wS):Prop where
 up:∀w c R s i,G w c R s->Calls prog 109 #[.pointer (some ⟨c,0,none⟩),.int .i64 i] w λe w'=>e=.returned (.int .i64 (if 0<=i/\i<s.kn.length then 0 else 2))/\w'=w
 does:∀w c R s i t,G w c R s->t.size<=1048576 ->
  Calls prog 116 #[.pointer (some ⟨c,0,none⟩),.int .i64 i,.string t] w λe w'=>∃r es' lM,e=.returned (.int .i64 r)/\fE s.es s.kn i (ah t) r es' lM/\∃R',G w' c R' ⟨es',lM,s.fs⟩/\(∀k,R' k->R k\/w.heap.size<=k)/\ay R w w'/\aH w w'
 asks:∀w c R s i t,G w c R s->t.size<=1048576 ->
  Calls prog 110 #[.pointer (some ⟨c,0,none⟩),.int .i64 i,.string t] w λe w'=>∃u,e=.returned (.tuple #[.string u,.int .i64 (jg s.es s.kn i (ah t)).2])/\ah u=(jg s.es s.kn i (ah t)).1/\Below w.heap.size w w'
 cells:∀w c R s,G w c R s->s.kn.length<=6/\∃rb cap,w.cell? ⟨c,1,none⟩=some (.slice (some ⟨rb,0,none⟩) s.kn.length cap)/\s.kn.length<=cap/\∀i(h:i<s.kn.length),∃kv,w.cell? ⟨rb,i*13,none⟩=some kv/\aF 4 w kv (bools s.kn[i])/\s.kn[i].length<=1048576
 sends:∀w c R s i j s',G w c R s->sD s i j s' ->
  Calls prog 113 #[.pointer (some ⟨c,0,none⟩),.int .i64 i,.int .i64 j] w λe w'=>e=.returned (.tuple #[.int .i64 (dH s i j).1,.int .i64 (dH s i j).2])/\∃R',G w' c R' s'/\(∀k,R' k->R k\/w.heap.size<=k)/\ay R w w'/\aH w w'
 EM:∀w c R s f s',G w c R s->rM s f s' ->
  Calls prog 114 #[.pointer (some ⟨c,0,none⟩),.int .i64 f] w λe w'=>e=.returned (.tuple #[.int .i64 (iw s f).1,.int .i64 (iw s f).2])/\∃R',G w' c R' s'/\(∀k,R' k->R k\/w.heap.size<=k)/\ay R w w'/\aH w w'
 bound:∀w c R s f,G w c R s->Calls prog 112 #[.pointer (some ⟨c,0,none⟩),.int .i64 f] w λe w'=>∃n:Nat,e=.returned (.int .i64 n)/\n<=1000000/\(n=0↔kD s f=none)/\w'=w
def hE1:Ev:=⟨⟨#[115,120]⟩,43,⟨#[97]⟩,0,[]⟩
def hE2:Ev:=⟨⟨#[115,120]⟩,43,⟨#[98]⟩,0,[true]⟩
def Sl:Ev:=⟨⟨#[115,120]⟩,45,⟨#[97]⟩,0,[true,true]⟩
theorem hd1:fE [] (List.replicate 2 []) 0 (ah ⟨#[115,120,43,97]⟩) 0 [hE1] [[true],[]] :=
 fE.done (es:=[]) (au:=List.replicate 2 []) (i:=0) ⟨[115,120],43,[97],0⟩ hE1 (by decide) (by kernel_rfl) (by decide) rfl rfl rfl rfl rfl
theorem hd2:fE [hE1] [[true],[]] 0 (ah ⟨#[115,120,43,98]⟩) 0 [hE1,hE2] [[true,true],[]] :=
 fE.done (es:=[hE1]) (au:=[[true],[]]) (i:=0) ⟨[115,120],43,[98],0⟩ hE2 (by decide) (by kernel_rfl) (by decide) rfl rfl rfl rfl rfl
theorem hd3:fE [hE1,hE2] [[true,true],[]] 0 (ah ⟨#[115,120,45,97]⟩) 0 [hE1,hE2,Sl] [[true,true,true],[]] :=
 fE.done (es:=[hE1,hE2]) (au:=[[true,true],[]]) (i:=0) ⟨[115,120],45,[97],0⟩ Sl (by decide) (by kernel_rfl) (by decide) rfl rfl rfl rfl rfl
theorem hask:jg [hE1,hE2,Sl] [[true,true,true],[]] 0 (ah ⟨#[115,120]⟩)=([98],0):=by decide +kernel
theorem ac2:jg [hE1,hE2,Sl] [[true,true,true],[true,true,true]] 1 (ah ⟨#[115,120]⟩)=([98],0):=by decide +kernel
theorem hkn:jc [[true,true,true],[]] 0=(3,0):=by decide +kernel
theorem hsend:dH ⟨[hE1,hE2,Sl],[[true,true,true],[]],[]⟩ 0 1=(1,0):=by decide +kernel
structure uN(F:wS)(w:World)(x:Nat)(s:St)(wx:World):Prop where
 f:∃S,F wx x S s/\∀k,S k->w.heap.size<=k
 bel:Below w.heap.size w wx
 glob:Glob wx
theorem uN.next{F:wS}{w wx wy:World}{x:Nat}{s s':St}{S S':Nat->Prop}(h:uN F w x s wx)(hS:∀k,S k->w.heap.size<=k)(hG:Glob w)(hf:F wy x S' s')(hs:∀k,S' k->S k\/wx.heap.size<=k)(hc:ay S wx wy):uN F w x s' wy :=
 have hb:Below w.heap.size w wy:=h.bel.trans (sF hc hS h.bel.size)
 ⟨⟨S',hf,λk hk=>(hs k hk).elim (hS k) (λh2=>Nat.le_trans h.bel.size h2)⟩,hb,hG.mono hb⟩
theorem OB{F:wS}(hF:fF F)(w:World)(hG:Glob w):Calls prog 38 #[.bool true] w λe w'=>e=.returned (.bool true)/\Below w.heap.size w w':=by
 have HN:Hid (Calls prog 40 #[.int .i64 2,.int .i64 10] w λe w'=>∃x,e=.returned (.tuple #[.pointer (some ⟨x,0,none⟩),.int .i64 0])/\uN F w x ⟨[],List.replicate 2 [],[]⟩ w'):=by refine Calls.mono (hF.good w 2 10 hG (by decide) (by decide) (by decide) trivial) ?_;rintro e w1⟨x,S1,rfl,f1,s1,hb1⟩;exact⟨x,rfl,⟨S1,f1,s1⟩,hb1,hG.mono hb1⟩
 have HD:Hid (∀x s wx t r es' lM,uN F w x s wx->t.size<=1048576->fE s.es s.kn 0 (ah t) r es' lM->Calls prog 23 #[.pointer (some ⟨x,0,none⟩),.int .i64 0,.string t] wx λe w'=>e=.returned (.int .i64 r)/\uN F w x ⟨es',lM,s.fs⟩ w'):=λx s wx t r es' lM h ht hd=>by obtain⟨S,f1,s1⟩:=h.f;refine Calls.mono (hF.does wx x S s 0 t r es' lM h.glob f1 ht hd) ?_;rintro e w2⟨rfl,S2,f2,s2,hc2⟩;exact⟨rfl,h.next s1 hG f2 s2 hc2⟩
 have HA:Hid (∀x s wx i t u,uN F w x s wx->t.size<=1048576->jg s.es s.kn i (ah t)=(ah u,0)->Calls prog 24 #[.pointer (some ⟨x,0,none⟩),.int .i64 i,.string t] wx λe w'=>e=.returned (.tuple #[.string u,.int .i64 0])/\uN F w x s w'):=λx s wx i t u h ht ha=>by obtain⟨S,f1,s1⟩:=h.f;refine Calls.mono (hF.asks wx x S s i t h.glob f1 ht) ?_;rw[ha];rintro e w2⟨u',rfl,hu,S2,f2,s2,hc2⟩;have:u'=u:=lK hu;subst this;exact⟨rfl,h.next s1 hG f2 s2 hc2⟩
 have HK:Hid (∀x s wx,uN F w x s wx->jc s.kn 0=(3,0)->Calls prog 22 #[.pointer (some ⟨x,0,none⟩),.int .i64 0] wx λe w'=>e=.returned (.tuple #[.int .i64 3,.int .i64 0])/\uN F w x s w'):=λx s wx h hk=>by obtain⟨S,f1,s1⟩:=h.f;refine Calls.mono (hF.knows wx x S s 0 h.glob f1) ?_;rw[hk];rintro e w2⟨rfl,S2,f2,s2,hc2⟩;exact⟨rfl,h.next s1 hG f2 s2 hc2⟩
 have HS:Hid (∀x wx,uN F w x ⟨[hE1,hE2,Sl],[[true,true,true],[]],[]⟩ wx->Calls prog 27 #[.pointer (some ⟨x,0,none⟩),.int .i64 0,.int .i64 1] wx λe w'=>e=.returned (.tuple #[.int .i64 1,.int .i64 0])/\∃b,uN F w x ⟨[hE1,hE2,Sl],[[true,true,true],[]],[⟨0,1,0,[true,true,true],b⟩]⟩ w'):=λx wx h=>by obtain⟨S,f1,s1⟩:=h.f;refine Calls.mono (hF.sends wx x S _ 0 1 h.glob f1) ?_;rw[hsend];rintro e w2⟨rfl,S2,s',⟨t1,t2,t3⟩,f2,s2,hc2⟩;rw[hsend,if_pos rfl]at t3;obtain⟨b,hb⟩:=t3;obtain⟨a1,a2,a3⟩:=s';simp only at t1 t2 hb;subst t1 t2 hb;exact⟨rfl,b,h.next s1 hG f2 s2 hc2⟩
 have HL:Hid (∀x wx b,uN F w x ⟨[hE1,hE2,Sl],[[true,true,true],[]],[⟨0,1,0,[true,true,true],b⟩]⟩ wx->Calls prog 31 #[.pointer (some ⟨x,0,none⟩),.int .i64 1] wx λe w'=>e=.returned (.tuple #[.int .i64 2,.int .i64 0])/\∃fs,uN F w x ⟨[hE1,hE2,Sl],[[true,true,true],[true,true,true]],fs⟩ w'):=λx wx b h=>by
  obtain⟨S,f1,s1⟩:=h.f;refine Calls.mono (hF.EM wx x S _ 1 h.glob f1) ?_;have e1:iw ⟨[hE1,hE2,Sl],[[true,true,true],[]],[⟨0,1,0,[true,true,true],b⟩]⟩ 1=(2,0):=rfl;have e2:kD ⟨[hE1,hE2,Sl],[[true,true,true],[]],[⟨0,1,0,[true,true,true],b⟩]⟩ 1=some ⟨0,1,0,[true,true,true],b⟩:=rfl;rw[e1];rintro e w2⟨rfl,S2,s',⟨t1,t2⟩,f2,s2,hc2⟩;rw[e2]at t2;obtain⟨a1,a2,a3⟩:=s';simp only at t1 t2;rw[if_neg (by simp)]at t2;obtain⟨t2,b',t3⟩:=t2;have e3:([[true,true,true],[]]:List (List Bool)).set 1 (l7 (([[true,true,true],[]]:List (List Bool)).getD 1 []) [true,true,true])=[[true,true,true],[true,true,true]]:=by decide +kernel
  rw[e3]at t2;subst t1 t2;exact⟨rfl,a3,h.next s1 hG f2 s2 hc2⟩
 clear hF hG;go_enter func38,ntmps38;go_wp2_with fail;refine Calls.mono HN.out ?_;rintro e w1⟨x,rfl,h1⟩;go_wp2_with fail;refine Calls.mono (HD.out x _ w1 _ _ _ _ h1 (by decide) hd1) ?_;rintro e w2⟨rfl,h2⟩;clear h1;go_wp2_with fail;refine Calls.mono (HD.out x _ w2 _ _ _ _ h2 (by decide) hd2) ?_;rintro e w3⟨rfl,h3⟩;clear h2;go_wp2_with fail;refine Calls.mono (HD.out x _ w3 _ _ _ _ h3 (by decide) hd3) ?_;rintro e w4⟨rfl,h4⟩;clear h3;go_wp2_with fail;refine Calls.mono (HA.out x _ w4 0 _ ⟨#[98]⟩ h4 (by decide) hask) ?_;rintro e w5⟨rfl,h5⟩;clear h4;go_wp2_with fail;refine Calls.mono (HK.out x _ w5 h5 hkn) ?_;rintro e w6⟨rfl,h6⟩;clear h5;go_wp2_with fail;refine Calls.mono (HS.out x w6 h6) ?_;rintro e w7⟨rfl,b,h7⟩;clear h6;go_wp2_with fail;refine Calls.mono (HL.out x w7 b h7) ?_;rintro e w8⟨rfl,fs,h8⟩;clear h7;go_wp2_with fail;refine Calls.mono (HA.out x _ w8 1 _ ⟨#[98]⟩ h8 (by decide) ac2) ?_;rintro e w9⟨rfl,h9⟩;have H9:Hid (Below w.heap.size w w9):=h9.bel;clear h8 h9 HN HD HA HK HS HL;go_wp2;go_ret;exact⟨rfl,H9.out⟩
structure aI(G:wS):Prop where
 stable:∀{M:Nat->Prop}{w w':World}{c:Nat}{R:Nat->Prop}{s:St},G w c R s->ay M w w'->(∀k,R k->¬M k)->(∀b,Tagged w b 4->¬M b)->aH w w'->G w' c R s
 tags:∀{w:World}{c:Nat}{R:Nat->Prop}{s:St}{k:Nat},G w c R s->R k->∃t,isRef t/\Tagged w k t
theorem Ia{t:TypeId}(h:isRef t):t≠4/\t≠159/\t≠63/\t≠116:=by rcases h with rfl|rfl|rfl|rfl|rfl<;>decide
structure jO(F G:wS)(w:World)(pb x:Nat)(S:Nat->Prop)(c:Nat)(R:Nat->Prop)(s:St):Prop where
 tag:Tagged w pb 159
 c0:w.cell? ⟨pb,0,none⟩=some (.pointer (some ⟨x,0,none⟩))
 c1:w.cell? ⟨pb,1,none⟩=some (.pointer (some ⟨c,0,none⟩))
 f:F w x S s
 r:G w c R s
variable{F G:wS}
theorem VF(hP:aG F)(hQ:aI G){w:World}{x:Nat}{S:Nat->Prop}{s s2:St}{c:Nat}{R:Nat->Prop}(hf:F w x S s)(hg:G w c R s2)(k:Nat)(hs:S k)(hr:R k):False:=by obtain⟨t,h1,h2⟩:=hQ.tags hg hr;exact(hP.tags hf hs h2).1 h1
theorem aI.lt(hQ:aI G){w:World}{c:Nat}{R:Nat->Prop}{s:St}{k:Nat}(hg:G w c R s)(hr:R k):k<w.heap.size:=by obtain⟨t,_,h2⟩:=hQ.tags hg hr;exact h2.lt
theorem aI.below(hQ:aI G){w w':World}{c:Nat}{R:Nat->Prop}{s:St}(hg:G w c R s)(hb:Below w.heap.size w w'):G w' c R s:=hQ.stable hg (ay.of_below (M:=λ_=>False) hb) (λ_ _ h=>h) (λ_ _ h=>h) (aH.of_below hb)
theorem jO.below(hP:aG F)(hQ:aI G){w w':World}{pb x:Nat}{S:Nat->Prop}{c:Nat}{R:Nat->Prop}{s:St}(h:jO F G w pb x S c R s)(hb:Below w.heap.size w w'):jO F G w' pb x S c R s :=
 ⟨h.tag.below hb,(hb.cell (p:=⟨pb,0,none⟩) h.tag.lt).trans h.c0,(hb.cell (p:=⟨pb,1,none⟩) h.tag.lt).trans h.c1,hP.below h.f hb,hQ.below h.r hb⟩
structure dI(F G:wS)(S R:Nat->Prop)(w0:World)(pb x c:Nat)(s1 s2:St)(wx:World):Prop where
 tag:Tagged wx pb 159
 p0:wx.cell? ⟨pb,0,none⟩=some (.pointer (some ⟨x,0,none⟩))
 p1:wx.cell? ⟨pb,1,none⟩=some (.pointer (some ⟨c,0,none⟩))
 f:∃S',F wx x S' s1/\∀k,S' k->S k\/w0.heap.size<=k
 g:∃R',G wx c R' s2/\∀k,R' k->R k\/w0.heap.size<=k
 aJ:ay (λk=>S k\/R k) w0 wx
 ints:aH w0 wx
 glob:Glob wx
 s4:(∀k,S k->4<=k)/\(∀k,R k->4<=k)/\4<=w0.heap.size
abbrev lZ(o:dM):Obj:=.cells #[.int .i64 o.kind,.int .i64 o.a,.int .i64 o.n,.int .i64 o.m,.string o.s] 65
structure Mid(F G:wS)(S R:Nat->Prop)(w0:World)(bx:Nat)(o:dM)(pb x c:Nat)(s1 s2:St)(wx:World):Prop where
 m:dI F G S R w0 pb x c s1 s2 wx
 bk:aA w0 bx #[.int .i64 o.kind,.int .i64 o.a,.int .i64 o.n,.int .i64 o.m,.string o.s] 65
 bS:¬S bx
 bR:¬R bx
section
variable{S R:Nat->Prop}{w0:World}{bx:Nat}{o:dM}{pb x c:Nat}{s1 s2:St}{wx wy:World}
theorem dI.cell(h:dI F G S R w0 pb x c s1 s2 wx){b:Nat}(hb:b<w0.heap.size)(hS:¬S b)(hR:¬R b)(i:Nat):wx.cell? ⟨b,i,none⟩=w0.cell? ⟨b,i,none⟩:=World.cell?_of_block (w:=w0) (h.aJ.block b hb (λh2=>h2.elim hS hR))
theorem Mid.p0(h:Mid F G S R w0 bx o pb x c s1 s2 wx):wx.cell? ⟨pb,0,none⟩=some (.pointer (some ⟨x,0,none⟩)):=h.m.p0
theorem Mid.p1(h:Mid F G S R w0 bx o pb x c s1 s2 wx):wx.cell? ⟨pb,1,none⟩=some (.pointer (some ⟨c,0,none⟩)):=h.m.p1
theorem Mid.b0(h:Mid F G S R w0 bx o pb x c s1 s2 wx):wx.cell? ⟨bx,0,none⟩=some (.int .i64 o.kind):=(h.m.cell h.bk.lt h.bS h.bR 0).trans ((h.bk.cell 0).trans rfl)
theorem Mid.b2(h:Mid F G S R w0 bx o pb x c s1 s2 wx):wx.cell? ⟨bx,2,none⟩=some (.int .i64 o.n):=(h.m.cell h.bk.lt h.bS h.bR 2).trans ((h.bk.cell 2).trans rfl)
theorem Mid.b3(h:Mid F G S R w0 bx o pb x c s1 s2 wx):wx.cell? ⟨bx,3,none⟩=some (.int .i64 o.m):=(h.m.cell h.bk.lt h.bS h.bR 3).trans ((h.bk.cell 3).trans rfl)
theorem Mid.b4(h:Mid F G S R w0 bx o pb x c s1 s2 wx):wx.cell? ⟨bx,4,none⟩=some (.string o.s):=(h.m.cell h.bk.lt h.bS h.bR 4).trans ((h.bk.cell 4).trans rfl)
theorem dI.below(hP:aG F)(hQ:aI G)(h:dI F G S R w0 pb x c s1 s2 wx)(hb:Below wx.heap.size wx wy):dI F G S R w0 pb x c s1 s2 wy:=by obtain⟨S',h1,h2⟩:=h.f;obtain⟨R',h3,h4⟩:=h.g;exact⟨h.tag.below hb,(hb.cell (p:=⟨pb,0,none⟩) h.tag.lt).trans h.p0,(hb.cell (p:=⟨pb,1,none⟩) h.tag.lt).trans h.p1,⟨S',hP.below h1 hb,h2⟩,⟨R',hQ.below h3 hb,h4⟩,h.aJ.below hb,h.ints.trans (aH.of_below hb),h.glob.mono hb,h.s4⟩
theorem Mid.below(hP:aG F)(hQ:aI G)(h:Mid F G S R w0 bx o pb x c s1 s2 wx)(hb:Below wx.heap.size wx wy):Mid F G S R w0 bx o pb x c s1 s2 wy:=⟨h.m.below hP hQ hb,h.bk,h.bS,h.bR⟩
theorem Mid.drew(hP:aG F)(hQ:aI G)(h:Mid F G S R w0 bx o pb x c s1 s2 wx):Mid F G S R w0 bx o pb x c s1 s2 wx.drew:=h.below hP hQ (Below.refl _ _).drew
theorem Mid.drewN(hP:aG F)(hQ:aI G)(h:Mid F G S R w0 bx o pb x c s1 s2 wx)(n:Nat):Mid F G S R w0 bx o pb x c s1 s2 (wx.drewN n):=h.below hP hQ (below_drewN (Below.refl _ _) n)
theorem VG{wx wy:World}(h:Glob wx)(hb4:Below 4 wx wy):Glob wy:=by obtain⟨⟨m,g1⟩,⟨e1,g2,g2'⟩,⟨e2,g3,g3'⟩,g4,g5⟩:=h;refine⟨⟨m,(hb4.cell (p:=⟨0,0,none⟩) (by decide)).trans g1⟩,⟨e1,(hb4.cell (p:=⟨1,0,none⟩) (by decide)).trans g2,g2'⟩,⟨e2,(hb4.cell (p:=⟨2,0,none⟩) (by decide)).trans g3,g3'⟩, ?_,Nat.lt_of_lt_of_le g5 hb4.size⟩;exact var?_below (g:=3) hb4 (by kernel_rfl) (by decide) g4
theorem dI.rE(hP:aG F)(hQ:aI G)(h:dI F G S R w0 pb x c s1 s2 wx){S1 S2:Nat->Prop}{s1':St}(h1:F wx x S1 s1)(hs1:∀k,S1 k->S k\/w0.heap.size<=k)(hf:F wy x S2 s1')(hs2:∀k,S2 k->S1 k\/wx.heap.size<=k)(hc:ay S1 wx wy):dI F G S R w0 pb x c s1' s2 wy:=by
 obtain⟨R',h3,h4⟩:=h.g;have hpb:¬S1 pb:=λhs=>(hP.tags h1 hs h.tag).2.2.1 rfl;have hcp:∀i,wy.cell? ⟨pb,i,none⟩=wx.cell? ⟨pb,i,none⟩:=λi=>World.cell?_of_block (w:=wx) (hc.block pb h.tag.lt hpb);have hik:aH wx wy:=aH.jI hc (λb hb hs=>(hP.tags h1 hs hb).1 (Or.inr (Or.inr (Or.inr (Or.inr rfl)))));refine⟨h.tag.aJ hc hpb,(hcp 0).trans h.p0,(hcp 1).trans h.p1,⟨S2,hf,λk hk=>(hs2 k hk).elim (hs1 k) (λh2=>Or.inr (Nat.le_trans h.aJ.size h2))⟩,⟨R',hQ.stable h3 hc (λk hr hs=>VF hP hQ h1 h3 k hs hr) (λb hb hs=>(hP.tags h1 hs hb).2.1 rfl) hik,h4⟩, ?_,h.ints.trans hik, ?_,h.s4⟩
 ·refine⟨hc.os.trans h.aJ.os,hc.tape.trans h.aJ.tape,hc.output.trans h.aJ.output,Nat.le_trans h.aJ.size hc.size,λk hk hn=>?_⟩;exact(hc.block k (Nat.lt_of_lt_of_le hk h.aJ.size) (λhs=>(hs1 k hs).elim (λh2=>hn (Or.inl h2)) (λh2=>by omega))).trans (h.aJ.block k hk hn)
 ·exact VG h.glob (sF hc (λk hk=>(hs1 k hk).elim (h.s4.1 k) (λh2=>Nat.le_trans h.s4.2.2 h2)) (Nat.le_trans h.s4.2.2 h.aJ.size))
theorem dI.ref(hP:aG F)(hQ:aI G)(h:dI F G S R w0 pb x c s1 s2 wx){R1 R2:Nat->Prop}{s2':St}(h1:G wx c R1 s2)(hs1:∀k,R1 k->R k\/w0.heap.size<=k)(hf:G wy c R2 s2')(hs2:∀k,R2 k->R1 k\/wx.heap.size<=k)(hc:ay R1 wx wy)(hik:aH wx wy):dI F G S R w0 pb x c s1 s2' wy:=by
 obtain⟨S',h3,h4⟩:=h.f;have hpb:¬R1 pb:=λhs=>by obtain⟨t,h5,h6⟩:=hQ.tags h1 hs;exact(Ia h5).2.1 (o7 h6 h.tag)
 have hcp:∀i,wy.cell? ⟨pb,i,none⟩=wx.cell? ⟨pb,i,none⟩:=λi=>World.cell?_of_block (w:=wx) (hc.block pb h.tag.lt hpb);refine⟨h.tag.aJ hc hpb,(hcp 0).trans h.p0,(hcp 1).trans h.p1,⟨S',hP.stable h3 hc (λk hs hr=>VF hP hQ h3 h1 k hs hr),h4⟩,⟨R2,hf,λk hk=>(hs2 k hk).elim (hs1 k) (λh2=>Or.inr (Nat.le_trans h.aJ.size h2))⟩, ?_,h.ints.trans hik, ?_,h.s4⟩
 ·refine⟨hc.os.trans h.aJ.os,hc.tape.trans h.aJ.tape,hc.output.trans h.aJ.output,Nat.le_trans h.aJ.size hc.size,λk hk hn=>?_⟩;exact(hc.block k (Nat.lt_of_lt_of_le hk h.aJ.size) (λhs=>(hs1 k hs).elim (λh2=>hn (Or.inr h2)) (λh2=>by omega))).trans (h.aJ.block k hk hn)
 ·exact VG h.glob (sF hc (λk hk=>(hs1 k hk).elim (h.s4.2.1 k) (λh2=>Nat.le_trans h.s4.2.2 h2)) (Nat.le_trans h.s4.2.2 h.aJ.size))
def Told(F G:wS)(S R:Nat->Prop)(w:World)(pb x c:Nat)(s:St)(w':World):Prop :=
 ∃S' R',jO F G w' pb x S' c R' s/\(∀k,S' k->S k\/w.heap.size<=k)/\(∀k,R' k->R k\/w.heap.size<=k)/\ay (λk=>S k\/R k) w w'/\aH w w'
theorem dI.start(hP:aG F)(hQ:aI G){w w':World}(hG:Glob w){s:St}(h:jO F G w pb x S c R s)(h4:(∀k,S k->4<=k)/\(∀k,R k->4<=k))(hb:Below w.heap.size w w'):dI F G S R w pb x c s s w':=by have h2:=h.below hP hQ hb;exact⟨h2.tag,h2.c0,h2.c1,⟨S,h2.f,λk hk=>Or.inl hk⟩,⟨R,h2.r,λk hk=>Or.inl hk⟩,ay.of_below hb,aH.of_below hb,hG.mono hb,h4.1,h4.2,hG.size⟩
theorem dI.fin{w:World}{s:St}(h:dI F G S R w pb x c s s wx):Told F G S R w pb x c s wx:=by obtain⟨S',h1,h2⟩:=h.f;obtain⟨R',h3,h4⟩:=h.g;exact⟨S',R',⟨h.tag,h.p0,h.p1,h1,h3⟩,h2,h4,h.aJ,h.ints⟩
theorem Mid.start(hP:aG F)(hQ:aI G){w:World}(hG:Glob w){s:St}(h:jO F G w pb x S c R s)(h4:(∀k,S k->4<=k)/\(∀k,R k->4<=k))(o:dM):Mid F G S R (w.alloc (lZ o)) w.heap.size o pb x c s s (w.alloc (lZ o)):=by have hb:Below w.heap.size w (w.alloc (lZ o)):=(Below.refl _ w).alloc (Nat.le_refl _) _;exact⟨dI.start hP hQ (hG.mono hb) (h.below hP hQ hb) h4 (Below.refl _ _),aA.new w _ _,λhk=>by have:=hP.lt h.f hk;omega,λhk=>by have:=hQ.lt h.r hk;omega⟩
theorem Mid.fin{w:World}{s:St}(h:Mid F G S R (w.alloc (lZ o)) w.heap.size o pb x c s s wx):Told F G S R w pb x c s wx:=by obtain⟨S',R',h1,h2,h3,h4,h5⟩:=h.m.fin;have hb:Below w.heap.size w (w.alloc (lZ o)):=(Below.refl _ w).alloc (Nat.le_refl _) _;exact⟨S',R',h1,λk hk=>(h2 k hk).imp id (λh5=>Nat.le_trans hb.size h5),λk hk=>(h3 k hk).imp id (λh5=>Nat.le_trans hb.size h5),(ay.of_below hb).trans h4,(aH.of_below hb).trans h5⟩
end
end Go.Proofs.YtfmmllpjgkgeaaaGreatDoor
namespace Go.Proofs.YtfmmllpjgkgeaaaGreatDoor
open Go.Proofs.Tryz Go.RowKit
variable{F G:wS}
def upR(kn:List (List Bool))(i:Int):Int:=if 0<=i/\i<kn.length then 0 else 2
section
variable{S R:Nat->Prop}{w0:World}{bx:Nat}{o:dM}{pb x c:Nat}{s1 s2:St}{wx:World}
theorem dI.XG(hF:fF F)(hP:aG F)(hQ:aI G)(h:dI F G S R w0 pb x c s1 s2 wx)(i:Int)(t:ByteArray)(ht:t.size<=1048576):Calls prog 24 #[.pointer (some ⟨x,0,none⟩),.int .i64 i,.string t] wx λe w'=>∃u,e=.returned (.tuple #[.string u,.int .i64 (jg s1.es s1.kn i (ah t)).2])/\ah u=(jg s1.es s1.kn i (ah t)).1/\dI F G S R w0 pb x c s1 s2 w':=by obtain⟨S1,h1,h2⟩:=h.f;refine Calls.mono (hF.asks wx x S1 s1 i t h.glob h1 ht) ?_;rintro e w'⟨u,rfl,hu,S2,f2,g2,hc⟩;exact⟨u,rfl,hu,h.rE hP hQ h1 h2 f2 g2 hc⟩
theorem dI.XH(hR:iW G)(hP:aG F)(hQ:aI G)(h:dI F G S R w0 pb x c s1 s2 wx)(i:Int)(t:ByteArray)(ht:t.size<=1048576):Calls prog 110 #[.pointer (some ⟨c,0,none⟩),.int .i64 i,.string t] wx λe w'=>∃u,e=.returned (.tuple #[.string u,.int .i64 (jg s2.es s2.kn i (ah t)).2])/\ah u=(jg s2.es s2.kn i (ah t)).1/\dI F G S R w0 pb x c s1 s2 w':=by obtain⟨R1,h1,h2⟩:=h.g;refine Calls.mono (hR.asks wx c R1 s2 i t h1 ht) ?_;rintro e w'⟨u,rfl,hu,hb⟩;exact⟨u,rfl,hu,h.below hP hQ hb⟩
theorem dI.Ku(hF:fF F)(hP:aG F)(hQ:aI G)(h:dI F G S R w0 pb x c s1 s2 wx)(i:Int):Calls prog 22 #[.pointer (some ⟨x,0,none⟩),.int .i64 i] wx λe w'=>e=.returned (.tuple #[.int .i64 (jc s1.kn i).1,.int .i64 (jc s1.kn i).2])/\dI F G S R w0 pb x c s1 s2 w':=by obtain⟨S1,h1,h2⟩:=h.f;refine Calls.mono (hF.knows wx x S1 s1 i h.glob h1) ?_;rintro e w'⟨rfl,S2,f2,g2,hc⟩;exact⟨rfl,h.rE hP hQ h1 h2 f2 g2 hc⟩
theorem dI.pDo(hF:fF F)(hP:aG F)(hQ:aI G)(h:dI F G S R w0 pb x c s1 s2 wx)(i:Int)(t:ByteArray)(ht:t.size<=1048576){r:Int}{es':List Ev}{lM:List (List Bool)}(hd:fE s1.es s1.kn i (ah t) r es' lM):Calls prog 23 #[.pointer (some ⟨x,0,none⟩),.int .i64 i,.string t] wx λe w'=>e=.returned (.int .i64 r)/\dI F G S R w0 pb x c ⟨es',lM,s1.fs⟩ s2 w':=by obtain⟨S1,h1,h2⟩:=h.f;refine Calls.mono (hF.does wx x S1 s1 i t r es' lM h.glob h1 ht hd) ?_;rintro e w'⟨rfl,S2,f2,g2,hc⟩;exact⟨rfl,h.rE hP hQ h1 h2 f2 g2 hc⟩
theorem dI.Sm(hF:fF F)(hP:aG F)(hQ:aI G)(h:dI F G S R w0 pb x c s1 s2 wx)(i j:Int):Calls prog 27 #[.pointer (some ⟨x,0,none⟩),.int .i64 i,.int .i64 j] wx λe w'=>e=.returned (.tuple #[.int .i64 (dH s1 i j).1,.int .i64 (dH s1 i j).2])/\∃s',sD s1 i j s'/\dI F G S R w0 pb x c s' s2 w':=by obtain⟨S1,h1,h2⟩:=h.f;refine Calls.mono (hF.sends wx x S1 s1 i j h.glob h1) ?_;rintro e w'⟨rfl,S2,s',hs,f2,g2,hc⟩;exact⟨rfl,s',hs,h.rE hP hQ h1 h2 f2 g2 hc⟩
theorem dI.XI(hF:fF F)(hP:aG F)(hQ:aI G)(h:dI F G S R w0 pb x c s1 s2 wx)(f:Int):Calls prog 31 #[.pointer (some ⟨x,0,none⟩),.int .i64 f] wx λe w'=>e=.returned (.tuple #[.int .i64 (iw s1 f).1,.int .i64 (iw s1 f).2])/\∃s',rM s1 f s'/\dI F G S R w0 pb x c s' s2 w':=by obtain⟨S1,h1,h2⟩:=h.f;refine Calls.mono (hF.EM wx x S1 s1 f h.glob h1) ?_;rintro e w'⟨rfl,S2,s',hs,f2,g2,hc⟩;exact⟨rfl,s',hs,h.rE hP hQ h1 h2 f2 g2 hc⟩
theorem dI.XJ(hF:fF F)(hP:aG F)(hQ:aI G)(h:dI F G S R w0 pb x c s1 s2 wx)(f:Int):Calls prog 28 #[.pointer (some ⟨x,0,none⟩),.int .i64 f] wx λe w'=>e=.returned (.tuple #[.string (kE s1 f).1,.int .i64 (kE s1 f).2])/\dI F G S R w0 pb x c s1 s2 w':=by obtain⟨S1,h1,h2⟩:=h.f;refine Calls.mono (hF.frame wx x S1 s1 f h.glob h1) ?_;rintro e w'⟨rfl,S2,f2,g2,hc⟩;exact⟨rfl,h.rE hP hQ h1 h2 f2 g2 hc⟩
theorem dI.rDo(hR:iW G)(hP:aG F)(hQ:aI G)(h:dI F G S R w0 pb x c s1 s2 wx)(i:Int)(t:ByteArray)(ht:t.size<=1048576):Calls prog 116 #[.pointer (some ⟨c,0,none⟩),.int .i64 i,.string t] wx λe w'=>∃r es' lM,e=.returned (.int .i64 r)/\fE s2.es s2.kn i (ah t) r es' lM/\dI F G S R w0 pb x c s1 ⟨es',lM,s2.fs⟩ w':=by obtain⟨R1,h1,h2⟩:=h.g;refine Calls.mono (hR.does wx c R1 s2 i t h1 ht) ?_;rintro e w'⟨r,es',lM,rfl,hd,R2,f2,g2,hc,hi⟩;exact⟨r,es',lM,rfl,hd,h.ref hP hQ h1 h2 f2 g2 hc hi⟩
theorem dI.Sr(hR:iW G)(hP:aG F)(hQ:aI G)(h:dI F G S R w0 pb x c s1 s2 wx)(i j:Int){s':St}(hs:sD s2 i j s'):Calls prog 113 #[.pointer (some ⟨c,0,none⟩),.int .i64 i,.int .i64 j] wx λe w'=>e=.returned (.tuple #[.int .i64 (dH s2 i j).1,.int .i64 (dH s2 i j).2])/\dI F G S R w0 pb x c s1 s' w':=by obtain⟨R1,h1,h2⟩:=h.g;refine Calls.mono (hR.sends wx c R1 s2 i j s' h1 hs) ?_;rintro e w'⟨rfl,R2,f2,g2,hc,hi⟩;exact⟨rfl,h.ref hP hQ h1 h2 f2 g2 hc hi⟩
theorem dI.XK(hR:iW G)(hP:aG F)(hQ:aI G)(h:dI F G S R w0 pb x c s1 s2 wx)(f:Int){s':St}(hs:rM s2 f s'):Calls prog 114 #[.pointer (some ⟨c,0,none⟩),.int .i64 f] wx λe w'=>e=.returned (.tuple #[.int .i64 (iw s2 f).1,.int .i64 (iw s2 f).2])/\dI F G S R w0 pb x c s1 s' w':=by obtain⟨R1,h1,h2⟩:=h.g;refine Calls.mono (hR.EM wx c R1 s2 f s' h1 hs) ?_;rintro e w'⟨rfl,R2,f2,g2,hc,hi⟩;exact⟨rfl,h.ref hP hQ h1 h2 f2 g2 hc hi⟩
theorem dI.XL(hR:iW G)(h:dI F G S R w0 pb x c s1 s2 wx)(f:Int):Calls prog 112 #[.pointer (some ⟨c,0,none⟩),.int .i64 f] wx λe w'=>∃n:Nat,e=.returned (.int .i64 n)/\n<=1000000/\(n=0↔kD s2 f=none)/\w'=wx:=by obtain⟨R1,h1,h2⟩:=h.g;exact hR.bound wx c R1 s2 f h1
theorem dI.rUp(hR:iW G)(h:dI F G S R w0 pb x c s1 s2 wx)(i:Int):Calls prog 109 #[.pointer (some ⟨c,0,none⟩),.int .i64 i] wx λe w'=>e=.returned (.int .i64 (upR s2.kn i))/\w'=wx:=by obtain⟨R1,h1,h2⟩:=h.g;exact hR.up wx c R1 s2 i h1
theorem Mid.XG(hF:fF F)(hP:aG F)(hQ:aI G)(h:Mid F G S R w0 bx o pb x c s1 s2 wx)(i:Int)(t:ByteArray)(ht:t.size<=1048576):Calls prog 24 #[.pointer (some ⟨x,0,none⟩),.int .i64 i,.string t] wx λe w'=>∃u,e=.returned (.tuple #[.string u,.int .i64 (jg s1.es s1.kn i (ah t)).2])/\ah u=(jg s1.es s1.kn i (ah t)).1/\Mid F G S R w0 bx o pb x c s1 s2 w':=by refine Calls.mono (h.m.XG hF hP hQ i t ht) ?_;rintro e w'⟨u,rfl,hu,hm⟩;exact⟨u,rfl,hu,hm,h.bk,h.bS,h.bR⟩
theorem Mid.XH(hR:iW G)(hP:aG F)(hQ:aI G)(h:Mid F G S R w0 bx o pb x c s1 s2 wx)(i:Int)(t:ByteArray)(ht:t.size<=1048576):Calls prog 110 #[.pointer (some ⟨c,0,none⟩),.int .i64 i,.string t] wx λe w'=>∃u,e=.returned (.tuple #[.string u,.int .i64 (jg s2.es s2.kn i (ah t)).2])/\ah u=(jg s2.es s2.kn i (ah t)).1/\Mid F G S R w0 bx o pb x c s1 s2 w':=by refine Calls.mono (h.m.XH hR hP hQ i t ht) ?_;rintro e w'⟨u,rfl,hu,hm⟩;exact⟨u,rfl,hu,hm,h.bk,h.bS,h.bR⟩
theorem Mid.Ku(hF:fF F)(hP:aG F)(hQ:aI G)(h:Mid F G S R w0 bx o pb x c s1 s2 wx)(i:Int):Calls prog 22 #[.pointer (some ⟨x,0,none⟩),.int .i64 i] wx λe w'=>e=.returned (.tuple #[.int .i64 (jc s1.kn i).1,.int .i64 (jc s1.kn i).2])/\Mid F G S R w0 bx o pb x c s1 s2 w':=by refine Calls.mono (h.m.Ku hF hP hQ i) ?_;rintro e w'⟨rfl,hm⟩;exact⟨rfl,hm,h.bk,h.bS,h.bR⟩
theorem Mid.pDo(hF:fF F)(hP:aG F)(hQ:aI G)(h:Mid F G S R w0 bx o pb x c s1 s2 wx)(i:Int)(t:ByteArray)(ht:t.size<=1048576){r:Int}{es':List Ev}{lM:List (List Bool)}(hd:fE s1.es s1.kn i (ah t) r es' lM):Calls prog 23 #[.pointer (some ⟨x,0,none⟩),.int .i64 i,.string t] wx λe w'=>e=.returned (.int .i64 r)/\Mid F G S R w0 bx o pb x c ⟨es',lM,s1.fs⟩ s2 w':=by refine Calls.mono (h.m.pDo hF hP hQ i t ht hd) ?_;rintro e w'⟨rfl,hm⟩;exact⟨rfl,hm,h.bk,h.bS,h.bR⟩
theorem Mid.Sm(hF:fF F)(hP:aG F)(hQ:aI G)(h:Mid F G S R w0 bx o pb x c s1 s2 wx)(i j:Int):Calls prog 27 #[.pointer (some ⟨x,0,none⟩),.int .i64 i,.int .i64 j] wx λe w'=>e=.returned (.tuple #[.int .i64 (dH s1 i j).1,.int .i64 (dH s1 i j).2])/\∃s',sD s1 i j s'/\Mid F G S R w0 bx o pb x c s' s2 w':=by refine Calls.mono (h.m.Sm hF hP hQ i j) ?_;rintro e w'⟨rfl,s',hs,hm⟩;exact⟨rfl,s',hs,hm,h.bk,h.bS,h.bR⟩
theorem Mid.XI(hF:fF F)(hP:aG F)(hQ:aI G)(h:Mid F G S R w0 bx o pb x c s1 s2 wx)(f:Int):Calls prog 31 #[.pointer (some ⟨x,0,none⟩),.int .i64 f] wx λe w'=>e=.returned (.tuple #[.int .i64 (iw s1 f).1,.int .i64 (iw s1 f).2])/\∃s',rM s1 f s'/\Mid F G S R w0 bx o pb x c s' s2 w':=by refine Calls.mono (h.m.XI hF hP hQ f) ?_;rintro e w'⟨rfl,s',hs,hm⟩;exact⟨rfl,s',hs,hm,h.bk,h.bS,h.bR⟩
theorem Mid.rDo(hR:iW G)(hP:aG F)(hQ:aI G)(h:Mid F G S R w0 bx o pb x c s1 s2 wx)(i:Int)(t:ByteArray)(ht:t.size<=1048576):Calls prog 116 #[.pointer (some ⟨c,0,none⟩),.int .i64 i,.string t] wx λe w'=>∃r es' lM,e=.returned (.int .i64 r)/\fE s2.es s2.kn i (ah t) r es' lM/\Mid F G S R w0 bx o pb x c s1 ⟨es',lM,s2.fs⟩ w':=by refine Calls.mono (h.m.rDo hR hP hQ i t ht) ?_;rintro e w'⟨r,es',lM,rfl,hd,hm⟩;exact⟨r,es',lM,rfl,hd,hm,h.bk,h.bS,h.bR⟩
theorem Mid.Sr(hR:iW G)(hP:aG F)(hQ:aI G)(h:Mid F G S R w0 bx o pb x c s1 s2 wx)(i j:Int){s':St}(hs:sD s2 i j s'):Calls prog 113 #[.pointer (some ⟨c,0,none⟩),.int .i64 i,.int .i64 j] wx λe w'=>e=.returned (.tuple #[.int .i64 (dH s2 i j).1,.int .i64 (dH s2 i j).2])/\Mid F G S R w0 bx o pb x c s1 s' w':=by refine Calls.mono (h.m.Sr hR hP hQ i j hs) ?_;rintro e w'⟨rfl,hm⟩;exact⟨rfl,hm,h.bk,h.bS,h.bR⟩
theorem Mid.XK(hR:iW G)(hP:aG F)(hQ:aI G)(h:Mid F G S R w0 bx o pb x c s1 s2 wx)(f:Int){s':St}(hs:rM s2 f s'):Calls prog 114 #[.pointer (some ⟨c,0,none⟩),.int .i64 f] wx λe w'=>e=.returned (.tuple #[.int .i64 (iw s2 f).1,.int .i64 (iw s2 f).2])/\Mid F G S R w0 bx o pb x c s1 s' w':=by refine Calls.mono (h.m.XK hR hP hQ f hs) ?_;rintro e w'⟨rfl,hm⟩;exact⟨rfl,hm,h.bk,h.bS,h.bR⟩
theorem Mid.rUp(hR:iW G)(h:Mid F G S R w0 bx o pb x c s1 s2 wx)(i:Int):Calls prog 109 #[.pointer (some ⟨c,0,none⟩),.int .i64 i] wx λe w'=>e=.returned (.int .i64 (upR s2.kn i))/\w'=wx:=h.m.rUp hR i
end
theorem OC(hF:fF F)(hR:iW G)(hP:aG F)(hQ:aI G)(w:World)(hG:Glob w)(pb x:Nat)(S:Nat->Prop)(c:Nat)(R:Nat->Prop)(s:St)(h:jO F G w pb x S c R s)(h4:(∀k,S k->4<=k)/\(∀k,R k->4<=k))(o:dM)(ho:o.ok)(hk:o.kind=3):Calls prog 69 #[.pointer (some ⟨pb,0,none⟩),o.val] w λe w'=>e=.returned (.bool true)/\Told F G S R w pb x c s w':=by
 have HP:Hid (aG F):=hP;have HQ:Hid (aI G):=hQ;have hs:o.s.size<=1048576:=ho.2.2.2.2;unfold dM.val;obtain⟨W1,hW1⟩:∃W1,W1=w.alloc (lZ o):=⟨_,rfl⟩;have uf:Hid (∀q,Mid F G S R W1 w.heap.size o pb x c s s (W1.drewN q)):=λq=>by rw[hW1];exact(Mid.start hP hQ hG h h4 o).drewN hP hQ q
 have HX:Hid (∀wx,Mid F G S R W1 w.heap.size o pb x c s s wx->Calls prog 24 #[.pointer (some ⟨x,0,none⟩),.int .i64 o.n,.string o.s] wx _):=λwx hx=>hx.XG hF hP hQ o.n o.s hs;have HY:Hid (∀wx,Mid F G S R W1 w.heap.size o pb x c s s wx->Calls prog 110 #[.pointer (some ⟨c,0,none⟩),.int .i64 o.n,.string o.s] wx _):=λwx hx=>hx.XH hR hP hQ o.n o.s hs;have HU:Hid (∀wx,Mid F G S R W1 w.heap.size o pb x c s s wx->Calls prog 109 #[.pointer (some ⟨c,0,none⟩),.int .i64 o.n] wx _):=λwx hx=>hx.rUp hR o.n;have hfin:Hid (∀wx,Mid F G S R W1 w.heap.size o pb x c s s wx->Told F G S R w pb x c s wx):=λwx hx=>by rw[hW1]at hx;exact hx.fin
 have HW:Hid (w.alloc (lZ o)=W1):=hW1.symm;have y0:W1.cell? ⟨w.heap.size,0,none⟩=some (.int .i64 o.kind):=(uf.out 0).b0;have y1:W1.cell? ⟨pb,1,none⟩=some (.pointer (some ⟨c,0,none⟩)):=(uf.out 0).p1;have y2:W1.cell? ⟨w.heap.size,2,none⟩=some (.int .i64 o.n):=(uf.out 0).b2;obtain⟨k,a,n,m,t⟩:=o;simp only at *;subst hk;clear hF hR hP hQ hG h ho hW1 h4;go_enter func69,ntmps69;go_wp2_with fail;rw[HW.out]
 go_quiet (first|(go_at_call 109;exact Calls.mono (HU.out _ (uf.out _)) (λ_ _ h=>⟨h.1,_,h.2⟩)))
 go_wp2_with fail;have hA:=uf.out nq;clear uf HU y0 y1 y2;generalize W1.drewN nq=w2 at *;have q0:=hA.p0;have q2:=hA.b2;have q4:=hA.b4;simp only at q2 q4;go_region_held3 (λw'=>Mid F G S R W1 w.heap.size ⟨3,a,n,m,t⟩ pb x c s s w'/\w'.cell? ⟨pb,0,none⟩=some (.pointer (some ⟨x,0,none⟩))/\w'.cell? ⟨w.heap.size,2,none⟩=some (.int .i64 n)/\w'.cell? ⟨w.heap.size,4,none⟩=some (.string t)) ((refine⟨?_, ?_, ?_, ?_⟩<;>(first|assumption|(exact Mid.drew HP.out HQ.out (by assumption))|(exact Mid.p0 (by assumption))|(exact Mid.b2 (by assumption))|(exact Mid.b4 (by assumption))))) (first|(go_at_call 24;refine Calls.mono (HX.out _ ?_) ?_;(exact hA.drew HP.out HQ.out);rintro e w3⟨u,rfl,hu,hA3⟩));have Hu:Hid (ah u=(jg s.es s.kn n (ah t)).1):=hu;clear hA q0 q2 q4 hu;go_wp2_with fail;have r1:=hA3.p1;have r2:=hA3.b2;have r4:=hA3.b4;simp only at r2 r4;go_region_held3 (λw'=>Mid F G S R W1 w.heap.size ⟨3,a,n,m,t⟩ pb x c s s w'/\w'.cell? ⟨pb,1,none⟩=some (.pointer (some ⟨c,0,none⟩))/\w'.cell? ⟨w.heap.size,2,none⟩=some (.int .i64 n)/\w'.cell? ⟨w.heap.size,4,none⟩=some (.string t)) ((refine⟨?_, ?_, ?_, ?_⟩<;>(first|assumption|(exact Mid.drew HP.out HQ.out (by assumption))|(exact Mid.p1 (by assumption))|(exact Mid.b2 (by assumption))|(exact Mid.b4 (by assumption))))) (first|(go_at_call 110;refine Calls.mono (HY.out _ ?_) ?_;(exact hA3.drew HP.out HQ.out);rintro e w4⟨u',rfl,hu',Dq⟩));have htt:u'=u:=lK (hu'.trans Hu.out.symm);subst htt;have Il:Hid (Mid F G S R W1 w.heap.size ⟨3,a,n,m,t⟩ pb x c s s w4):=Dq;clear hA3 Dq r1 r2 r4 hu';generalize (jg s.es s.kn n (ah t)).2=g at *;go_wp2_with (first|(go_at_call 108;refine(gU _ _).mono ?_;rintro e w5⟨rfl,rfl⟩));go_ret;exact⟨rfl,hfin.out _ Il.out⟩
end Go.Proofs.YtfmmllpjgkgeaaaGreatDoor
namespace Go.Proofs.YtfmmllpjgkgeaaaGreatDoor
open Go.Proofs.Tryz Go.RowKit
variable{F G:wS}
theorem Ib(hF:fF F)(hR:iW G)(hP:aG F)(hQ:aI G)(w:World)(hG:Glob w)(pb x:Nat)(S:Nat->Prop)(c:Nat)(R:Nat->Prop)(s:St)(h:jO F G w pb x S c R s)(h4:(∀k,S k->4<=k)/\(∀k,R k->4<=k))(o:dM)(ho:o.ok)(hk:o.kind=4):Calls prog 69 #[.pointer (some ⟨pb,0,none⟩),o.val] w λe w'=>e=.returned (.bool true)/\Told F G S R w pb x c s w':=by
 have HP:Hid (aG F):=hP;have HQ:Hid (aI G):=hQ;have HR:Hid (iW G):=hR;unfold dM.val;obtain⟨W1,hW1⟩:∃W1,W1=w.alloc (lZ o):=⟨_,rfl⟩;have uf:Hid (∀q,Mid F G S R W1 w.heap.size o pb x c s s (W1.drewN q)):=λq=>by rw[hW1];exact(Mid.start hP hQ hG h h4 o).drewN hP hQ q
 have HX:Hid (∀wx,Mid F G S R W1 w.heap.size o pb x c s s wx->Calls prog 22 #[.pointer (some ⟨x,0,none⟩),.int .i64 o.n] wx _):=λwx hx=>hx.Ku hF hP hQ o.n;have HU:Hid (∀wx,Mid F G S R W1 w.heap.size o pb x c s s wx->Calls prog 109 #[.pointer (some ⟨c,0,none⟩),.int .i64 o.n] wx _):=λwx hx=>hx.rUp hR o.n;have hfin:Hid (∀wx,Mid F G S R W1 w.heap.size o pb x c s s wx->Told F G S R w pb x c s wx):=λwx hx=>by rw[hW1]at hx;exact hx.fin
 have HW:Hid (w.alloc (lZ o)=W1):=hW1.symm;have y0:W1.cell? ⟨w.heap.size,0,none⟩=some (.int .i64 o.kind):=(uf.out 0).b0;have y1:W1.cell? ⟨pb,1,none⟩=some (.pointer (some ⟨c,0,none⟩)):=(uf.out 0).p1;have y2:W1.cell? ⟨w.heap.size,2,none⟩=some (.int .i64 o.n):=(uf.out 0).b2;obtain⟨k,a,n,m,t⟩:=o;simp only at *;subst hk;clear hF hR hP hQ hG h ho hW1 h4;go_enter func69,ntmps69;go_wp2_with fail;rw[HW.out]
 go_quiet (first|(go_at_call 109;exact Calls.mono (HU.out _ (uf.out _)) (λ_ _ h=>⟨h.1,_,h.2⟩)))
 go_wp2_with fail;have hA:=uf.out nq;clear uf HU y0 y1 y2;generalize W1.drewN nq=w2 at *;have q0:=hA.p0;have q2:=hA.b2;simp only at q2;go_region_held3 (λw'=>Mid F G S R W1 w.heap.size ⟨4,a,n,m,t⟩ pb x c s s w'/\w'.cell? ⟨pb,0,none⟩=some (.pointer (some ⟨x,0,none⟩))/\w'.cell? ⟨w.heap.size,2,none⟩=some (.int .i64 n)) ((refine⟨?_, ?_, ?_⟩<;>(first|assumption|(exact Mid.drew HP.out HQ.out (by assumption))|(exact Mid.p0 (by assumption))|(exact Mid.b2 (by assumption))))) (first|(go_at_call 22;refine Calls.mono (HX.out _ ?_) ?_;(exact hA.drew HP.out HQ.out);rintro e w3⟨rfl,hA3⟩));clear hA q0 q2 HX;by_cases hn:0<=n/\n<s.kn.length
 ·obtain⟨i,rfl⟩:=Int.eq_ofNat_of_zero_le hn.1;have hi:i<s.kn.length:=by omega
  have e1:upR s.kn (i:Int)=0:=if_pos hn;have e2:jc s.kn (i:Int)=((cnt s.kn[i]:Int),0):=by unfold jc;rw[if_pos hn];simp[List.getD_eq_getElem?_getD,hi]
  rw[e1,e2];obtain⟨R1,h1,h2⟩:=hA3.m.g;obtain⟨h6,rb,cap,f1,hcap,hrows⟩:=HR.out.cells _ _ _ _ h1;obtain⟨kv,k0,k1,hl5⟩:=hrows i hi;have r1:=hA3.p1;have r2:=hA3.b2;simp only at r2;have P7:Hid (∀q,Calls prog 111 #[kv] (w3.drewN q) λe w'=>e=.returned (.int .i64 (cnt s.kn[i]))/\w'=w3.drewN q):=λq=>uT w3.heap.size kv s.kn[i] _ hl5 (aF.below k1 (below_drewN (Below.refl _ _) q)).CY;have Y2:Hid (Mid F G S R W1 w.heap.size ⟨4,a,(i:Int),m,t⟩ pb x c s s w3):=hA3;clear h1 h2 hA3 k1 e1 e2 hn hrows;generalize cnt s.kn[i]=z at *;have hi0:(0:Int)<=(i:Int):=by omega
  have hi1:(i:Int)<(s.kn.length:Int):=by omega
  go_wp2_with fail
  go_quiet (first|(go_at_call 111;exact Calls.mono (P7.out _) (λ_ _ h=>⟨h.1,_,h.2⟩)))
  have Il:Hid (Mid F G S R W1 w.heap.size ⟨4,a,(i:Int),m,t⟩ pb x c s s (w3.drewN nq)):=Y2.out.drewN HP.out HQ.out _;go_wp2_with (first|(go_at_call 108;refine(gU _ _).mono ?_;rintro e w5⟨rfl,rfl⟩));go_ret;exact⟨rfl,hfin.out _ Il.out⟩
 ·have e1:upR s.kn n=2:=if_neg hn;have e2:jc s.kn n=(0,2):=if_neg hn;rw[e1,e2];have Y2:Hid (Mid F G S R W1 w.heap.size ⟨4,a,n,m,t⟩ pb x c s s w3):=hA3;clear hA3 e1 e2 hn;go_wp2_with (first|(go_at_call 108;refine(gU _ _).mono ?_;rintro e w5⟨rfl,rfl⟩));all_goals(go_ret;exact⟨rfl,hfin.out _ Y2.out⟩)
end Go.Proofs.YtfmmllpjgkgeaaaGreatDoor
namespace Go.Proofs.YtfmmllpjgkgeaaaGreatDoor
open Go.Proofs.Tryz Go.RowKit
theorem Es(es:List Ev)(kn:List (List Bool))(i:Int)(s:Thk.Bs):∃r es' lM,fE es kn i s r es' lM:=by
 by_cases hi:0<=i/\i<kn.length
 ·cases hr:Thk.read s with
  | inl k=>exact⟨_,_,_,fE.bad k hi hr⟩
  | inr c =>
   by_cases hl:500<=es.length
   ·exact⟨_,_,_,fE.full c hi hr hl⟩
   ·exact⟨_,_,_,fE.done c ⟨⟨c.path.toArray⟩,c.act,⟨c.val.toArray⟩,c.n,kn.getD i.toNat []⟩ hi hr (by omega) rfl rfl rfl rfl rfl⟩
 ·exact⟨_,_,_,fE.rep hi⟩
theorem OD{es:List Ev}{kn:List (List Bool)}{i:Int}{s:Thk.Bs}{r r2:Int}{e1 e2:List Ev}{k1 k2:List (List Bool)}(h:fE es kn i s r e1 k1)(h2:fE es kn i s r2 e2 k2):r=r2/\e1=e2/\k1=k2:=by
 rcases h with⟨hi,rfl,rfl,rfl⟩|⟨k,hi,hr,rfl,rfl,rfl⟩|⟨c,hi,hr,hl,rfl,rfl,rfl⟩|⟨c,e,hi,hr,hl,a1,a2,a3,a4,a5,rfl,rfl,rfl⟩ <;>
  rcases h2 with⟨h3,rfl,rfl,rfl⟩|⟨k',h3,h4,rfl,rfl,rfl⟩|⟨c',h3,h4,h5,rfl,rfl,rfl⟩|⟨c',e',h3,h4,h5,b1,b2,b3,b4,b5,rfl,rfl,rfl⟩
 ·exact⟨rfl,rfl,rfl⟩
 ·exact absurd h3 hi
 ·exact absurd h3 hi
 ·exact absurd h3 hi
 ·exact absurd hi h3
 ·rw[hr]at h4;cases h4;exact⟨rfl,rfl,rfl⟩
 ·rw[hr]at h4;cases h4
 ·rw[hr]at h4;cases h4
 ·exact absurd hi h3
 ·rw[hr]at h4;cases h4
 ·exact⟨rfl,rfl,rfl⟩
 ·omega
 ·exact absurd hi h3
 ·rw[hr]at h4;cases h4
 ·omega
 ·rw[hr]at h4;cases h4
  obtain⟨p,a,v,n,sw⟩:=e;obtain⟨p',a',v',n',sw'⟩:=e';simp only at a1 a2 a3 a4 a5 b1 b2 b3 b4 b5;have hp:p=p':=lK (a1.trans b1.symm);have hv:v=v':=lK (a3.trans b3.symm);subst hp hv a2 a4 a5;refine⟨rfl, ?_,rfl⟩;rw[b2,b4,b5]
variable{F G:wS}
theorem Sv(hF:fF F)(hR:iW G)(hP:aG F)(hQ:aI G)(w:World)(hG:Glob w)(pb x:Nat)(S:Nat->Prop)(c:Nat)(R:Nat->Prop)(s:St)(h:jO F G w pb x S c R s)(h4:(∀k,S k->4<=k)/\(∀k,R k->4<=k))(o:dM)(ho:o.ok)(hk:o.kind=2):Calls prog 73 #[.pointer (some ⟨pb,0,none⟩),o.val] w λe w'=>e=.returned (.bool true)/\∃s',Told F G S R w pb x c s' w':=by
 have HP:Hid (aG F):=hP;have HQ:Hid (aI G):=hQ;have hs:o.s.size<=1048576:=ho.2.2.2.2;obtain⟨r,es1,XM,hd⟩:=Es s.es s.kn o.n (ah o.s);unfold dM.val;obtain⟨W1,hW1⟩:∃W1,W1=w.alloc (lZ o):=⟨_,rfl⟩;have uf:Hid (Mid F G S R W1 w.heap.size o pb x c s s W1):=by rw[hW1];exact Mid.start hP hQ hG h h4 o
 have HX:Hid (∀wx,Mid F G S R W1 w.heap.size o pb x c s s wx->Calls prog 23 #[.pointer (some ⟨x,0,none⟩),.int .i64 o.n,.string o.s] wx _):=λwx hx=>hx.pDo hF hP hQ o.n o.s hs hd;have HY:Hid (∀wx,Mid F G S R W1 w.heap.size o pb x c ⟨es1,XM,s.fs⟩ s wx->Calls prog 116 #[.pointer (some ⟨c,0,none⟩),.int .i64 o.n,.string o.s] wx λe w'=>e=.returned (.int .i64 r)/\Mid F G S R W1 w.heap.size o pb x c ⟨es1,XM,s.fs⟩ ⟨es1,XM,s.fs⟩ w'):=λwx hx=>by refine Calls.mono (hx.rDo hR hP hQ o.n o.s hs) ?_;rintro e w'⟨r',es',lM,rfl,hd',hm⟩;obtain⟨rfl,rfl,rfl⟩:=OD hd hd';exact⟨rfl,hm⟩
 have hfin:Hid (∀wx,Mid F G S R W1 w.heap.size o pb x c ⟨es1,XM,s.fs⟩ ⟨es1,XM,s.fs⟩ wx->Told F G S R w pb x c ⟨es1,XM,s.fs⟩ wx):=λwx hx=>by rw[hW1]at hx;exact hx.fin
 have HW:Hid (w.alloc (lZ o)=W1):=hW1.symm;obtain⟨k,a,n,m,t⟩:=o;simp only at *;subst hk;clear hF hR hP hQ hG h ho hW1 h4 hd;go_enter func73,ntmps73;go_wp2_with fail;rw[HW.out];have hA:=uf.out;clear uf;have q0:=hA.p0;have q2:=hA.b2;have q4:=hA.b4;simp only at q2 q4;go_region_held3 (λw'=>w'.cell? ⟨pb,0,none⟩=some (.pointer (some ⟨x,0,none⟩))/\w'.cell? ⟨w.heap.size,2,none⟩=some (.int .i64 n)/\w'.cell? ⟨w.heap.size,4,none⟩=some (.string t)) ((refine⟨?_, ?_, ?_⟩<;>(first|assumption|(exact Mid.p0 (by assumption))|(exact Mid.b2 (by assumption))|(exact Mid.b4 (by assumption))))) (first|(go_at_call 23;refine Calls.mono (HX.out _ ?_) ?_;(exact hA.drew HP.out HQ.out);rintro e w3⟨rfl,hA3⟩));clear hA q0 q2 q4 HX;go_wp2_with fail;have r1:=hA3.p1;have r2:=hA3.b2;have r4:=hA3.b4;simp only at r2 r4;go_region_held3 (λw'=>w'.cell? ⟨pb,1,none⟩=some (.pointer (some ⟨c,0,none⟩))/\w'.cell? ⟨w.heap.size,2,none⟩=some (.int .i64 n)/\w'.cell? ⟨w.heap.size,4,none⟩=some (.string t)) ((refine⟨?_, ?_, ?_⟩<;>(first|assumption|(exact Mid.p1 (by assumption))|(exact Mid.b2 (by assumption))|(exact Mid.b4 (by assumption))))) (first|(go_at_call 116;refine Calls.mono (HY.out _ ?_) ?_;(exact hA3.drew HP.out HQ.out);rintro e w4⟨rfl,Dq⟩));have Il:Hid (Told F G S R w pb x c ⟨es1,XM,s.fs⟩ w4):=hfin.out _ Dq;clear hA3 Dq r1 r2 r4;go_wp2_with (first|(go_at_call 108;refine(gU _ _).mono ?_;rintro e w5⟨rfl,rfl⟩));go_ret;exact⟨rfl,_,Il.out⟩
end Go.Proofs.YtfmmllpjgkgeaaaGreatDoor
namespace Go.Proofs.YtfmmllpjgkgeaaaGreatDoor
open Go.Proofs.Tryz Go.RowKit
theorem Kv(w:World)(pb:Nat)(o:dM)(hk:o.kind<=0):Calls prog 73 #[.pointer (some ⟨pb,0,none⟩),o.val] w λe w'=>e=.returned (.bool true)/\Below w.heap.size w w':=by obtain⟨k,a,n,m,s⟩:=o;unfold dM.val;simp only at *;have k2:(k==2)=false:=beq_eq_false_iff_ne.2 (by omega);have k10:(k==10)=false:=beq_eq_false_iff_ne.2 (by omega);have k11:(k==11)=false:=beq_eq_false_iff_ne.2 (by omega);have k12:(k==12)=false:=beq_eq_false_iff_ne.2 (by omega);have k13:(k==13)=false:=beq_eq_false_iff_ne.2 (by omega);have Hb:Hid (∀ob,Below w.heap.size w (w.alloc ob)):=λob=>(Below.refl _ w).alloc (Nat.le_refl _) ob;go_enter func73,ntmps73;go_wp2_with (first|(go_at_call 108;refine(gU _ _).mono ?_;rintro e w5⟨rfl,rfl⟩));go_ret;exact⟨rfl,Hb.out _⟩
variable{F G:wS}
theorem CJ(hF:fF F)(hR:iW G)(hP:aG F)(hQ:aI G){S R:Nat->Prop}{w0:World}{pb x c:Nat}{s:St}{w:World}(h:dI F G S R w0 pb x c s s w)(b:Nat)(hb:w0.cell? ⟨b,1,none⟩=some (.bool false))(hnb:¬S b/\¬R b)(hbl:b<w0.heap.size)(f:Int):Calls prog 70 #[.pointer (some ⟨b,0,none⟩),.pointer (some ⟨pb,0,none⟩),.int .i64 f] w λe w'=>e=.returned (.bool true)/\dI F G S R w0 pb x c s s w':=by
 have HX:Hid (∀wx,dI F G S R w0 pb x c s s wx->Calls prog 28 #[.pointer (some ⟨x,0,none⟩),.int .i64 f] wx λe w'=>e=.returned (.tuple #[.string (kE s f).1,.int .i64 (kE s f).2])/\dI F G S R w0 pb x c s s w'):=λwx hx=>hx.XJ hF hP hQ f;have HB:Hid (∀wx,dI F G S R w0 pb x c s s wx->Calls prog 112 #[.pointer (some ⟨c,0,none⟩),.int .i64 f] wx λe w'=>∃n:Nat,e=.returned (.int .i64 n)/\n<=1000000/\(n=0↔kD s f=none)/\w'=wx):=λwx hx=>hx.XL hR f;have HC:Hid (∀wx,dI F G S R w0 pb x c s s wx->wx.cell? ⟨b,1,none⟩=some (.bool false)):=λwx hx=>(hx.cell hbl hnb.1 hnb.2 1).trans hb;have hsz:∀g,kD s f=some g->g.bytes.size<=1000000000:=λg hg=>by obtain⟨S',h1,_⟩:=h.f;exact hF.fsz _ _ _ _ _ _ h1 hg
 have q0:=h.p0;have H:Hid (_):=h;clear hF hR hP hQ hb hnb hbl h;go_enter func70,ntmps70;go_wp2_with fail;refine Calls.mono (HX.out _ H.out) ?_;rintro e w2⟨rfl,h2⟩;clear q0 H;have q0:=h2.p0;have H2:Hid (_):=h2;clear h2;go_wp2_with fail;refine Calls.mono (HX.out _ H2.out) ?_;rintro e w3⟨rfl,h3⟩;clear q0 H2 HX;have q1:=h3.p1;have H3:Hid (dI F G S R w0 pb x c s s w3):=h3;have cb:=HC.out _ h3;clear h3 HC;go_wp2_with fail;refine Calls.mono (HB.out _ H3.out) ?_;rintro e w4⟨n,rfl,hn,hz,rfl⟩;clear HB q1;cases hf:kD s f with
 | none =>
  have e1:kE s f=(⟨#[]⟩,9):=by unfold kE;rw[hf]
  have e2:n=0:=hz.2 hf;subst e2;rw[e1];clear hz hf e1 hsz hn;go_wp2_with (first|(go_at_call 108;refine(gU _ _).mono ?_;rintro e w5⟨rfl,rfl⟩));go_ret;exact⟨rfl,H3.out⟩
 | some g =>
  have e1:kE s f=(g.bytes,0):=by unfold kE;rw[hf]
  have e2:¬n=0:=λh5=>by rw[hz.1 h5]at hf;cases hf
  have hz1:=hsz g hf;rw[e1];clear hz hf e1 hsz;have e3:((n:Int)==0)=false:=beq_eq_false_iff_ne.2 (by omega);generalize g.bytes=bt at *;by_cases hlen:(bt.size:Int)<=(n:Int)
  ·go_wp2_with (first|(go_at_call 108;refine(gU _ _).mono ?_;rintro e w5⟨rfl,rfl⟩));go_ret;exact⟨rfl,H3.out⟩
  ·go_wp2_with (first|(go_at_call 108;refine(gU _ _).mono ?_;rintro e w5⟨rfl,rfl⟩));go_ret;exact⟨rfl,H3.out⟩
theorem OE(hF:fF F)(hR:iW G)(hP:aG F)(hQ:aI G)(w:World)(hG:Glob w)(pb x:Nat)(S:Nat->Prop)(c:Nat)(R:Nat->Prop)(s:St)(h:jO F G w pb x S c R s)(h4:(∀k,S k->4<=k)/\(∀k,R k->4<=k))(b:Nat)(hb:w.cell? ⟨b,1,none⟩=some (.bool false))(hnb:¬S b/\¬R b)(hbl:b<w.heap.size)(f:Int):Calls prog 70 #[.pointer (some ⟨b,0,none⟩),.pointer (some ⟨pb,0,none⟩),.int .i64 f] w λe w'=>e=.returned (.bool true)/\Told F G S R w pb x c s w':=by refine Calls.mono (CJ hF hR hP hQ (dI.start hP hQ hG h h4 (Below.refl _ _)) b hb hnb hbl f) ?_;rintro e w'⟨rfl,h5⟩;exact⟨rfl,h5.fin⟩
theorem OG(s:St)(i j:Int)(h:s.fs.length<=1000000):0<=(dH s i j).1/\(dH s i j).1<=1000001/\0<=(dH s i j).2/\(dH s i j).2<=9:=by
 unfold dH;split
 ·split
  ·simp
  ·split<;>simp<;>omega
 ·simp
theorem Sz(s:St)(f:Int)(h:s.fs.length<=1000000):0<=(iw s f).1/\(iw s f).1<=1000001/\0<=(iw s f).2/\(iw s f).2<=9:=by
 unfold iw;split
 ·simp
 ·split
  ·simp
  ·split<;>simp<;>omega
theorem Kw(hF:fF F)(hR:iW G)(hP:aG F)(hQ:aI G)(w:World)(hG:Glob w)(pb x:Nat)(S:Nat->Prop)(c:Nat)(R:Nat->Prop)(s:St)(h:jO F G w pb x S c R s)(h4:(∀k,S k->4<=k)/\(∀k,R k->4<=k))(b:Nat)(hb:w.cell? ⟨b,1,none⟩=some (.bool false))(hnb:¬S b/\¬R b)(hbl:b<w.heap.size)(o:dM)(ho:o.ok)(hk:o.kind=5\/o.kind=7):Calls prog 71 #[.pointer (some ⟨b,0,none⟩),.pointer (some ⟨pb,0,none⟩),o.val] w λe w'=>e=.returned (.bool true)/\∃s',Told F G S R w pb x c s' w':=by
 have HP:Hid (aG F):=hP;have HQ:Hid (aI G):=hQ;unfold dM.val;obtain⟨W1,hW1⟩:∃W1,W1=w.alloc (lZ o):=⟨_,rfl⟩;have uf:Hid (Mid F G S R W1 w.heap.size o pb x c s s W1):=by rw[hW1];exact Mid.start hP hQ hG h h4 o
 have hb1:Below w.heap.size w W1:=by rw[hW1];exact(Below.refl _ w).alloc (Nat.le_refl _) _
 have UZ:Hid (∀s' wx f,Mid F G S R W1 w.heap.size o pb x c s' s' wx->Calls prog 70 #[.pointer (some ⟨b,0,none⟩),.pointer (some ⟨pb,0,none⟩),.int .i64 f] wx λe w'=>e=.returned (.bool true)/\∃s',Told F G S R w pb x c s' w'):=λs' wx f hx=>by
  refine Calls.mono (CJ hF hR hP hQ hx.m b ((hb1.cell (p:=⟨b,1,none⟩) hbl).trans hb) hnb (Nat.lt_of_lt_of_le hbl hb1.size) f) ?_;rintro e w'⟨rfl,h5⟩;refine⟨rfl,s', ?_⟩;have h6:Mid F G S R (w.alloc (lZ o)) w.heap.size o pb x c s' s' w':=by rw[<- hW1];exact⟨h5,hx.bk,hx.bS,hx.bR⟩
  exact h6.fin
 have hfin:Hid (∀s' wx,Mid F G S R W1 w.heap.size o pb x c s' s' wx->∃s',Told F G S R w pb x c s' wx):=λs' wx hx=>by rw[hW1]at hx;exact⟨s',hx.fin⟩
 have hfl:s.fs.length<=1000000:=hF.Yr _ _ _ _ h.f;have HW:Hid (w.alloc (lZ o)=W1):=hW1.symm;rcases hk with hk|hk
 ·have HX:Hid (∀wx,Mid F G S R W1 w.heap.size o pb x c s s wx->Calls prog 27 #[.pointer (some ⟨x,0,none⟩),.int .i64 o.n,.int .i64 o.m] wx _):=λwx hx=>hx.Sm hF hP hQ o.n o.m;have HY:Hid (∀wx s',sD s o.n o.m s'->Mid F G S R W1 w.heap.size o pb x c s' s wx->Calls prog 113 #[.pointer (some ⟨c,0,none⟩),.int .i64 o.n,.int .i64 o.m] wx _):=λwx s' hs hx=>hx.Sr hR hP hQ o.n o.m hs;obtain⟨r1,r2,r3,r4⟩:=OG s o.n o.m hfl;obtain⟨k,a,n,m,t⟩:=o;simp only at *;subst hk;clear hF hR hP hQ hG h ho hW1 h4 hb hnb hbl hb1 hfl;generalize dH s n m=sr at *;obtain⟨u,v⟩:=sr;simp only at *;go_enter func71,ntmps71;have hA:=uf.out;clear uf;have q00:=hA.b0;simp only at q00;go_wp2_with fail;rw[HW.out];have q0:=hA.p0;have q2:=hA.b2;have q3:=hA.b3;simp only at q2 q3;go_wp2_with fail;go_region_held3 (λw'=>w'.cell? ⟨pb,0,none⟩=some (.pointer (some ⟨x,0,none⟩))/\w'.cell? ⟨w.heap.size,2,none⟩=some (.int .i64 n)/\w'.cell? ⟨w.heap.size,3,none⟩=some (.int .i64 m)) ((refine⟨?_, ?_, ?_⟩<;>(first|assumption|(exact Mid.p0 (by assumption))|(exact Mid.b2 (by assumption))|(exact Mid.b3 (by assumption))))) (first|(go_at_call 27;refine Calls.mono (HX.out _ ?_) ?_;(exact hA.drew HP.out HQ.out);rintro e w3⟨rfl,s',hs',hA3⟩));have Hs':Hid (_):=hs';clear hA q0 q2 q3 q00 HX hs';go_wp2_with fail;have r1:=hA3.p1;have r2:=hA3.b2;have r3:=hA3.b3;simp only at r2 r3;go_region_held3 (λw'=>w'.cell? ⟨pb,1,none⟩=some (.pointer (some ⟨c,0,none⟩))/\w'.cell? ⟨w.heap.size,2,none⟩=some (.int .i64 n)/\w'.cell? ⟨w.heap.size,3,none⟩=some (.int .i64 m)) ((refine⟨?_, ?_, ?_⟩<;>(first|assumption|(exact Mid.p1 (by assumption))|(exact Mid.b2 (by assumption))|(exact Mid.b3 (by assumption))))) (first|(go_at_call 113;refine Calls.mono (HY.out _ s' Hs'.out ?_) ?_;(exact hA3.drew HP.out HQ.out);rintro e w4⟨rfl,Dq⟩));have Il:Hid (Mid F G S R W1 w.heap.size ⟨5,a,n,m,t⟩ pb x c s' s' w4):=Dq;clear hA3 Dq r1 r2 r3 HY Hs';by_cases hz:u=0
  ·subst hz;go_wp2_with (first|(go_at_call 108;refine(gU _ _).mono ?_;rintro e w5⟨rfl,rfl⟩));go_ret;exact⟨rfl,hfin.out _ _ Il.out⟩
  ·have hzb:(u==0)=false:=beq_eq_false_iff_ne.2 hz;go_wp2_with (first|(go_at_call 108;refine(gU _ _).mono ?_;rintro e w5⟨rfl,rfl⟩));refine Calls.mono (UZ.out _ _ u Il.out) ?_;rintro e w6⟨rfl,h6⟩;have H6:Hid (_):=h6;clear h6 UZ hfin Il;go_wp2_with fail;go_ret;exact⟨rfl,H6.out⟩
 ·have HX:Hid (∀wx,Mid F G S R W1 w.heap.size o pb x c s s wx->Calls prog 31 #[.pointer (some ⟨x,0,none⟩),.int .i64 o.n] wx _):=λwx hx=>hx.XI hF hP hQ o.n;have HY:Hid (∀wx s',rM s o.n s'->Mid F G S R W1 w.heap.size o pb x c s' s wx->Calls prog 114 #[.pointer (some ⟨c,0,none⟩),.int .i64 o.n] wx _):=λwx s' hs hx=>hx.XK hR hP hQ o.n hs;obtain⟨r1,r2,r3,r4⟩:=Sz s o.n hfl;obtain⟨k,a,n,m,t⟩:=o;simp only at *;subst hk;clear hF hR hP hQ hG h ho hW1 h4 hb hnb hbl hb1 hfl;generalize iw s n=sr at *;obtain⟨u,v⟩:=sr;simp only at *;go_enter func71,ntmps71;have hA:=uf.out;clear uf;have q00:=hA.b0;simp only at q00;go_wp2_with fail;rw[HW.out];have q0:=hA.p0;have q2:=hA.b2;simp only at q2;go_wp2_with fail;go_region_held3 (λw'=>w'.cell? ⟨pb,0,none⟩=some (.pointer (some ⟨x,0,none⟩))/\w'.cell? ⟨w.heap.size,2,none⟩=some (.int .i64 n)) ((refine⟨?_, ?_⟩<;>(first|assumption|(exact Mid.p0 (by assumption))|(exact Mid.b2 (by assumption))))) (first|(go_at_call 31;refine Calls.mono (HX.out _ ?_) ?_;(exact hA.drew HP.out HQ.out);rintro e w3⟨rfl,s',hs',hA3⟩));have Hs':Hid (_):=hs';clear hA q0 q2 q00 HX hs';go_wp2_with fail;have r1:=hA3.p1;have r2:=hA3.b2;simp only at r2;go_region_held3 (λw'=>w'.cell? ⟨pb,1,none⟩=some (.pointer (some ⟨c,0,none⟩))/\w'.cell? ⟨w.heap.size,2,none⟩=some (.int .i64 n)) ((refine⟨?_, ?_⟩<;>(first|assumption|(exact Mid.p1 (by assumption))|(exact Mid.b2 (by assumption))))) (first|(go_at_call 114;refine Calls.mono (HY.out _ s' Hs'.out ?_) ?_;(exact hA3.drew HP.out HQ.out);rintro e w4⟨rfl,Dq⟩));have Il:Hid (Mid F G S R W1 w.heap.size ⟨7,a,n,m,t⟩ pb x c s' s' w4):=Dq;clear hA3 Dq r1 r2 HY Hs';by_cases hz:u=0
  ·subst hz;go_wp2_with (first|(go_at_call 108;refine(gU _ _).mono ?_;rintro e w5⟨rfl,rfl⟩));go_ret;exact⟨rfl,hfin.out _ _ Il.out⟩
  ·have hzb:(u==0)=false:=beq_eq_false_iff_ne.2 hz;go_wp2_with (first|(go_at_call 108;refine(gU _ _).mono ?_;rintro e w5⟨rfl,rfl⟩));refine Calls.mono (UZ.out _ _ u Il.out) ?_;rintro e w6⟨rfl,h6⟩;have H6:Hid (_):=h6;clear h6 UZ hfin Il;go_wp2_with fail;go_ret;exact⟨rfl,H6.out⟩
end Go.Proofs.YtfmmllpjgkgeaaaGreatDoor
namespace Go.Proofs.YtfmmllpjgkgeaaaGreatDoor
open Go.Proofs.Tryz Go.RowKit
variable{F G:wS}
structure iP where
 pb:Nat
 x:Nat
 S:Nat->Prop
 c:Nat
 R:Nat->Prop
 s:St
def iP.At(F G:wS)(w:World)(d:iP):Prop:=jO F G w d.pb d.x d.S d.c d.R d.s
def iP.foot(d:iP)(k:Nat):Prop:=d.S k\/d.R k
theorem ku(hP:aG F)(hQ:aI G){w:World}{d:iP}(h:d.At F G w){k:Nat}(hk:d.foot k){t:TypeId}(ht:Tagged w k t):t≠4/\t≠159/\t≠63/\t≠116:=by
 rcases hk with hk|hk
 ·exact(hP.tags h.f hk ht).2
 ·obtain⟨t',h1,h2⟩:=hQ.tags h.r hk;rw[o7 ht h2];exact Ia h1
theorem xQ(hP:aG F)(hQ:aI G){w:World}{d:iP}(h:d.At F G w){k:Nat}(hk:d.foot k):k<w.heap.size:=hk.elim (hP.lt h.f) (hQ.lt h.r)
theorem iP.At.other(hP:aG F)(hQ:aI G){w w':World}{d f:iP}(h:d.At F G w)(hf:f.At F G w)(hc:ay f.foot w w')(hi:aH w w')(ha:∀k,d.foot k->¬f.foot k):d.At F G w':=by have hpb:¬f.foot d.pb:=λhk=>(ku hP hQ hf hk h.tag).2.1 rfl;have hcell:∀i,w'.cell? ⟨d.pb,i,none⟩=w.cell? ⟨d.pb,i,none⟩:=λi=>World.cell?_of_block (w:=w) (hc.block d.pb h.tag.lt hpb);exact⟨h.tag.aJ hc hpb,(hcell 0).trans h.c0,(hcell 1).trans h.c1,hP.stable h.f hc (λk hk=>ha k (Or.inl hk)),hQ.stable h.r hc (λk hk=>ha k (Or.inr hk)) (λb hb hk=>(ku hP hQ hf hk hb).1 rfl) hi⟩
theorem iP.At.law(hP:aG F)(hQ:aI G){M:Nat->Prop}{w w':World}{d:iP}(h:d.At F G w)(hc:ay M w w')(hM:∀k,M k->k<w.heap.size->Tagged w k 63\/Tagged w k 116):d.At F G w':=by
 have one:∀{k:Nat}{t:TypeId},M k->Tagged w k t->t=63\/t=116:=λhk ht=>(hM _ hk ht.lt).imp (o7 ht) (o7 ht);have no:∀{k:Nat}{t:TypeId},Tagged w k t->t≠63->t≠116->¬M k:=λht h1 h2 hk=>(one hk ht).elim h1 h2;have hpb:¬M d.pb:=no h.tag (by decide) (by decide);have hcell:∀i,w'.cell? ⟨d.pb,i,none⟩=w.cell? ⟨d.pb,i,none⟩:=λi=>World.cell?_of_block (w:=w) (hc.block d.pb h.tag.lt hpb);have CO:∀k,d.foot k->¬M k:=λk hk hm=>by
  rcases hM k hm (xQ hP hQ h hk)with h1|h1
  ·exact(ku hP hQ h hk h1).2.2.1 rfl
  ·exact(ku hP hQ h hk h1).2.2.2 rfl
 exact⟨h.tag.aJ hc hpb,(hcell 0).trans h.c0,(hcell 1).trans h.c1,hP.stable h.f hc (λk hk=>CO k (Or.inl hk)),hQ.stable h.r hc (λk hk=>CO k (Or.inr hk)) (λb hb=>no hb (by decide) (by decide)) (aH.jI hc (λb hb=>no hb (by decide) (by decide)))⟩
def Tq(l:List iP):List Value:=l.map λd=>.pointer (some ⟨d.pb,0,none⟩)
structure oN(F G:wS)(B:Nat)(w:World)(b:Nat)(rv:Value)(l:List iP):Prop where
 glob:Glob w
 b4:4<=B
 bB:B<=b
 blk:aA w b #[rv,.bool false] 63
 row:w.ownsRow B 116 1 rv l.length (Tq l)
 pair:∀j(h:j<l.length),l[j].At F G w
 foot:∀j(h:j<l.length)k,l[j].foot k->B<=k
 apart:∀i j(hi:i<l.length)(hj:j<l.length),i≠j->∀k,l[i].foot k->¬l[j].foot k
def lG(F G:wS)(c B:Nat)(w:World)(b:Nat):Prop:=∃rv l,l.length<=c/\oN F G B w b rv l
section
variable{B:Nat}{w w':World}{b:Nat}{rv:Value}{l:List iP}
theorem oN.below(hP:aG F)(hQ:aI G)(h:oN F G B w b rv l)(hb:Below w.heap.size w w'):oN F G B w' b rv l :=
 ⟨h.glob.mono hb,h.b4,h.bB,h.blk.below hb,aZ h.row (ay.of_below (M:=λ_=>False) hb) (λ_ _ h=>h),λj hj=>jO.below hP hQ (h.pair j hj) hb,h.foot,h.apart⟩
theorem oN.Et(h:oN F G B w b rv l):∀g,rv.ownBlock=some g->Tagged w g 116:=by
 intro g hg;obtain⟨_,h1|⟨g',cap,cur,rfl,_,hh,_⟩⟩:=h.row
 ·rw[h1.1]at hg;cases hg
 ·cases hg;exact⟨cur,hh⟩
theorem oN.ac3(hP:aG F)(hQ:aI G)(h:oN F G B w b rv l)(j:Nat)(hj:j<l.length):¬l[j].S b/\¬l[j].R b :=
 ⟨λhb=>(ku hP hQ (h.pair j hj) (Or.inl hb) ⟨_,h.blk⟩).2.2.1 rfl,λhb=>(ku hP hQ (h.pair j hj) (Or.inr hb) ⟨_,h.blk⟩).2.2.1 rfl⟩
theorem oN.turn(hP:aG F)(hQ:aI G)(h:oN F G B w b rv l)(k:Nat)(hk:k<l.length)(d:iP)(hp:d.pb=l[k].pb)(hd:d.At F G w')(hc:ay l[k].foot w w')(hi:aH w w')(hf:∀i,d.foot i->l[k].foot i\/w.heap.size<=i):oN F G B w' b rv (l.set k d)/\Below B w w':=by
 have hk0:=h.pair k hk;have hBs:B<=w.heap.size:=Nat.le_trans h.bB (Nat.le_of_lt h.blk.lt);have hbel:Below B w w':=⟨hc.os,hc.tape,hc.output,hc.size,λi hi=>hc.block i (Nat.lt_of_lt_of_le hi hBs) (λe=>by have:=h.foot k hk i e;omega)⟩;have hb':¬l[k].foot b:=λhb=>(ku hP hQ hk0 hb ⟨_,h.blk⟩).2.2.1 rfl;have hget:∀j(hj:j<l.length),(l.set k d)[j]'(by simpa using hj)=if k=j then d else l[j]:=λj hj=>by rw[List.getElem_set]
 refine⟨⟨h.glob.J7 hc (λi hi=>Nat.le_trans h.b4 (h.foot k hk i hi)),h.b4,h.bB,h.blk.aJ hc hb', ?_,λj hj=>?_,λj hj i hi=>?_,λi j hi hj hij n hn=>?_⟩,hbel⟩
 ·have e:Tq (l.set k d)=Tq l:=by
   unfold Tq;rw[List.map_set,hp];refine List.ext_getElem? λj=>?_;rw[List.getElem?_set];by_cases e:k=j
   ·subst e;simp[hk]
   ·simp[e]
  rw[List.length_set,e];exact aZ h.row hc (λg hg hm=>(ku hP hQ hk0 hm (h.Et g hg)).2.2.2 rfl)
 ·have hj':j<l.length:=by simpa using hj
  rw[hget j hj'];by_cases e:k=j
  ·rw[if_pos e];exact hd
  ·rw[if_neg e];exact(h.pair j hj').other hP hQ hk0 hc hi (λi hi=>h.apart j k hj' hk (Ne.symm e) i hi)
 ·have hj':j<l.length:=by simpa using hj
  rw[hget j hj']at hi;by_cases e:k=j
  ·rw[if_pos e]at hi;rcases hf i hi with h1|h1
   ·exact h.foot k hk i h1
   ·omega
  ·rw[if_neg e]at hi;exact h.foot j hj' i hi
 ·have hi':i<l.length:=by simpa using hi
  have hj':j<l.length:=by simpa using hj
  rw[hget i hi']at hn;rw[hget j hj'];by_cases e:k=i
  ·rw[if_pos e]at hn;have e2:¬k=j:=by omega
   rw[if_neg e2];intro hm;rcases hf n hn with h1|h1
   ·exact h.apart k j hk hj' e2 n h1 hm
   ·have:=xQ hP hQ (h.pair j hj') hm;omega
  ·rw[if_neg e]at hn;by_cases e2:k=j
   ·rw[if_pos e2];intro hm;rcases hf n hm with h1|h1
    ·exact h.apart i k hi' hk (Ne.symm e) n hn h1
    ·have:=xQ hP hQ (h.pair i hi') hn;omega
   ·rw[if_neg e2];exact h.apart i j hi' hj' hij n hn
theorem oN.told(hP:aG F)(hQ:aI G){c:Nat}(h:oN F G B w b rv l)(hl:l.length<=c)(k:Nat)(hk:k<l.length){s':St}(hd:Told F G l[k].S l[k].R w l[k].pb l[k].x l[k].c s' w'):lG F G c B w' b/\Below B w w':=by
 obtain⟨S',R',h1,h2,h3,h4,h5⟩:=hd;obtain⟨h6,h7⟩:=h.turn hP hQ k hk ⟨l[k].pb,l[k].x,S',l[k].c,R',s'⟩ rfl h1 h4 h5 (λi hi=>by
  rcases hi with hi|hi
  ·exact(h2 i hi).imp (λh=>Or.inl h) (λh=>h)
  ·exact(h3 i hi).imp (λh=>Or.inr h) (λh=>h))
 exact⟨⟨_,_,by simpa using hl,h6⟩,h7⟩
end
end Go.Proofs.YtfmmllpjgkgeaaaGreatDoor
namespace Go.Proofs.YtfmmllpjgkgeaaaGreatDoor
open Go.Proofs.Tryz Go.RowKit
variable{F G:wS}
theorem oN.more(hP:aG F)(hQ:aI G){B N:Nat}{w w6:World}{b:Nat}{rv:Value}{l:List iP}(h:oN F G B w b rv l)(hN:∀j(hj:j<l.length)k,l[j].foot k->k<N)(hBN:B<=N){x:Nat}{S:Nat->Prop}{c:Nat}{R:Nat->Prop}{s:St}(hf:F w x S s)(hr:G w c R s)(hS:∀k,S k->N<=k)(hRk:∀k,R k->N<=k){g cap:Nat}(ho:w6.ownsRow B 116 1 (.slice (some ⟨g,0,none⟩) (l.length+1) cap) (l.length+1) (Tq l++[.pointer (some ⟨w.heap.size,0,none⟩)]))(hg:((w.alloc (.cells #[.pointer (some ⟨x,0,none⟩),.pointer (some ⟨c,0,none⟩)] 159)).alloc (.cells #[.pointer (some ⟨w.heap.size,0,none⟩)] 116)).grownBy w6 rv.ownBlock):oN F G B (w6.setCell ⟨b,0,none⟩ (.slice (some ⟨g,0,none⟩) (l.length+1) cap)) b (.slice (some ⟨g,0,none⟩) (l.length+1) cap) (l++[⟨w.heap.size,x,S,c,R,s⟩])/\Below B w (w6.setCell ⟨b,0,none⟩ (.slice (some ⟨g,0,none⟩) (l.length+1) cap)):=by
 obtain⟨wa,hwa⟩:∃wa,wa=(w.alloc (.cells #[.pointer (some ⟨x,0,none⟩),.pointer (some ⟨c,0,none⟩)] 159)).alloc (.cells #[.pointer (some ⟨w.heap.size,0,none⟩)] 116):=⟨_,rfl⟩;have hba:Below w.heap.size w wa:=by rw[hwa];exact((Below.refl _ w).alloc (Nat.le_refl _) _).alloc (by simp) _
 have hpa:aA wa w.heap.size #[.pointer (some ⟨x,0,none⟩),.pointer (some ⟨c,0,none⟩)] 159:=by rw[hwa];exact(aA.new w _ _).alloc _
 rw[<- hwa]at hg;clear hwa;have ha:=h.below hP hQ hba;have hda:iP.At F G wa ⟨w.heap.size,x,S,c,R,s⟩ :=
  ⟨⟨_,hpa⟩,(hpa.cell 0).trans rfl,(hpa.cell 1).trans rfl,hP.below hf hba,hQ.below hr hba⟩
 have hcM:ay (λk=>rv.ownBlock=some k\/k=b) wa (w6.setCell ⟨b,0,none⟩ (.slice (some ⟨g,0,none⟩) (l.length+1) cap)) :=
  ay.setCell (p:=⟨b,0,none⟩) ((ay.refl (λk=>rv.ownBlock=some k\/k=b) wa).grown hg (λk hk=>Or.inl (Or.inl hk))) (Or.inr rfl) _
 have hM:∀k,(rv.ownBlock=some k\/k=b)->k<wa.heap.size->Tagged wa k 63\/Tagged wa k 116:=by
  rintro k (hk|rfl) _
  ·exact Or.inr (ha.Et k hk)
  ·exact Or.inl ⟨_,ha.blk⟩
 have hMB:∀k,(rv.ownBlock=some k\/k=b)->B<=k:=by
  rintro k (hk|rfl)
  ·exact(ha.row.lt k hk).1
  ·exact h.bB
 have hbr:rv.ownBlock≠some b:=λe=>Tagged.ne (ha.Et b e) ⟨_,ha.blk⟩ (by decide) rfl;have hb6:aA w6 b #[rv,.bool false] 63:=(hg.block b ha.blk.lt (Ne.symm hbr)).trans ha.blk;have hgb:g≠b:=λe=>by
  subst e;obtain⟨_,⟨h1,_⟩|⟨g',cp,cur,hv,_,hh,_⟩⟩:=ho
  ·cases h1
  ·simp only[Value.slice.injEq,Option.some.injEq,Addr.mk.injEq,true_and,and_true]at hv;obtain⟨rfl,rfl⟩:=hv;exact absurd (vT hb6 hh).2 (by decide)
 have hlen:(l++[(⟨w.heap.size,x,S,c,R,s⟩:iP)]).length=l.length+1:=by simp
 have hget:∀j(hj:j<l.length),(l++[(⟨w.heap.size,x,S,c,R,s⟩:iP)])[j]'(by rw[hlen];omega)=l[j]:=λj hj=>List.getElem_append_left hj;have hlast:∀j(hj:j<(l++[(⟨w.heap.size,x,S,c,R,s⟩:iP)]).length),¬j<l.length->(l++[(⟨w.heap.size,x,S,c,R,s⟩:iP)])[j]=⟨w.heap.size,x,S,c,R,s⟩:=λj hj hn=>by
  rw[List.getElem_append_right (by omega)];have:j-l.length=0:=by rw[hlen]at hj;omega
  simp[this]
 have CO:∀k,iP.foot ⟨w.heap.size,x,S,c,R,s⟩ k->N<=k:=by
  rintro k (hk|hk)
  ·exact hS k hk
  ·exact hRk k hk
 refine⟨⟨(h.glob.mono hba).J7 hcM (λk hk=>Nat.le_trans h.b4 (hMB k hk)),h.b4,h.bB, ?_, ?_,λj hj=>?_,λj hj k hk=>?_,λi j hi hj hij k hk=>?_⟩, ?_⟩
 ·unfold aA at hb6⊢;simp[World.setCell,Array.getElem?_modify,hb6]
 ·rw[hlen];have e:Tq (l++[(⟨w.heap.size,x,S,c,R,s⟩:iP)])=Tq l++[.pointer (some ⟨w.heap.size,0,none⟩)]:=by simp[Tq]
  rw[e];exact ownsRow_setCell_other ho (a:=⟨b,0,none⟩) (λe=>hgb (by simpa[Value.ownBlock]using e)) _
 ·by_cases hlt:j<l.length
  ·rw[hget j hlt];exact(ha.pair j hlt).law hP hQ hcM hM
  ·rw[hlast j hj hlt];exact hda.law hP hQ hcM hM
 ·by_cases hlt:j<l.length
  ·rw[hget j hlt]at hk;exact h.foot j hlt k hk
  ·rw[hlast j hj hlt]at hk;exact Nat.le_trans hBN (CO k hk)
 ·by_cases hli:i<l.length
  ·rw[hget i hli]at hk;by_cases hlj:j<l.length
   ·rw[hget j hlj];exact h.apart i j hli hlj hij k hk
   ·rw[hlast j hj hlj];intro hm;have:=CO k hm;have:=hN i hli k hk;omega
  ·rw[hlast i hi hli]at hk;by_cases hlj:j<l.length
   ·rw[hget j hlj];intro hm;have:=CO k hk;have:=hN j hlj k hm;omega
   ·rw[hlen]at hi hj;omega
 ·have hBw:B<=w.heap.size:=Nat.le_trans h.bB (Nat.le_of_lt h.blk.lt);exact(hba.mono hBw).trans ⟨hcM.os,hcM.tape,hcM.output,hcM.size,λk hk=>hcM.block k (by have:=hba.size;omega) (λhm=>by have:=hMB k hm;omega)⟩
