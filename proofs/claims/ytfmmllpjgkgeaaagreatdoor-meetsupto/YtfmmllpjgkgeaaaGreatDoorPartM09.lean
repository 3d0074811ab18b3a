import Derived.Laws.IdiomRangeMap
import Derived.Test.YtfmmllpjgkgeaaaGreatDoorPartM08
set_option linter.unusedVariables false
set_option linter.unusedSimpArgs false
set_option maxHeartbeats 16000000
set_option maxRecDepth 100000
namespace Go.Proofs.YtfmmllpjgkgeaaaGreatDoor
open Go.Proofs.Tryz Go.RowKit Go.Maps Go.WideMaps
variable{B N cb d ib lb:Nat}{L Lo:Nat->Bool}{c co:Nat->Nat}{It:Nat->Option Value}{M S S':Nat->Prop}{cv iv lv v:Value}{m:Value->Option Value}{w w' wx wy:World}
theorem CG.drop(h:CG w B cb lb c L wx)(hg:wx.grownBy wy (some lb))(hm:bM prog 134 wy lb N (era (lm L) (aP d))):CG w B cb lb c (λk=>L k&&k !=d) wy:=by obtain⟨N',h1⟩:=h.ctx.cs;refine h.grown hg (Or.inr rfl) ⟨⟨N',h1.kept hg (λe=>h.ctx.ne (by cases e;rfl))⟩,⟨N,by rw[V6]at hm;exact hm⟩,h.ctx.ne,h.ctx.ru,h.ctx.c5,λk hk=>h.ctx.yD k (by simp at hk;exact hk.1)⟩
theorem CG.inc{a:Nat}(h:CG w B cb lb c L wx)(hg:wx.grownBy wy (some cb))(hm:bM prog 3 wy cb N (upd (cm c) (.int .i64 a) (.int .i64 ((c a+1:Nat):Int))))(ha:a<=5)(h1:c a+1<=501)(h2:L (dV a (c a+1))=false):CG w B cb lb (Go.Proofs.YtfmmllpjgkgeaaaGreatDoor.inc c a) L wy:=by
 obtain⟨N',h3⟩:=h.ctx.ls;refine h.grown hg (Or.inl rfl) ⟨⟨N,by rw[V4]at hm;exact hm⟩,⟨N',h3.kept hg (λe=>h.ctx.ne (by cases e;rfl))⟩,h.ctx.ne,λx=>?_,λx hx=>?_,λk hk=>?_⟩
 ·by_cases e:x=a
  ·subst e;rw[dU];exact h1
  ·rw[iH e];exact h.ctx.ru x
 ·by_cases e:x=a
  ·subst e;exact ha
  ·rw[iH e]at hx;exact h.ctx.c5 x hx
 ·have:=h.ctx.yD k hk;refine⟨this.1, ?_⟩;by_cases e:who k=a
  ·rw[e,dU];have h4:=this.2;rw[e]at h4;rcases Nat.lt_or_ge (c a+1) (nth k)with h|h
   ·exact h
   ·have e2:k=dV a (c a+1):=(lQ (by rw[eF (by omega),e]) (by rw[dw (by omega)];omega));rw[e2,h2]at hk;cases hk
  ·rw[iH e];exact this.2
theorem CG.put(h:CG w B cb lb c L wx)(hg:wx.grownBy wy (some lb))(hm:bM prog 134 wy lb N (upd (lm L) (aP d) pV))(h1:c (who d)<nth d)(h2:okD d):CG w B cb lb c (λk=>L k||k==d) wy:=by
 obtain⟨N',h3⟩:=h.ctx.cs;refine h.grown hg (Or.inr rfl) ⟨⟨N',h3.kept hg (λe=>h.ctx.ne (by cases e;rfl))⟩,⟨N,by rw[V5]at hm;exact hm⟩,h.ctx.ne,h.ctx.ru,h.ctx.c5,λk hk=>?_⟩;simp at hk;rcases hk with hk|hk
 ·exact h.ctx.yD k hk
 ·subst hk;exact⟨h2,h1⟩
def kW(c:Nat->Nat)(L:Nat->Bool)(d:Nat):Prop:=nth d<=c (who d)\/L d=true
structure rU(a:Nat)(c:Nat->Nat)(L:Nat->Bool)(c':Nat->Nat)(L':Nat->Bool):Prop where
 same:∀d,kW c' L' d↔kW c L d
 oc:∀x,x≠a->c' x=c x
 ol:∀d,who d≠a->L' d=L d
theorem rU.refl(a:Nat)(c:Nat->Nat)(L:Nat->Bool):rU a c L c L:=⟨λ_=>Iff.rfl,λ_ _=>rfl,λ_ _=>rfl⟩
theorem rU.step{a:Nat}{c':Nat->Nat}{L':Nat->Bool}(h:rU a c L c' L')(hl:L' (dV a (c' a+1))=true)(jw:c' a+1<512):rU a c L (inc c' a) (λk=>L' k&&k !=dV a (c' a+1)):=by
 refine⟨λd=>?_,λx hx=>by rw[iH hx];exact h.oc x hx,λd hd=>?_⟩
 ·rw[<- h.same d];unfold kW;simp only[Bool.and_eq_true,bne_iff_ne,ne_eq];by_cases e:who d=a
  ·rw[e,dU];constructor
   ·rintro(h|⟨h,_⟩)
    ·by_cases e2:nth d=c' a+1
     ·right;rw[<- hl];congr 1;exact lQ (by rw[eF jw,e]) (by rw[dw jw,e2])
     ·left;omega
    ·exact Or.inr h
   ·rintro(h|h)
    ·left;omega
    ·by_cases e2:d=dV a (c' a+1)
     ·left;rw[e2,dw jw];omega
     ·exact Or.inr ⟨h,e2⟩
  ·rw[iH e];have hne:d≠dV a (c' a+1):=λe2=>e (by rw[e2,eF jw]);constructor
   ·rintro(h|⟨h,_⟩)
    ·exact Or.inl h
    ·exact Or.inr h
   ·rintro(h|h)
    ·exact Or.inl h
    ·exact Or.inr ⟨h,hne⟩
 ·have hne:d≠dV a (c' a+1):=λe2=>hd (by rw[e2,eF jw]);simp[hne,h.ol d hd]
theorem Dn(w:World)(cb lb a:Nat)(c:Nat->Nat)(L:Nat->Bool)(h:sH w cb lb c L)(a5:a<=5):Calls prog 248 #[.agg #[.map (some cb),.map (some lb)],.int .i64 a] w λe w'=>e=.returned (.tuple #[])/\∃c' L',sH w' cb lb c' L'/\L' (dV a (c' a+1))=false/\rU a c L c' L'/\ay (λk=>k=cb\/k=lb) w w':=by
 have hk:=uY a (by omega);have HG:Hid (∀ob,ob=.cells #[.map (some cb),.map (some lb)] 100->CG w w.heap.size cb lb c L (w.alloc ob)):=λob hob=>by subst hob;have hb:Below w.heap.size w (w.alloc (.cells #[.map (some cb),.map (some lb)] 100)):=(Below.refl _ w).alloc (Nat.le_refl _) _;exact⟨h.below hb,World.cell?_alloc_at _ _ _ _ rfl,World.cell?_alloc_at _ _ _ _ rfl,h.lt,Nat.le_refl _,by simp,ay.of_below hb⟩
 clear h;go_enter func248,ntmps248;go_wp2;go_loopg [6] (501-c a) (λg v6 wx=>∃(c':Nat->Nat)(L':Nat->Bool),g=501-c' a/\CG w w.heap.size cb lb c' L' wx/\rU a c L c' L');case atStart=>exact⟨c,L,rfl,HG.out _ rfl,rU.refl a c L⟩
 case round =>
  obtain⟨c',L',hgc,hC,hS⟩:=hrel;have HC:Hid (CG w w.heap.size cb lb c' L' wr):=hC;have HS:Hid (rU a c L c' L'):=hS;have b0:=hC.b0;have b1:=hC.b1;have ru:=hC.ctx.ru a;have Hn:Hid (_):=next_any wr _ _ a c' L' hC.ctx.toV a5;obtain⟨ca,hca⟩:∃ca,c' a=ca:=⟨_,rfl⟩;have KE:Hid (c' a=ca):=hca;rw[hca]at Hn ru hgc;clear hC hS HG hca;go_wp2_with fail;refine Calls.mono Hn.out ?_;rintro e w1⟨rfl,hb1⟩;have fU:Hid (CG w w.heap.size cb lb c' L' w1):=HC.out.below hb1;have b0:=fU.out.b0;have b1:=fU.out.b1;have hlt:=fU.out.lt;have hw:=fU.out.new;have lS:ca+1<512:=by omega
  have HE:Hid (sG (a:Int) ((ca+1:Nat):Int)=aP (dV a (ca+1))):=KO lS;obtain⟨kl,hkl⟩:=PI a (ca+1) (by omega) (by omega);have hu2:=KP L' (sG a (ca+1:Nat));have hc2:(lm L' (sG a (ca+1:Nat))).isSome=L' (dV a (ca+1)):=by rw[HE.out];exact qM _ _
  have hu:=I9 a c';rw[KE.out]at hu;clear Hn hb1 HC;obtain⟨Nl,hNl⟩:=fU.out.ctx.ls;have hNb:Nl<=3072:=pX hNl (λn hn=>(fU.out.ctx.yD n hn).1);have HL:Hid (∀wy,Below w1.heap.size w1 wy->bM prog 134 wy lb Nl (lm L')):=λwy hb=>hNl.block (hb.block _ hNl.lt);have HCb:Hid (∀wy,Below w1.heap.size w1 wy->CG w w.heap.size cb lb c' L' wy):=λwy hb=>fU.out.below hb;clear hNl;cases hl:L' (dV a (ca+1)) with
  | false =>
   have Hl:Hid (L' (dV a (c' a+1))=false):=by unfold Hid;rw[KE.out];exact hl
   rw[hl]at hc2;clear hl;go_wp2_with (first|(at_lookup;refine pU rfl (.tmp 12) (.tmp 13) 98 rfl 69 iU underlying98 (PG _) rfl (HL.out _ ?_) (sG a ((ca+1:Nat):Int)) kl rfl hkl _ hu2 _ hc2 ?_;(go_grown)));refine bodyPost_ret (results_none rfl _ _ _) rfl ?_;refine⟨rfl,c',L',(HCb.out _ ?_).ctx,Hl.out,HS.out,(HCb.out _ ?_).aJ⟩<;>go_grown
  | true =>
   have Hl:Hid (L' (dV a (c' a+1))=true):=by unfold Hid;rw[KE.out];exact hl
   have jw:ca+1<=501:=by have:=(fU.out.ctx.yD _ hl).1.2.2;rw[dw lS]at this;exact this
   rw[hl]at hc2;clear hl;have YN:Hid (∀wy wz N,Below w1.heap.size w1 wy->wy.grownBy wz (some lb)->bM prog 134 wz lb N (era (lm L') (sG a (ca+1:Nat)))->CG w w.heap.size cb lb c' (λk=>L' k&&k !=dV a (c' a+1)) wz):=λwy wz N hb hg hm=>by rw[HE.out,<- KE.out]at hm;exact CG.drop (HCb.out wy hb) hg hm
   have ae3:Hid (∀wy wz N,CG w w.heap.size cb lb c' (λk=>L' k&&k !=dV a (c' a+1)) wy->wy.grownBy wz (some cb)->bM prog 3 wz cb N (upd (cm c') (.int .i64 a) (.int .i64 ((ca+1:Nat):Int)))->CG w w.heap.size cb lb (inc c' a) (λk=>L' k&&k !=dV a (c' a+1)) wz):=λwy wz N hc hg hm=>by rw[<- KE.out]at hm;exact CG.inc hc hg hm a5 (by rw[KE.out];exact jw) (by simp)
   go_wp2_with (first|(at_lookup;refine pU rfl (.tmp 12) (.tmp 13) 98 rfl 69 iU underlying98 (PG _) rfl (HL.out _ ?_) (sG a ((ca+1:Nat):Int)) kl rfl hkl _ hu2 _ hc2 ?_;(go_grown))|(at_delete;refine Fg rfl (.tmp 20) (.tmp 21) 98 rfl 69 iU underlying98 rfl (HL.out _ ?_) (sG a ((ca+1:Nat):Int)) kl rfl hkl ?_;(go_grown);intro w2 hm2 hg2 hs2;have hC2:CG w w.heap.size cb lb c' (λk=>L' k&&k !=dV a (c' a+1)) w2:=(by refine YN.out _ _ _ ?_ hg2 hm2;go_grown);have HC2:Hid (CG w w.heap.size cb lb c' (λk=>L' k&&k !=dV a (c' a+1)) w2):=hC2;have b0:=hC2.b0;obtain⟨Nc,hNc⟩:=hC2.ctx.cs;have hcb:Nc<=6:=Dl hNc hC2.ctx.c5;have hmx:Nc<maxLen:=(by unfold maxLen;omega);clear hC2)|(at_lookup;refine pR rfl (.tmp 23) (.tmp 24) 97 rfl 3 mQ underlying97 (I5 _) rfl hNc (.int .i64 a) _ rfl hk _ hu ?_)|(at_mapUpdate;refine gq rfl (.tmp 23) (.tmp 24) (.tmp 26) 97 rfl 3 mQ underlying97 rfl hNc hmx (.int .i64 a) (.int .i64 ((ca+1:Nat):Int)) _ rfl (by first|rfl|simp) hk ?_;intro w3 hm3 hg3 hs3;have Md:CG w w.heap.size cb lb (inc c' a) (λk=>L' k&&k !=dV a (c' a+1)) w3:=(ae3.out _ _ _ HC2.out hg3 hm3);go_frame));all_goals
    go_roundg (501-(ca+1));case measure=>omega
    case rel=>exact⟨inc c' a,_,by rw[dU,KE.out],Md,HS.out.step Hl.out (by rw[KE.out];exact lS)⟩
def jd(w:World)(cb lb:Nat)(S:Nat->Prop):Prop:=∃c L,sH w cb lb c L/\(∀a,L (dV a (c a+1))=false)/\∀d,1<=nth d->(S d↔kW c L d)
def Dp(w:World)(cv lv:Value)(S:Nat->Prop):Prop:=∃c L,kM w cv lv c L/\(∀a,L (dV a (c a+1))=false)/\∀d,1<=nth d->(S d↔kW c L d)
theorem jd.toR(h:jd w cb lb S):Dp w (.map (some cb)) (.map (some lb)) S:=by obtain⟨c,L,h1,h2,h3⟩:=h;exact⟨c,L,h1.toV,h2,h3⟩
theorem jd.aJ(h:jd w cb lb S)(hc:ay M w w')(h1:¬M cb)(h2:¬M lb):jd w' cb lb S:=by obtain⟨c,L,g1,g2,g3⟩:=h;exact⟨c,L,g1.aJ hc h1 h2,g2,g3⟩
theorem jd.below(h:jd w cb lb S)(hb:Below w.heap.size w w'):jd w' cb lb S:=by obtain⟨c,L,g1,g2,g3⟩:=h;exact⟨c,L,g1.below hb,g2,g3⟩
theorem jd.lt(h:jd w cb lb S):cb<w.heap.size/\lb<w.heap.size:=by obtain⟨c,L,g1,g2,g3⟩:=h;exact g1.lt
theorem jd.iff(h:jd w cb lb S)(hS:∀n,1<=nth n->(S' n↔S n)):jd w cb lb S':=by obtain⟨c,L,g1,g2,g3⟩:=h;exact⟨c,L,g1,g2,λn hn=>(hS n hn).trans (g3 n hn)⟩
theorem TQ{k:Nat}:kW c (λx=>L x||x==d) k↔kW c L k\/k=d:=by unfold kW;simp only[Bool.or_eq_true,beq_iff_eq];exact⟨λh=>h.elim (λh=>Or.inl (Or.inl h)) (λh=>h.elim (λh=>Or.inl (Or.inr h)) Or.inr),λh=>h.elim (λh=>h.elim Or.inl (λh=>Or.inr (Or.inl h))) (λh=>Or.inr (Or.inr h))⟩
theorem PL{c':Nat->Nat}{L':Nat->Bool}(hcan:∀a,L (dV a (c a+1))=false)(hs:rU (who d) c (λk=>L k||k==d) c' L')(h5:L' (dV (who d) (c' (who d)+1))=false)(jw:∀a,c a<=501):∀a,L' (dV a (c' a+1))=false:=by
 intro a;by_cases e:a=who d
 ·subst e;exact h5
 ·have hw:who (dV a (c a+1))=a:=eF (by have:=jw a;omega);rw[hs.oc a e,hs.ol _ (by rw[hw];exact e),hcan a];have:dV a (c a+1)≠d:=λh=>e (by rw[<- h,hw]);simp[this]
theorem add_any(w:World)(cb lb d:Nat)(S:Nat->Prop)(h:jd w cb lb S)(hd:okD d):Calls prog 201 #[.agg #[.map (some cb),.map (some lb)],aP d] w λe w'=>e=.returned (.tuple #[])/\jd w' cb lb (λk=>S k\/k=d)/\ay (λk=>k=cb\/k=lb) w w':=by
 obtain⟨c,L,h,hcan,hS⟩:=h;have HS:Hid (∀k,1<=nth k->(S k↔kW c L k)):=hS;have a5:=hd.1;have ru:=h.ru;have YO:Hid (∀a,L (dV a (c a+1))=false):=hcan;have vg:Hid (∀a,c a<=501):=ru;have HG:Hid (∀ob,ob=.cells #[.map (some cb),.map (some lb)] 100->∀ob',CG w w.heap.size cb lb c L ((w.alloc ob).alloc ob')):=λob hob ob'=>by subst hob;have hb:Below w.heap.size w (w.alloc (.cells #[.map (some cb),.map (some lb)] 100)):=(Below.refl _ w).alloc (Nat.le_refl _) _;refine CG.below (wx:=w.alloc (.cells #[.map (some cb),.map (some lb)] 100)) ?_ ((Below.refl _ _).alloc (Nat.le_refl _) _);exact⟨h.below hb,World.cell?_alloc_at _ _ _ _ rfl,World.cell?_alloc_at _ _ _ _ rfl,h.lt,Nat.le_refl _,by simp,ay.of_below hb⟩
 have HD:Hid (∀ob,ob=.cells #[.int .i64 (who d),.int .i64 (nth d)] 134->∀ob',((w.alloc ob').alloc ob).cell? ⟨w.heap.size+1,0,none⟩=some (.int .i64 (who d))/\((w.alloc ob').alloc ob).cell? ⟨w.heap.size+1,1,none⟩=some (.int .i64 (nth d))):=λob hob ob'=>by
  subst hob;have e:(w.alloc ob').heap.size=w.heap.size+1:=by simp
  exact⟨by rw[<- e];exact World.cell?_alloc_at _ _ _ _ rfl,by rw[<- e];exact World.cell?_alloc_at _ _ _ _ rfl⟩
 clear h hS hcan ru;go_enter func201,ntmps201;go_wp2_with fail;have hC:=HG.out _ rfl (.cells #[.int .i64 (who d),.int .i64 (nth d)] 134);have hD:=HD.out _ rfl (.cells #[.map (some cb),.map (some lb)] 100);clear HG HD;generalize hw2:(w.alloc (.cells #[.map (some cb),.map (some lb)] 100)).alloc (.cells #[.int .i64 (who d),.int .i64 (nth d)] 134)=w2 at *;have hs2:w2.heap.size=w.heap.size+2:=by rw[<- hw2];simp
 clear hw2;refine Calls.mono (Dk w2 _ _ c d L hC.ctx.toV a5) ?_;rintro e w3⟨rfl,hb3⟩;have Md:=hC.below hb3;have d0:w3.cell? ⟨w.heap.size+1,0,none⟩=some (.int .i64 (who d)):=(hb3.cell (p:=⟨w.heap.size+1,0,none⟩) (by show w.heap.size+1<_;omega)).trans hD.1;have d1:w3.cell? ⟨w.heap.size+1,1,none⟩=some (.int .i64 (nth d)):=(hb3.cell (p:=⟨w.heap.size+1,1,none⟩) (by show w.heap.size+1<_;omega)).trans hD.2;have hs3:w.heap.size+1<w3.heap.size:=by have:=hb3.size;omega
 have b0:=Md.b0;have b1:=Md.b1;have tC:Hid (CG w w.heap.size cb lb c L w3):=Md;clear hC hD hb3 hs2;cases hh:(decide (nth d<=c (who d))||L d) with
 | true =>
  have Hin:Hid (kW c L d):=by unfold Hid kW;simpa using hh
  clear Md hh;go_wp2;refine bodyPost_ret (results_none rfl _ _ _) rfl ?_;exact⟨rfl,⟨c,L,tC.out.ctx,YO.out,λk hk=>by
   show(S k\/k=d)↔_;rw[HS.out k hk];constructor
   ·rintro(h|rfl)
    ·exact h
    ·exact Hin.out
   ·exact Or.inl⟩,tC.out.aJ⟩
 | false =>
  have ae4:c (who d)<nth d:=by simp at hh;omega
  clear hh;obtain⟨kl,hkl⟩:=keyE d (by omega);obtain⟨Nl,hNl⟩:=Md.ctx.ls;have hNb:Nl<=3072:=pX hNl (λn hn=>(Md.ctx.yD n hn).1);have hmx:Nl<maxLen:=by unfold maxLen;omega
  have hlo:=Md.old;have HL:Hid (bM prog 134 w3 lb Nl (lm L)):=hNl;clear Md hNl;go_wp2_with (first|(at_mapUpdate;refine gq rfl (.tmp 8) (.tmp 9) (.tmp 10) 98 rfl 69 iU underlying98 rfl HL.out hmx (aP d) pV _ rfl rfl hkl ?_;intro w4 hm4 hg4 hs4;have PN:CG w w.heap.size cb lb c (λk=>L k||k==d) w4:=(CG.put tC.out hg4 hm4 ae4 hd);have b0:=PN.b0;have b1:=PN.b1;have d0:w4.cell? ⟨w.heap.size+1,0,none⟩=some (.int .i64 (who d)):=(World.cell?_of_block (w:=w3) (hg4.block (w.heap.size+1) hs3 (λe=>by cases e;omega))).trans d0));refine Calls.mono (Dn w4 cb lb (who d) c _ PN.ctx a5) ?_;rintro e w5⟨rfl,c',L',h5,YP,hsame,YQ⟩;have HF:Hid (jd w5 cb lb (λk=>S k\/k=d)):=⟨c',L',h5,PL YO.out hsame YP vg.out,λk hk=>by show(S k\/k=d)↔_;rw[hsame.same k,HS.out k hk,TQ]⟩;have HCh:Hid (ay (λk=>k=cb\/k=lb) w w5):=PN.aJ.trans YQ;clear h5 hsame YQ PN b0 b1 d0;go_wp2
  go_end0
  exact⟨rfl,HF.out,HCh.out⟩
def aU(P:Program)(k:TypeId)(w:World)(v:Value)(r N:Nat)(m:Value->Option Value)(left:Value->Prop)(cnt:Nat):Prop :=
 (v=.map none/\(∃s seen c,w.heap[r]?=some (.mapIter none s seen c))/\cnt=0/\m=(λ_=>none)/\∀key,¬left key)\/∃b,v=.map (some b)/\gQ P k w b r N m left cnt
section
variable{P:Program}{k:TypeId}{w:World}{v:Value}{r N cnt:Nat}{m:Value->Option Value}{left:Value->Prop}
theorem cZ.aJ{M:Nat->Prop}{w':World}(h:cZ P k w v N m)(hc:ay M w w')(hm:∀b,v=.map (some b)->¬M b):cZ P k w' v N m:=by
 rcases h with h|⟨b,h1,h2⟩
 ·exact Or.inl h
 ·exact Or.inr ⟨b,h1,h2.block (hc.block b h2.lt (hm b h1))⟩
theorem aU.aJ{M:Nat->Prop}{w':World}(h:aU P k w v r N m left cnt)(hc:ay M w w')(hm:∀b,v=.map (some b)->¬M b)(hr:¬M r):aU P k w' v r N m left cnt:=by
 rcases h with⟨h1,⟨s,seen,c,h2⟩,h3⟩|⟨b,h1,h2⟩
 ·exact Or.inl ⟨h1,⟨s,seen,c,(hc.block r (Array.getElem?_eq_some_iff.1 h2).1 hr).trans h2⟩,h3⟩
 ·exact Or.inr ⟨b,h1,h2.block (hc.block b h2.map.lt (hm b h1)) (hc.block r h2.lt hr)⟩
theorem aU.lt(h:aU P k w v r N m left cnt):r<w.heap.size:=by
 rcases h with⟨h1,⟨s,seen,c,h2⟩,h3⟩|⟨b,h1,h2⟩
 ·exact(Array.getElem?_eq_some_iff.1 h2).1
 ·exact h2.lt
theorem aU.map{t:TypeId}(h:aU P t w v r N m left cnt):∃N,cZ P t w v N m:=by
 rcases h with⟨h1,_,_,h2,_⟩|⟨b,h1,h2⟩
 ·exact⟨0,Or.inl ⟨h1,rfl,h2⟩⟩
 ·exact⟨N,Or.inr ⟨b,h1,h2.map⟩⟩
theorem tZ{ty:TypeId}{s c:Nat}{seen:Array Nat}(h:w.heap[r]?=some (.mapIter none s seen c)):(Instr.next (.pointer (some ⟨r,0,none⟩)) false ty).run P w=.ok (.tuple #[.bool false]) w:=by simp only[Instr.next,getObj,Sem.run_bind,Sem.run,h,Result.andThen];rfl
variable{ops:Array Oper}{rest:List Oper}{o:Oper}{a:Act}{Q:Exit->Act->World->Prop}
theorem fO(hg:o.guard=none)(mo:Operand)(t:TypeId)(hop:o.op=Op.range t mo)(e:TypeId)(K:Keyed P k)(ht:P.underlying t=some (.map k e))(hm:a.eval mo=v)(h:cZ P k w v N m)(hK:∀w',aU P k w' v w.heap.size N m (λkey=>(m key).isSome=true) N->w.grownBy w' none->w'.heap.size=w.heap.size+1->wpList P ops Q rest (a.put o.dst (.pointer (some ⟨w.heap.size,0,none⟩))) w'):wpList P ops Q (o::rest) a w:=by
 refine wpList_plain hg λK' hK'=>?_;rcases h with⟨rfl,rfl,rfl⟩|⟨b,rfl,h2⟩
 ·unfold Oper.wp;simp[execOp,hop,hm,run_range_nilMap w t k e ht,Result.andThen];exact hK' _ _ (hK _ (Or.inl ⟨rfl,⟨0,#[],0,heap_alloc_new w _⟩,rfl,rfl,λkey h=>by cases h⟩) (World.grownBy_alloc w _ none) (by simp))
 ·obtain⟨w',hrun,r1,r2,r3⟩:=h2.range K ht;unfold Oper.wp;simp[execOp,hop,hm,hrun,Result.andThen];exact hK' _ _ (hK w' (Or.inr ⟨b,rfl,r1⟩) r2 r3)
theorem gu{α : Type}(hg:o.guard=none)(it:Operand)(hop:o.op=Op.next it false)(K:Keyed P k)(mk mv:α->Value)(hit:a.eval it=.pointer (some ⟨r,0,none⟩))(h:aU P k w v r N m left cnt)(hsh:∀key v,left key->m key=some v->∃x,key=mk x/\v=mv x)(hDone:(∀key,¬left key)->wpList P ops Q rest (a.put o.dst (.tuple #[.bool false])) w)(hMore:∀(x:α)(w':World)(cnt':Nat),left (mk x)->m (mk x)=some (mv x)->aU P k w' v r N m (λy=>left y/\y≠mk x) cnt'->cnt'<cnt->w.grownBy w' (some r)->w'.heap.size=w.heap.size -> (Instr.entry (.pointer (some ⟨r,0,none⟩))).run P w'=.ok (.tuple #[mk x,mv x]) w'->wpList P ops Q rest (a.put o.dst (.tuple #[.bool true,mk x,mv x])) w'):wpList P ops Q (o::rest) a w:=by
 rcases h with⟨h1,⟨s,seen,c,h2⟩,h3,h4,h5⟩|⟨b,h1,h2⟩
 ·refine wpList_plain hg λK' hK'=>?_;unfold Oper.wp;simp[execOp,hop,hit,tZ h2,Result.andThen];exact hK' _ _ (hDone h5)
 ·exact Fh hg it hop K mk mv hit h2 hsh (λ_=>hDone) (λx w' cnt' g1 g2 g3 g4 g5 g6 g7=>hMore x w' cnt' g1 g2 (Or.inr ⟨b,h1,g3⟩) g4 g5 g6 g7)
end
theorem yE(w:World):Calls prog 200 #[] w λe w'=>∃cb lb,e=.returned (.agg #[.map (some cb),.map (some lb)])/\jd w' cb lb (λ_=>False)/\w.heap.size<=cb/\w.heap.size<=lb/\Below w.heap.size w w':=by
 have hmm:=@run_makeMap prog;have HM:Hid (∀ob,Below w.heap.size w (w.alloc ob)/\jd (((w.alloc ob).alloc (.map #[] 0)).alloc (.map #[] 0)) (w.heap.size+1) (w.heap.size+2) (λ_=>False)):=λob=>⟨(Below.refl _ w).alloc (Nat.le_refl _) _,by
  have e1:(w.alloc ob).heap.size=w.heap.size+1:=by simp
  have e2:((w.alloc ob).alloc (.map #[] 0)).heap.size=w.heap.size+2:=by simp
  have m1:=bM.made (w.alloc ob) prog 3;have m2:=bM.made ((w.alloc ob).alloc (.map #[] 0)) prog 134;rw[e1]at m1;rw[e2]at m2;have hc:cm (λ_=>0)=λ_=>none:=(I8 (λa=>rfl) (λkey _=>rfl)).symm;have hl:lm (λ_=>false)=λ_=>none:=by funext key;simp[lm]
  refine⟨λ_=>0,λ_=>false,⟨⟨0,by rw[hc];exact m1.block (((Below.refl _ ((w.alloc ob).alloc (.map #[] 0))).alloc (Nat.le_refl _) _).block _ m1.lt)⟩,⟨0,by rw[hl];exact m2⟩,by omega,λ_=>by omega,λ_ h=>absurd rfl h,λn h=>(by cases h)⟩,λ_=>rfl,λn hn=>?_⟩;simp[kW];omega⟩
 go_enter func200,ntmps200;go_wp2;refine bodyPost_ret (v:=.agg #[.map (some (w.heap.size+1)),.map (some (w.heap.size+2))]) (by simp[results,Tryz.results200,go_sem]) rfl ⟨_,_,rfl, ?_,by omega,by omega, ?_⟩
 ·first
   | exact(HM.out _).2
   | (refine jd.aJ (M:=λk=>k=w.heap.size) (HM.out _).2 (((ay.refl _ _).setCell (p:=⟨w.heap.size,0,none⟩) rfl _).setCell (p:=⟨w.heap.size,1,none⟩) rfl _) (by omega) (by omega))
   | trace_state
 ·go_grown
theorem KQ(x y:Int)(w:World):(Instr.field 134 (.agg #[.int .i64 x,.int .i64 y]) 1).run prog w=.ok (.int .i64 y) w:=by kernel_rfl
structure AA(w:World)(cb lb:Nat)(cv lv:Value)(co:Nat->Nat)(Lo:Nat->Bool)(S:Nat->Prop)(wx:World):Prop where
 ctx:jd wx cb lb S
 b0:wx.cell? ⟨w.heap.size,0,none⟩=some (.map (some cb))
 b1:wx.cell? ⟨w.heap.size,1,none⟩=some (.map (some lb))
 o0:wx.cell? ⟨w.heap.size+1,0,none⟩=some cv
 o1:wx.cell? ⟨w.heap.size+1,1,none⟩=some lv
 oc:∃N,cZ prog 3 wx cv N (cm co)
 ol:∃N,cZ prog 134 wx lv N (lm Lo)
 old:cb<w.heap.size/\lb<w.heap.size
 ne:(∀b,cv=.map (some b)->b≠cb/\b≠lb/\b<w.heap.size)/\(∀b,lv=.map (some b)->b≠cb/\b≠lb/\b<w.heap.size)
 lt:w.heap.size+2<=wx.heap.size
 aJ:ay (λk=>k=cb\/k=lb) w wx
theorem AA.step(h:AA w cb lb cv lv co Lo S wx)(hc:jd wy cb lb S')(hg:ay (λk=>k=cb\/k=lb) wx wy):AA w cb lb cv lv co Lo S' wy:=by obtain⟨N,h1⟩:=h.oc;obtain⟨N',h2⟩:=h.ol;have hl:=h.lt;have ho:=h.old;have hcell:∀b i,w.heap.size<=b->b<wx.heap.size->wy.cell? ⟨b,i,none⟩=wx.cell? ⟨b,i,none⟩:=λb i hb1 hb2=>World.cell?_of_block (w:=wx) (hg.block b hb2 (by omega));exact⟨hc,(hcell _ 0 (by omega) (by omega)).trans h.b0,(hcell _ 1 (by omega) (by omega)).trans h.b1,(hcell _ 0 (by omega) (by omega)).trans h.o0,(hcell _ 1 (by omega) (by omega)).trans h.o1,⟨N,h1.aJ hg (λb hb=>by have:=h.ne.1 b hb;omega)⟩,⟨N',h2.aJ hg (λb hb=>by have:=h.ne.2 b hb;omega)⟩,h.old,h.ne,Nat.le_trans hl hg.size,h.aJ.trans hg⟩
theorem AA.below(h:AA w cb lb cv lv co Lo S wx)(hb:Below wx.heap.size wx wy):AA w cb lb cv lv co Lo S wy:=h.step (h.ctx.below hb) (ay.of_below hb)
theorem AA.turn{r:Nat}(h:AA w cb lb cv lv co Lo S wx)(hr:w.heap.size+2<=r)(hg:wx.grownBy wy (some r)):AA w cb lb cv lv co Lo S wy:=by have hl:=h.lt;have ho:=h.old;have hcell:∀b i,b<w.heap.size+2->wy.cell? ⟨b,i,none⟩=wx.cell? ⟨b,i,none⟩:=λb i hb2=>World.cell?_of_block (w:=wx) (hg.block b (by omega) (λe=>by cases e;omega));have hch:ay (λk=>k=r) wx wy:=(ay.refl _ wx).grown hg (λk e=>by cases e;exact Or.inl rfl);obtain⟨N,h1⟩:=h.oc;obtain⟨N',h2⟩:=h.ol;exact⟨h.ctx.aJ hch (by omega) (by omega),(hcell _ 0 (by omega)).trans h.b0,(hcell _ 1 (by omega)).trans h.b1,(hcell _ 0 (by omega)).trans h.o0,(hcell _ 1 (by omega)).trans h.o1,⟨N,h1.aJ hch (λb hb=>by have:=h.ne.1 b hb;omega)⟩,⟨N',h2.aJ hch (λb hb=>by have:=h.ne.2 b hb;omega)⟩,h.old,h.ne,Nat.le_trans hl hg.size,h.aJ.grown hg (λk e=>by cases e;right;omega)⟩
theorem AA.iff(h:AA w cb lb cv lv co Lo S wx)(hS:∀n,1<=nth n->(S' n↔S n)):AA w cb lb cv lv co Lo S' wx:=h.step (h.ctx.iff hS) (ay.refl _ _)
theorem jd.r(h:jd w cb lb S):∃c L,kM w (.map (some cb)) (.map (some lb)) c L/\(∀d,1<=nth d->nth d<=c (who d)->S d)/\∀a,c a<=501:=by obtain⟨c,L,h1,h2,h3⟩:=h;exact⟨c,L,h1.toV,λd h1 h2=>(h3 d h1).2 (Or.inl h2),h1.ru⟩
theorem Ja(w:World)(cb lb:Nat)(S So:Nat->Prop)(cv lv:Value)(h:jd w cb lb S)(ho:Dp w cv lv So)(hne:(∀b,cv=.map (some b)->b≠cb/\b≠lb/\b<w.heap.size)/\(∀b,lv=.map (some b)->b≠cb/\b≠lb/\b<w.heap.size)):Calls prog 207 #[.agg #[.map (some cb),.map (some lb)],.agg #[cv,lv]] w λe w'=>e=.returned (.tuple #[])/\jd w' cb lb (λk=>S k\/So k)/\ay (λk=>k=cb\/k=lb) w w':=by
 obtain⟨co,Lo,ho,_,hSo⟩:=ho;have HSo:Hid (∀d,1<=nth d->(So d↔kW co Lo d)):=hSo;have Hco:Hid (∀a,co a<=501):=ho.ru;have YR:Hid (∀a,co a≠0->a<=5):=ho.c5;have HLo:Hid (∀d,Lo d=true->okD d):=λd hd=>(ho.yD d hd).1;have uf:Hid (∀ob ob',ob=.cells #[.map (some cb),.map (some lb)] 100->ob'=.cells #[cv,lv] 100->AA w cb lb cv lv co Lo S ((w.alloc ob).alloc ob')):=λob ob' e1 e2=>by
  subst e1;subst e2;have hb1:Below w.heap.size w (w.alloc (.cells #[.map (some cb),.map (some lb)] 100)):=(Below.refl _ w).alloc (Nat.le_refl _) _;have hb:Below w.heap.size w ((w.alloc (.cells #[.map (some cb),.map (some lb)] 100)).alloc (.cells #[cv,lv] 100)):=hb1.alloc (by simp) _;have hb2:=(Below.refl (w.alloc (.cells #[.map (some cb),.map (some lb)] 100)).heap.size (w.alloc (.cells #[.map (some cb),.map (some lb)] 100))).alloc (Nat.le_refl _) (.cells #[cv,lv] 100);have e:(w.alloc (.cells #[.map (some cb),.map (some lb)] 100)).heap.size=w.heap.size+1:=by simp
  have hR:=ho.below hb;refine⟨h.below hb,(hb2.cell (p:=⟨w.heap.size,0,none⟩) (by simp)).trans (World.cell?_alloc_at _ _ _ _ rfl),(hb2.cell (p:=⟨w.heap.size,1,none⟩) (by simp)).trans (World.cell?_alloc_at _ _ _ _ rfl), ?_, ?_,hR.cs,hR.ls,h.lt,hne,by simp,ay.of_below hb⟩
  ·rw[<- e];exact World.cell?_alloc_at _ _ _ _ rfl
  ·rw[<- e];exact World.cell?_alloc_at _ _ _ _ rfl
 clear h ho hSo hne;go_enter func207,ntmps207;have hA:=uf.out _ _ rfl rfl;clear uf;obtain⟨Nc,hNc⟩:=hA.oc;have o0:=hA.o0;have hs2:((w.alloc (.cells #[.map (some cb),.map (some lb)] 100)).alloc (.cells #[cv,lv] 100)).heap.size=w.heap.size+2:=by simp
 have HA:Hid (AA w cb lb cv lv co Lo S _):=hA;clear hA;go_wp2_with (first|(at_range;refine fO rfl (.tmp 9) 97 rfl 3 mQ underlying97 rfl hNc ?_;intro w3 hr3 hg3 hs3;have hA3:AA w cb lb cv lv co Lo S w3:=(HA.out.below ((Below.refl _ _).grown hg3 (Nat.le_refl _) (λk e=>by cases e)));rw[hs2]at hr3⊢;clear HA o0 hNc hg3 hs3;go_frame));go_loopg [4] Nc (λg v4 wx=>∃(left:Value->Prop)(cnt:Nat),g=cnt/\aU prog 3 wx cv (w.heap.size+2) Nc (cm co) left cnt/\AA w cb lb cv lv co Lo (λk=>S k\/(nth k<=co (who k)/\¬left (.int .i64 (who k)))) wx);case atStart =>
  refine⟨_,_,rfl,hr3,hA3.iff (λn hn=>?_)⟩;have:¬(nth n<=co (who n)/\¬(cm co (.int .i64 (who n))).isSome=true):=by rintro⟨h1,h2⟩;exact h2 (by rw[pW,if_neg (by omega)];rfl)
  simp only[this,or_false]
 case round =>
  obtain⟨left,q,hq,hR,hA⟩:=hrel;have HR:Hid (aU prog 3 wr cv (w.heap.size+2) Nc (cm co) left q):=hR;have HA:Hid (AA w cb lb cv lv co Lo (λk=>S k\/(nth k<=co (who k)/\¬left (.int .i64 (who k)))) wr):=hA;have vk:Hid (∀key v,left key->cm co key=some v->∃x:Nat,key=(λx:Nat=>Value.int .i64 x) x/\v=(λx:Nat=>Value.int .i64 (co x)) x):=λkey v _ hk=>by obtain⟨x,h1,h2,_⟩:=mV hk;exact⟨x,h1,h2⟩
  have o1:=hA.o1;obtain⟨Nl,hNl⟩:=hA.ol;clear hR hA hr3 hA3;go_wp2_with (first|(at_next;refine gu rfl (.tmp 10) rfl mQ (λx:Nat=>.int .i64 x) (λx:Nat=>.int .i64 (co x)) (by first|rfl|(simp;rfl)) HR.out vk.out ?_ ?_))
  ·intro hl0;go_wp2_with (first|(at_range;refine fO rfl (.tmp 31) 98 rfl 69 iU underlying98 rfl hNl ?_;intro w5 YS hg5 hs5;have hA5:AA w cb lb cv lv co Lo (λk=>S k\/nth k<=co (who k)) w5:=((HA.out.below ((Below.refl _ _).grown hg5 (Nat.le_refl _) (λk e=>by cases e))).iff (λn hn=>by simp[hl0]));have hrl:w.heap.size+2<=wr.heap.size:=HA.out.lt;clear HA o1 hNl hg5 hs5 HR vk;go_frame));go_loopg [7] Nl (λg v7 wx=>∃(oG:Value->Prop)(q2:Nat),g=q2/\aU prog 134 wx lv wr.heap.size Nl (lm Lo) oG q2/\AA w cb lb cv lv co Lo (λk=>(S k\/nth k<=co (who k))\/(Lo k=true/\¬oG (aP k))) wx);case atStart =>
    refine⟨_,_,rfl,YS,hA5.iff (λn hn=>?_)⟩;have:¬(Lo n=true/\¬(lm Lo (aP n)).isSome=true):=by rintro⟨h1,h2⟩;exact h2 (by rw[qM];exact h1)
    simp only[this,or_false]
   case round =>
    obtain⟨oG,q2,hq2,hR2,hA2⟩:=hrel;have HR2:Hid (aU prog 134 wr lv _ Nl (lm Lo) oG q2):=hR2;have HA2:Hid (AA w cb lb cv lv co Lo (λk=>(S k\/nth k<=co (who k))\/(Lo k=true/\¬oG (aP k))) wr):=hA2;have V7:Hid (∀key v,oG key->lm Lo key=some v->∃x:Nat,key=(λn:Nat=>aP n) x/\v=(λ_=>pV) x):=λkey v _ hk=>by obtain⟨n,h1,h2,h3⟩:=PK hk;exact⟨n,h2,h3⟩
    clear hR2 hA2 YS hA5;go_wp2_with (first|(at_next;refine gu rfl (.tmp 32) rfl iU (λn:Nat=>aP n) (λ_=>pV) rfl HR2.out V7.out ?_ ?_))
    ·intro hl2;have HF:Hid (jd wr cb lb (λk=>S k\/So k)):=HA2.out.ctx.iff (λn hn=>by rw[HSo.out n hn];unfold kW;simp only[hl2,not_false_eq_true,and_true];exact⟨λh=>h.elim (λh=>Or.inl (Or.inl h)) (λh=>h.elim (λh=>Or.inl (Or.inr h)) Or.inr),λh=>h.elim (λh=>h.elim Or.inl (λh=>Or.inr (Or.inl h))) (λh=>Or.inr (Or.inr h))⟩);have HCh:Hid (ay (λk=>k=cb\/k=lb) w wr):=HA2.out.aJ;clear HR2 HA2 V7;go_wp2
     go_end0
     exact⟨rfl,HF.out,HCh.out⟩
    ·intro n w6 q6 ak6 ae5 TR ak7 eG hs6 ae6;have hLn:Lo n=true:=by rw[<- qM n Lo,ae5];(first|done|rfl)
     have hn:=HLo.out n hLn;have Tc:=HA2.out.turn hrl eG;have TS:Hid (AA w cb lb cv lv co Lo (λk=>(S k\/nth k<=co (who k))\/(Lo k=true/\¬oG (aP k))) w6):=Tc;have b0:=Tc.b0;have b1:=Tc.b1;have hlt2:=Tc.lt;have b0A:∀o,(w6.alloc o).cell? ⟨w.heap.size,0,none⟩=some (.map (some cb)):=λo=>(TS.out.below ((Below.refl _ w6).alloc (Nat.le_refl _) o)).b0;have b1A:∀o,(w6.alloc o).cell? ⟨w.heap.size,1,none⟩=some (.map (some lb)):=λo=>(TS.out.below ((Below.refl _ w6).alloc (Nat.le_refl _) o)).b1;have TT:Hid (aU prog 134 w6 lv _ Nl (lm Lo) (λy=>oG y/\¬y=aP n) q6):=TR;have Aq:Hid (∀wx,Below w6.heap.size w6 wx->Calls prog 201 #[.agg #[.map (some cb),.map (some lb)],aP n] wx λe w'=>e=.returned (.tuple #[])/\AA w cb lb cv lv co Lo (λk=>((S k\/nth k<=co (who k))\/(Lo k=true/\¬oG (aP k)))\/k=n) w'/\aU prog 134 w' lv _ Nl (lm Lo) (λy=>oG y/\¬y=aP n) q6):=λwx hb=>by have hA':=TS.out.below hb;refine Calls.mono (add_any wx cb lb n _ hA'.ctx hn) ?_;rintro e w'⟨rfl,h1,h2⟩;have hol:=hA'.old;exact⟨rfl,hA'.step h1 h2,(TT.out.aJ (M:=λ_=>False) (ay.of_below hb) (λ_ _ h=>h) (λh=>h)).aJ h2 (λb hb=>by have:=hA'.ne.2 b hb;omega) (by omega)⟩
     clear TR Tc HR2 HA2 V7 TS TT;go_wp2_with fail;refine Calls.mono (Aq.out _ ?_) ?_
     ·go_grown
     rintro e w7⟨rfl,hA7,hR7⟩;have HA7:Hid (AA w cb lb cv lv co Lo (λk=>(S k\/nth k<=co (who k))\/(Lo k=true/\¬(oG (aP k)/\¬aP k=aP n))) w7):=hA7.iff (λk hk=>by
      constructor
      ·rintro(h|⟨h1,h2⟩)
       ·exact Or.inl (Or.inl h)
       ·by_cases e:k=n
        ·exact Or.inr e
        ·exact Or.inl (Or.inr ⟨h1,λh3=>h2 ⟨h3,λe2=>e (gI e2)⟩⟩)
      ·rintro((h|⟨h1,h2⟩)|rfl)
       ·exact Or.inl h
       ·exact Or.inr ⟨h1,λh3=>h2 h3.1⟩
       ·exact Or.inr ⟨hLn,λh3=>h3.2 rfl⟩)
     have HR7:Hid (aU prog 134 w7 lv _ Nl (lm Lo) (λy=>oG y/\¬y=aP n) q6):=hR7;clear hA7 hR7 Aq b0 b1 b0A b1A ae6;go_wp2_with fail;go_roundg q6;case measure=>omega
     case rel=>exact⟨_,q6,rfl,HR7.out,HA7.out⟩
  ·intro a w4 q' hlk hmk ni hlt hg4 hs4 hen;have YT:co a≠0:=by intro h0;rw[pW,if_pos h0]at hmk;cases hmk
   have a5:=YR.out a YT;have YU:=Hco.out a;obtain⟨ca,hca⟩:∃ca,co a=ca:=⟨_,rfl⟩;have KE:Hid (co a=ca):=hca;rw[hca]at YU;try rw[hca]at hen
   try rw[hca]
   clear hca YT;have Dq:=HA.out.turn (Nat.le_refl _) hg4;obtain⟨cc,L1,hV,hsub,hc1⟩:=Dq.ctx.r;have Il:Hid (AA w cb lb cv lv co Lo (λk=>S k\/(nth k<=co (who k)/\¬left (.int .i64 (who k)))) w4):=Dq;have HR4:Hid (aU prog 3 w4 cv (w.heap.size+2) Nc (cm co) (λy=>left y/\¬y=Value.int IntKind.i64 (a:Int)) q'):=ni;have ae7:Hid (∀d,1<=nth d->nth d<=cc (who d)->(S d\/(nth d<=co (who d)/\¬left (.int .i64 (who d))))):=hsub;have b0:=Dq.b0;have b1:=Dq.b1;have Hn:Hid (_):=next_any w4 _ _ a cc L1 hV a5;have hc1:=hc1 a;obtain⟨c1,V8⟩:∃c1,cc a=c1:=⟨_,rfl⟩;have L9:Hid (cc a=c1):=V8;rw[V8]at Hn hc1;clear V8;have hwne:=Dq.ne.1;have hold:=Dq.old;clear Dq hV ni HR HA hsub o1 hNl vk hg4;go_wp2_with fail;refine Calls.mono Hn.out ?_;rintro e w5⟨rfl,hb5⟩;have HA5:Hid (AA w cb lb cv lv co Lo (λk=>S k\/(nth k<=co (who k)/\¬left (.int .i64 (who k)))) w5):=Il.out.below hb5;have Ar:Hid (aU prog 3 w5 cv (w.heap.size+2) Nc (cm co) (λy=>left y/\¬y=Value.int IntKind.i64 (a:Int)) q'):=HR4.out.aJ (M:=λ_=>False) (ay.of_below hb5) (λ_ _ h=>h) (λh=>h);have hfd:=KQ (a:Int) ((c1:Int)+1);clear Il HR4 Hn b0 b1 hb5 hen;go_wp2_with fail;clear hfd;go_loopg [6] (ca+1-(c1+1)) (λg v6 wx=>∃nt:Nat,c1+1<=nt/\(nt<=ca+1\/nt=c1+1)/\v6=.int .i64 nt/\g=ca+1-nt/\aU prog 3 wx cv (w.heap.size+2) Nc (cm co) (λy=>left y/\¬y=Value.int IntKind.i64 (a:Int)) q'/\AA w cb lb cv lv co Lo (λk=>(S k\/(nth k<=co (who k)/\¬left (.int .i64 (who k))))\/(who k=a/\c1<nth k/\nth k<nt)) wx);case atStart=>exact⟨c1+1,by omega,by omega,rfl,rfl,Ar.out,HA5.out.iff (λn hn=>by constructor;(rintro(h|h);exact h;omega);exact Or.inl)⟩
   case round =>
    obtain⟨nt,hn1,hn2,rfl,hg,TR,Tc⟩:=hrel;have TT:Hid (aU prog 3 wr cv (w.heap.size+2) Nc (cm co) (λy=>left y/\¬y=Value.int IntKind.i64 (a:Int)) q'):=TR;have TS:Hid (AA w cb lb cv lv co Lo (λk=>(S k\/(nth k<=co (who k)/\¬left (.int .i64 (who k))))\/(who k=a/\c1<nth k/\nth k<nt)) wr):=Tc;have b0:=Tc.b0;have b1:=Tc.b1;clear TR Tc HA5 Ar;by_cases hle:nt<=ca
    ·have lS:nt<512:=by omega
     have Aq:Hid (_):=add_any wr cb lb (dV a nt) _ TS.out.ctx ⟨by rw[eF lS];exact a5,by rw[dw lS];omega,by rw[dw lS];omega⟩;unfold aP at Aq;rw[eF lS,dw lS]at Aq;go_wp2_with fail;refine Calls.mono Aq.out ?_;rintro e w7⟨rfl,V9,vw⟩;have HA7:Hid (AA w cb lb cv lv co Lo (λk=>(S k\/(nth k<=co (who k)/\¬left (.int .i64 (who k))))\/(who k=a/\c1<nth k/\nth k<nt+1)) w7):=(TS.out.step V9 vw).iff (λn hn=>by
      constructor
      ·rintro(h|h)
       ·exact Or.inl (Or.inl h)
       ·by_cases e:nth n=nt
        ·exact Or.inr (lQ (by rw[eF lS];exact h.1) (by rw[dw lS];exact e))
        ·exact Or.inl (Or.inr (by omega))
      ·rintro((h|h)|h)
       ·exact Or.inl h
       ·exact Or.inr (by omega)
       ·refine Or.inr ⟨by rw[h,eF lS],by rw[h,dw lS];omega,by rw[h,dw lS];omega⟩)
     have HR7:Hid (aU prog 3 w7 cv (w.heap.size+2) Nc (cm co) (λy=>left y/\¬y=Value.int IntKind.i64 (a:Int)) q'):=TT.out.aJ vw (λb hb=>by have:=hwne b hb;omega) (by omega);clear Aq V9 vw TS TT b0 b1;go_wp2_with fail;go_roundg (ca+1-(nt+1));case measure=>omega
     case rel=>exact⟨nt+1,by omega,by omega,by go_num,rfl,HR7.out,HA7.out⟩
    ·go_wp2_with fail;go_roundg q';case measure=>omega
     case rel=>exact⟨_,q',rfl,TT.out,TS.out.iff (λn hn=>by
      have hle2:ca<nt:=by omega
      constructor
      ·rintro(h|⟨h,h'⟩)
       ·exact Or.inl (Or.inl h)
       ·by_cases ea:who n=a
        ·by_cases e:nth n<=c1
         ·exact Or.inl (ae7.out n hn (by rw[ea,L9.out];exact e))
         ·exact Or.inr ⟨ea,by omega,by rw[ea,KE.out]at h;omega⟩
        ·refine Or.inl (Or.inr ⟨h,λhl=>h' ⟨hl,λe2=>ea ?_⟩⟩);simp at e2;omega
      ·rintro((h|h)|h)
       ·exact Or.inl h
       ·exact Or.inr ⟨h.1,λhh=>h.2 hh.1⟩
       ·exact Or.inr ⟨by rw[h.1,KE.out];omega,λhh=>hh.2 (by rw[h.1])⟩)⟩
noncomputable def im(It:Nat->Option Value):Value->Option Value:=λkey=>@dite _ (∃n:Nat,key=aP n) (Classical.propDecidable _) (λh=>It (Classical.choose h)) (λ_=>none)
theorem iC(It:Nat->Option Value)(n:Nat):im It (aP n)=It n:=by unfold im;have h:∃m:Nat,aP n=aP m:=⟨n,rfl⟩;rw[dif_pos h];have:=Classical.choose_spec h;rw[<- gI this]
theorem mW{key:Value}(h:im It key=some v):∃n:Nat,key=aP n/\It n=some v:=by
 unfold im at h;split at h
 ·rename_i hh;exact⟨_,Classical.choose_spec hh,h⟩
 ·cases h
theorem Jb(h1:∀n:Nat,m (aP n)=It n)(h2:∀key,(∀n:Nat,key≠aP n)->m key=none):m=im It:=by
 funext key;by_cases h:∃n:Nat,key=aP n
 ·obtain⟨n,rfl⟩:=h;rw[h1,iC]
 ·rw[h2 key (λn e=>h ⟨n,e⟩)];unfold im;rw[dif_neg h]
theorem Dt(It:Nat->Option Value)(n:Nat)(v:Value):upd (im It) (aP n) v=im (λk=>if k=n then some v else It k):=by
 apply Jb
 ·intro k;by_cases e:k=n
  ·subst e;rw[upd_same,if_pos rfl]
  ·rw[iG (λe2=>e (gI e2)),iC,if_neg e]
 ·intro key hk;rw[iG (hk n)];unfold im;rw[dif_neg (λ⟨n,e⟩=>hk n e)]
theorem ug:im (λ_=>none)=λ_=>none:=by symm;apply Jb<;>intros<;>rfl
structure aN(w:World)(ib cb lb:Nat)(S:Nat->Prop)(It:Nat->Option Value):Prop where
 ctx:jd w cb lb S
 its:∃N,bM prog 134 w ib N (im It)
 ne:ib≠cb/\ib≠lb
 ok:∀n,It n≠none->okD n/\S n
structure iD(w:World)(iv cv lv:Value)(S:Nat->Prop)(It:Nat->Option Value):Prop where
 ctx:Dp w cv lv S
 its:∃N,cZ prog 134 w iv N (im It)
 ok:∀n,It n≠none->okD n/\S n
theorem aN.toR(h:aN w ib cb lb S It):iD w (.map (some ib)) (.map (some cb)) (.map (some lb)) S It :=
 ⟨h.ctx.toR,h.its.imp λN h=>Or.inr ⟨ib,rfl,h⟩,h.ok⟩
theorem Dp.aJ(h:Dp w cv lv S)(hc:ay M w w')(h1:∀b,cv=.map (some b)->¬M b)(h2:∀b,lv=.map (some b)->¬M b):Dp w' cv lv S:=by obtain⟨c,L,⟨⟨N,g1⟩,⟨N',g2⟩,g3,g4,g5⟩,r⟩:=h;exact⟨c,L,⟨⟨N,g1.aJ hc h1⟩,⟨N',g2.aJ hc h2⟩,g3,g4,g5⟩,r⟩
theorem iD.aJ(h:iD w iv cv lv S It)(hc:ay M w w')(h1:∀b,iv=.map (some b)\/cv=.map (some b)\/lv=.map (some b)->¬M b):iD w' iv cv lv S It :=
 ⟨h.ctx.aJ hc (λb hb=>h1 b (Or.inr (Or.inl hb))) (λb hb=>h1 b (Or.inr (Or.inr hb))),h.its.imp λN g=>g.aJ hc (λb hb=>h1 b (Or.inl hb)),h.ok⟩
theorem iD.below(h:iD w iv cv lv S It)(hb:Below w.heap.size w w'):iD w' iv cv lv S It:=h.aJ (M:=λ_=>False) (ay.of_below hb) (λ_ _ h=>h)
theorem aN.aJ(h:aN w ib cb lb S It)(hc:ay M w w')(h1:¬M ib)(h2:¬M cb)(h3:¬M lb):aN w' ib cb lb S It :=
 ⟨h.ctx.aJ hc h2 h3,h.its.imp λN g=>g.block (hc.block _ g.lt h1),h.ne,h.ok⟩
theorem aN.below(h:aN w ib cb lb S It)(hb:Below w.heap.size w w'):aN w' ib cb lb S It:=h.aJ (M:=λ_=>False) (ay.of_below hb) (λh=>h) (λh=>h) (λh=>h)
theorem aN.lt(h:aN w ib cb lb S It):ib<w.heap.size/\cb<w.heap.size/\lb<w.heap.size:=⟨h.its.elim λ_ g=>g.lt,h.ctx.lt⟩
theorem cZ.lt{P:Program}{k:TypeId}(h:cZ P k w v N m):∀b,v=.map (some b)->b<w.heap.size:=by
 intro b hb;rcases h with⟨h,_⟩|⟨b',h,h2⟩
 ·rw[h]at hb;cases hb
 ·rw[h]at hb;cases hb;exact h2.lt
theorem iD.lt(h:iD w iv cv lv S It):∀b,iv=.map (some b)\/cv=.map (some b)\/lv=.map (some b)->b<w.heap.size:=by
 obtain⟨⟨c,L,⟨⟨N,g1⟩,⟨N',g2⟩,_⟩,_⟩,⟨N2,g3⟩,_⟩:=h;rintro b (hb|hb|hb)
 ·exact g3.lt b hb
 ·exact g1.lt b hb
 ·exact g2.lt b hb
def bZ(w:World)(v:Value)(ns:List Nat):Prop :=
 (v=.slice none 0 0/\ns=[])\/∃b off cap,v=.slice (some ⟨b,off,none⟩) ns.length cap/\ns.length<=cap/\b<w.heap.size/\∀j(h:j<ns.length),w.cell? ⟨b,off+j*2,none⟩=some (.int .i64 (who ns[j]))/\w.cell? ⟨b,off+j*2+1,none⟩=some (.int .i64 (nth ns[j]))
theorem bZ.aJ{ns:List Nat}(h:bZ w v ns)(hc:ay M w w')(hm:∀b,v.ownBlock=some b->¬M b):bZ w' v ns:=by
 rcases h with h|⟨b,off,cap,rfl,h2,h3,h4⟩
 ·exact Or.inl h
 ·have e:∀i,w'.cell? ⟨b,i,none⟩=w.cell? ⟨b,i,none⟩:=λi=>World.cell?_of_block (w:=w) (hc.block b h3 (hm b rfl));exact Or.inr ⟨b,off,cap,rfl,h2,Nat.lt_of_lt_of_le h3 hc.size,λj hj=>⟨(e _).trans (h4 j hj).1,(e _).trans (h4 j hj).2⟩⟩
theorem bZ.below{ns:List Nat}(h:bZ w v ns)(hb:Below w.heap.size w w'):bZ w' v ns:=h.aJ (M:=λ_=>False) (ay.of_below hb) (λ_ _ h=>h)
theorem YV(w:World):(zeroValue 86).run prog w=.ok (.agg #[.string ⟨#[]⟩,.int .u8 0,.string ⟨#[]⟩,.int .i64 0]) w:=by kernel_rfl
theorem je(h:bM prog 134 w ib N (im It))(hl:∀n,It n≠none->okD n):N<=3072:=by refine h.bound iU (λn=>aP n) ?_;intro key hk;obtain⟨v,hv⟩:=Option.isSome_iff_exists.1 hk;obtain⟨n,h1,h2⟩:=mW hv;exact⟨n,lg (hl n (by rw[h2];simp)),h1⟩
theorem aN.put{n:Nat}(h:aN w ib cb lb S It)(hg:w.grownBy w' (some ib))(hm:bM prog 134 w' ib N (upd (im It) (aP n) v))(h1:okD n)(h3:S n):aN w' ib cb lb S (λk=>if k=n then some v else It k):=by
 have hc:ay (λk=>k=ib) w w':=(ay.refl _ w).grown hg (λk e=>by cases e;exact Or.inl rfl);refine⟨h.ctx.aJ hc (λe=>h.ne.1 e.symm) (λe=>h.ne.2 e.symm),⟨N,by rw[Dt]at hm;exact hm⟩,h.ne,λk hk=>?_⟩;by_cases e:k=n
 ·subst e;exact⟨h1,h3⟩
 ·exact h.ok k (by simpa[e]using hk)
def rV(v:Value):Prop:=∃s0 x1 s2 x3,v=.agg #[.string s0,.int .u8 x1,.string s2,.int .i64 x3]
structure OM(w:World)(iv dv:Value)(gW:Nat->Option Value)(ns:List Nat)(ib cb lb B:Nat)(S:Nat->Prop)(It:Nat->Option Value)(wx:World):Prop where
 st:aN wx ib cb lb S It
 new:w.heap.size<ib/\w.heap.size<cb/\w.heap.size<lb/\w.heap.size<B
 apart:B≠ib/\B≠cb/\B≠lb
 bx:aA wx B #[.map (some ib),.map (some cb),.map (some lb)] 102
 r0:∃u0 u1 u2,aA wx w.heap.size #[u0,u1,u2] 102
 ds:bZ wx dv ns
 src:∃N,cZ prog 134 wx iv N (im gW)
 old:(∀b,dv.ownBlock=some b->b<w.heap.size)/\∀b,iv=.map (some b)->b<w.heap.size
 below:Below w.heap.size w wx
section
variable{w:World}{iv dv:Value}{gW:Nat->Option Value}{ns:List Nat}{ib cb lb B:Nat}{S S':Nat->Prop}{It:Nat->Option Value}{wx wy:World}
theorem OM.mono(h:OM w iv dv gW ns ib cb lb B S It wx)(hb:Below wx.heap.size wx wy):OM w iv dv gW ns ib cb lb B S It wy:=by obtain⟨u0,u1,u2,hr⟩:=h.r0;obtain⟨N,hN⟩:=h.src;exact⟨h.st.below hb,h.new,h.apart,h.bx.below hb,⟨u0,u1,u2,hr.below hb⟩,h.ds.below hb,⟨N,hN.below hb⟩,h.old,h.below.trans (hb.mono h.below.size)⟩
theorem OM.YW{M:Nat->Prop}(h:OM w iv dv gW ns ib cb lb B S It wx)(hM:∀k,M k->w.heap.size<k/\k≠B)(hs:aN wy ib cb lb S' It)(hg:ay M wx wy):OM w iv dv gW ns ib cb lb B S' It wy:=by obtain⟨u0,u1,u2,hr⟩:=h.r0;obtain⟨N,hN⟩:=h.src;refine⟨hs,h.new,h.apart,h.bx.aJ hg (λm=>(hM _ m).2 rfl),⟨u0,u1,u2,hr.aJ hg (λm=>by have:=hM _ m;omega)⟩,h.ds.aJ hg (λb hb m=>by have:=hM _ m;have:=h.old.1 b hb;omega),⟨N,hN.aJ hg (λb hb m=>by have:=hM _ m;have:=h.old.2 b hb;omega)⟩,h.old, ?_⟩;exact h.below.trans ⟨hg.os,hg.tape,hg.output,hg.size,λk hk=>hg.block k (Nat.lt_of_lt_of_le hk h.below.size) (λm=>by have:=hM _ m;omega)⟩
theorem OM.turn{r:Nat}(h:OM w iv dv gW ns ib cb lb B S It wx)(hg:wx.grownBy wy (some r))(hr:w.heap.size<r/\r≠ib/\r≠cb/\r≠lb/\r≠B):OM w iv dv gW ns ib cb lb B S It wy:=by have hc:ay (λk=>k=r) wx wy:=(ay.refl _ wx).grown hg (λk e=>by cases e;exact Or.inl rfl);exact h.YW (λk m=>by subst m;exact⟨hr.1,hr.2.2.2.2⟩) (h.st.aJ hc (λe=>hr.2.1 e.symm) (λe=>hr.2.2.1 e.symm) (λe=>hr.2.2.2.1 e.symm)) hc
theorem OM.iff(h:OM w iv dv gW ns ib cb lb B S It wx)(hS:∀n,1<=nth n->(S' n↔S n)):OM w iv dv gW ns ib cb lb B S' It wx :=
 ⟨⟨h.st.ctx.iff hS,h.st.its,h.st.ne,λn hn=>by have:=h.st.ok n hn;exact⟨this.1,(hS n this.1.2.1).2 this.2⟩⟩,h.new,h.apart,h.bx,h.r0,h.ds,h.src,h.old,h.below⟩
theorem OM.add{n:Nat}(h:OM w iv dv gW ns ib cb lb B S It wx)(hc:jd wy cb lb (λk=>S k\/k=n))(hg:ay (λk=>k=cb\/k=lb) wx wy):OM w iv dv gW ns ib cb lb B (λk=>S k\/k=n) It wy:=by have hn:=h.new;have ha:=h.apart;have hi:=h.st.ne;exact h.YW (M:=λk=>k=cb\/k=lb) (λk m=>by omega) ⟨hc,h.st.its.imp λN g=>g.block (hg.block _ g.lt (by omega)),hi,λk hk=>by have:=h.st.ok k hk;exact⟨this.1,Or.inl this.2⟩⟩ hg
end
open Classical in
noncomputable def kN(It:Nat->Option Value)(left:Value->Prop):Nat->Option Value:=λk=>if left (aP k)then none else It k
theorem Jc(It:Nat->Option Value):kN It (λkey=>(im It key).isSome=true)=λ_=>none:=by
 funext k;unfold kN;by_cases h:(im It (aP k)).isSome=true
 ·exact if_pos h
 ·refine(if_neg h).trans ?_;rw[iC]at h;cases hk:It k with
  | none=>rfl
  | some v=>rw[hk]at h;exact absurd rfl h
theorem Me{left:Value->Prop}(h:∀key,¬left key):kN It left=It:=by funext k;unfold kN;rw[if_neg (h _)]
theorem MB{left:Value->Prop}{n:Nat}(hI:It n=some v):kN It (λy=>left y/\¬y=aP n)=λk=>if k=n then some v else kN It left k:=by
 funext k;unfold kN;by_cases e:k=n
 ·subst e;rw[if_neg (λh=>h.2 rfl),if_pos rfl,hI]
 ·have:¬(aP k=aP n):=λh=>e (gI h);rw[if_neg e];by_cases hl:left (aP k)
  ·rw[if_pos ⟨hl,this⟩,if_pos hl]
  ·rw[if_neg (λh=>hl h.1),if_neg hl]
theorem Jd(w:World)(io:Option Nat)(dv:Value)(gW:Nat->Option Value)(ns:List Nat)(N0:Nat)(hI:cZ prog 134 w (.map io) N0 (im gW))(hIv:∀n v,gW n=some v->rV v)(hIo:∀n,gW n≠none->okD n)(hd:bZ w dv ns)(hl:ns.length<=1000000)(hns:∀n∈ns,okD n):Calls prog 147 #[.map io,dv] w λe w'=>∃ib cb lb,e=.returned (.agg #[.map (some ib),.map (some cb),.map (some lb)])/\aN w' ib cb lb (λn=>gW n≠none\/n∈ns) gW/\(w.heap.size<=ib/\w.heap.size<=cb/\w.heap.size<=lb)/\Below w.heap.size w w':=by
 have hmm:=@run_makeMap prog;have HD:Hid (bZ w dv ns):=hd;have HI:Hid (cZ prog 134 w (.map io) N0 (im gW)):=hI;have Hdb:Hid (∀b,dv.ownBlock=some b->b<w.heap.size):=by
  rcases hd with⟨rfl,_⟩|⟨b,off,cap,rfl,_,h3,_⟩
  ·intro b hb;cases hb
  ·intro b' hb;cases hb;exact h3
 have hshape:∃ao cap,dv=.slice ao ns.length cap/\ns.length<=cap:=by
  rcases hd with⟨rfl,rfl⟩|⟨b,off,cap,rfl,h2,_⟩
  ·exact⟨none,0,rfl,Nat.le_refl _⟩
  ·exact⟨_,cap,rfl,h2⟩
 obtain⟨ao,cap,hdv,hcap⟩:=hshape;have U9:Hid (∀n∈ns,okD n):=hns;have Hvv:Hid (∀n v,gW n=some v->rV v):=hIv;have Ai:Hid (∀n,gW n≠none->okD n):=hIo;clear hd hns hI hIv hIo;subst hdv;go_enter func147,ntmps147;go_wp2_with fail;refine Calls.mono (yE _) ?_;rintro e w1⟨cb,lb,rfl,hc1,hcb,hlb,hb1⟩;have HG0:Hid (∀ob,ob=.cells #[.map (some (w.heap.size+1)),.map (some cb),.map (some lb)] 102->OM w (.map io) (.slice ao ns.length cap) gW ns (w.heap.size+1) cb lb w1.heap.size (λ_=>False) (λ_=>none) (w1.alloc ob)):=λob hob=>by
  subst hob;have e1:(w.alloc (.cells #[.map none,.map none,.map none] 102)).heap.size=w.heap.size+1:=by simp
  have e2:((w.alloc (.cells #[.map none,.map none,.map none] 102)).alloc (.map #[] 0)).heap.size=w.heap.size+2:=by simp
  have m1:=bM.made (w.alloc (.cells #[.map none,.map none,.map none] 102)) prog 134;rw[e1]at m1;rw[e2]at hcb hlb hb1;have hs:=hb1.size;have m1':bM prog 134 w1 (w.heap.size+1) 0 (λ_=>none):=m1.block (hb1.block _ (by omega));have hr:aA w1 w.heap.size #[.map none,.map none,.map none] 102:=(hb1.block _ (by omega)).trans ((aA.new w _ _).alloc _);have hbw:Below w.heap.size w w1:=(((Below.refl _ w).alloc (Nat.le_refl _) _).alloc (by simp) _).trans (hb1.mono (by omega));have hz:=(Below.refl _ w1).alloc (Nat.le_refl _) (.cells #[.map (some (w.heap.size+1)),.map (some cb),.map (some lb)] 102);have hx:=hc1.below hz;have hlt:=hc1.lt;refine⟨⟨hx,⟨0,by rw[ug];exact m1'.block (hz.block _ m1'.lt)⟩,by omega,λn hn=>absurd rfl hn⟩,by omega,by omega,aA.new w1 _ _,⟨_,_,_,hr.below hz⟩,HD.out.below (hbw.trans (hz.mono hbw.size)),⟨N0,HI.out.below (hbw.trans (hz.mono hbw.size))⟩,⟨Hdb.out,HI.out.lt⟩,hbw.trans (hz.mono hbw.size)⟩
 clear HD HI hc1 hcb hlb hb1 hmm;have hG:=HG0.out _ rfl;have HG:Hid (OM w (.map io) (.slice ao ns.length cap) gW ns (w.heap.size+1) cb lb w1.heap.size (λ_=>False) (λ_=>none) _):=hG;obtain⟨Ni,hNi⟩:=hG.src;have ak8:w1.heap.size<(w1.alloc (.cells #[.map (some (w.heap.size+1)),.map (some cb),.map (some lb)] 102)).heap.size:=by simp
 have hgn:=hG.new;have ae8:=hG.st.lt;clear HG0 hG;simp only[World.size_alloc]at ae8;go_wp2_with (first|(at_range;refine fO rfl (.tmp 13) 96 rfl 86 iU underlying96 rfl hNi ?_;intro w3 hr3 hg3 hs3;have hJ3:OM w (.map io) (.slice ao ns.length cap) gW ns (w.heap.size+1) cb lb w1.heap.size (λ_=>False) (λ_=>none) w3:=(HG.out.mono ((Below.refl _ _).grown hg3 (Nat.le_refl _) (λk e=>by cases e)));rw[World.size_alloc]at hr3⊢;clear HG hNi hg3 hs3;go_frame));go_loopg [6] Ni (λg v6 wx=>∃(left:Value->Prop)(q:Nat),g=q/\aU prog 134 wx (.map io) (w1.heap.size+1) Ni (im gW) left q/\OM w (.map io) (.slice ao ns.length cap) gW ns (w.heap.size+1) cb lb w1.heap.size (λk=>kN gW left k≠none) (kN gW left) wx);case atStart =>refine⟨_,_,rfl,hr3, ?_⟩;rw[Jc];exact hJ3.iff (λn _=>by simp)
 case round =>
  obtain⟨left,q,hq,hR,hJ⟩:=hrel;have HR:Hid (aU prog 134 wr (.map io) (w1.heap.size+1) Ni (im gW) left q):=hR;have HJ:Hid (OM w (.map io) (.slice ao ns.length cap) gW ns (w.heap.size+1) cb lb w1.heap.size (λk=>kN gW left k≠none) (kN gW left) wr):=hJ;have vk:Hid (∀key v,left key->im gW key=some v->∃x:Nat×ByteArray×Int×ByteArray×Int,key=(λx:Nat×ByteArray×Int×ByteArray×Int=>aP x.1) x/\v=(λx:Nat×ByteArray×Int×ByteArray×Int=>Value.agg #[.string x.2.1,.int .u8 x.2.2.1,.string x.2.2.2.1,.int .i64 x.2.2.2.2]) x):=λkey v _ hk=>by obtain⟨n,h1,h2⟩:=mW hk;obtain⟨s0,x1,s2,x3,h3⟩:=Hvv.out n v h2;exact⟨(n,s0,x1,s2,x3),h1,h3⟩
  clear hR hJ hr3 hJ3;go_wp2_with (first|(at_next;(refine gu rfl (.tmp 14) rfl iU (λx:Nat×ByteArray×Int×ByteArray×Int=>aP x.1) (λx:Nat×ByteArray×Int×ByteArray×Int=>Value.agg #[.string x.2.1,.int .u8 x.2.2.1,.string x.2.2.2.1,.int .i64 x.2.2.2.2]) rfl HR.out vk.out ?_ ?_)))
  ·intro hl0;have hK:OM w (.map io) (.slice ao ns.length cap) gW ns (w.heap.size+1) cb lb w1.heap.size (λk=>gW k≠none\/k∈ns.take 0) gW wr:=by have:=HJ.out;rw[Me hl0]at this;exact this.iff (λn _=>by simp)
   have HK:Hid (OM w (.map io) (.slice ao ns.length cap) gW ns (w.heap.size+1) cb lb w1.heap.size (λk=>gW k≠none\/k∈ns.take 0) gW wr):=hK;clear HR HJ vk hK;go_wp2_with fail;go_loopg [30] ns.length (λg v30 wx=>∃i:Nat,i+g=ns.length/\v30=.int .i64 i/\OM w (.map io) (.slice ao ns.length cap) gW ns (w.heap.size+1) cb lb w1.heap.size (λk=>gW k≠none\/k∈ns.take i) gW wx);case atStart=>exact⟨0,by omega,rfl,HK.out⟩
   case round =>
    obtain⟨i,hig,rfl,hG⟩:=hrel;have HG:Hid (OM w (.map io) (.slice ao ns.length cap) gW ns (w.heap.size+1) cb lb w1.heap.size (λk=>gW k≠none\/k∈ns.take i) gW wr):=hG;clear HK;by_cases hi:i<ns.length
    ·obtain⟨b,off,cap',hv,hcap',hb,hcells⟩:=hG.ds.resolve_left (λh=>by rw[h.2]at hi;simp at hi);simp only[Value.slice.injEq]at hv;obtain⟨rfl,_,rfl⟩:=hv;have k0:=(hcells i hi).1;have k1:=(hcells i hi).2;have hni:=U9.out _ (List.getElem_mem hi);have hall:ns.take (i+1)=ns.take i++[ns[i]]:=List.take_succ_eq_append_getElem hi;have b1A:∀o,(wr.alloc o).cell? ⟨w1.heap.size,1,none⟩=some (.map (some cb)):=λo=>((HG.out.bx.alloc o).cell 1).trans rfl;have b2A:∀o,(wr.alloc o).cell? ⟨w1.heap.size,2,none⟩=some (.map (some lb)):=λo=>((HG.out.bx.alloc o).cell 2).trans rfl;have Aq:Hid (∀wx,Below wr.heap.size wr wx->Calls prog 201 #[.agg #[.map (some cb),.map (some lb)],aP ns[i]] wx λe w'=>e=.returned (.tuple #[])/\OM w (.map io) (.slice (some ⟨b,off,none⟩) ns.length cap) gW ns (w.heap.size+1) cb lb w1.heap.size (λk=>gW k≠none\/k∈ns.take (i+1)) gW w'):=λwx hb=>by have hG':=HG.out.mono hb;refine Calls.mono (add_any wx cb lb ns[i] _ hG'.st.ctx hni) ?_;rintro e w'⟨rfl,h1,h2⟩;exact⟨rfl,(hG'.add h1 h2).iff (λn _=>by rw[hall,List.mem_append,List.mem_singleton,or_assoc])⟩
     generalize ns[i]=n at *;clear hG hcells;go_wp2_with fail;refine Calls.mono (Aq.out _ ?_) ?_
     ·go_grown
     rintro e w7⟨rfl,hG7⟩;have HG7:Hid (OM w (.map io) (.slice (some ⟨b,off,none⟩) ns.length cap) gW ns (w.heap.size+1) cb lb w1.heap.size (λk=>gW k≠none\/k∈ns.take (i+1)) gW w7):=hG7;clear hG7 Aq b1A b2A k0 k1;go_wp2_with fail;go_roundg (ns.length-(i+1));case measure=>omega
     case rel=>exact⟨i+1,by omega,by go_num,HG7.out⟩
    ·have b0:=(hG.bx.cell 0).trans rfl;have b1:=(hG.bx.cell 1).trans rfl;have b2:=(hG.bx.cell 2).trans rfl;obtain⟨u0,u1,u2,hr⟩:=hG.r0;have r0:=(hr.cell 0).trans rfl;have r1:=(hr.cell 1).trans rfl;have r2:=(hr.cell 2).trans rfl;have f0:=hr.frozen;have hw:=hG.below.size;have hn:=hG.new;have HF:Hid (∀wx,ay (λk=>k=w.heap.size) wr wx->aN wx (w.heap.size+1) cb lb (λn=>gW n≠none\/n∈ns) gW):=λwx hc=>by have h:=HG.out.st.aJ hc (by omega) (by omega) (by omega);rw[List.take_of_length_le (by omega)]at h;exact h
     have HB:Hid (Below w.heap.size w wr):=HG.out.below;clear hG hr;go_wp2_with fail;refine bodyPost_ret (v:=.agg #[.map (some (w.heap.size+1)),.map (some cb),.map (some lb)]) (by simp[results,Tryz.results147,go_sem,r0,r1,r2,bQ,aK,World.cell?_setCell_other]) rfl ⟨_,_,_,rfl,HF.out _ ?_,by omega, ?_⟩
     ·exact(((ay.refl (λk=>k=w.heap.size) wr).setCell (p:=⟨w.heap.size,0,none⟩) rfl _).setCell (p:=⟨w.heap.size,1,none⟩) rfl _).setCell (p:=⟨w.heap.size,2,none⟩) rfl _
     ·exact((HB.out.setCell (p:=⟨w.heap.size,0,none⟩) (Nat.le_refl _) _).setCell (p:=⟨w.heap.size,1,none⟩) (Nat.le_refl _) _).setCell (p:=⟨w.heap.size,2,none⟩) (Nat.le_refl _) _
  ·intro n s0 x1 s2 x3 w4 q4 hlk hmk ni hlt4 hg4 hs4 Wh;have hIn:gW n=some (.agg #[.string s0,.int .u8 x1,.string s2,.int .i64 x3]):=by rw[<- iC gW n];exact hmk
   have hok:=Ai.out n (by rw[hIn];simp);obtain⟨kl,hkl⟩:=keyE n (by have:=hok.1;omega);have hrl:w1.heap.size+1<w4.heap.size:=by have:=HR.out.lt;omega
   have Ey:Hid (OM w (.map io) (.slice ao ns.length cap) gW ns (w.heap.size+1) cb lb w1.heap.size (λk=>kN gW left k≠none) (kN gW left) w4):=HJ.out.turn hg4 (by omega);have HR4:Hid (aU prog 134 w4 (.map io) (w1.heap.size+1) Ni (im gW) (λy=>left y/\¬y=aP n) q4):=ni;have HM:Hid (kN gW (λy=>left y/\¬y=aP n)=λk=>if k=n then some (.agg #[.string s0,.int .u8 x1,.string s2,.int .i64 x3])else kN gW left k):=MB hIn;have hbz:Below w4.heap.size w4 ((w4.alloc (.cells #[.int .i64 (who n),.int .i64 (nth n)] 134)).alloc (.cells #[.string s0,.int .u8 x1,.string s2,.int .i64 x3] 86)):=by go_grown
   have HJz:Hid (∀ob ob',OM w (.map io) (.slice ao ns.length cap) gW ns (w.heap.size+1) cb lb w1.heap.size (λk=>kN gW left k≠none) (kN gW left) ((w4.alloc ob).alloc ob')):=λob ob'=>Ey.out.mono (((Below.refl _ w4).alloc (Nat.le_refl _) ob).alloc (by simp) ob');have HRz:Hid (∀ob ob',aU prog 134 ((w4.alloc ob).alloc ob') (.map io) (w1.heap.size+1) Ni (im gW) (λy=>left y/\¬y=aP n) q4):=λob ob'=>HR4.out.aJ (M:=λ_=>False) (ay.of_below (((Below.refl _ w4).alloc (Nat.le_refl _) ob).alloc (by simp) ob')) (λ_ _ h=>h) (λh=>h);have kdz:Hid (∀ob',aA ((w4.alloc (.cells #[.int .i64 (who n),.int .i64 (nth n)] 134)).alloc ob') w4.heap.size #[.int .i64 (who n),.int .i64 (nth n)] 134):=λob'=>(aA.new w4 _ _).alloc _;have b0A:∀o o',((w4.alloc o).alloc o').cell? ⟨w1.heap.size,0,none⟩=some (.map (some (w.heap.size+1))):=λo o'=>(((Ey.out.bx.alloc o).alloc o').cell 0).trans rfl;obtain⟨Nj,MC⟩:=Ey.out.st.its;have hNb:Nj<=3072:=je MC (λk hk=>(Ey.out.st.ok k hk).1);have hmx:Nj<maxLen:=by unfold maxLen;omega
   have HNj:Hid (∀o o',bM prog 134 ((w4.alloc o).alloc o') (w.heap.size+1) Nj (im (kN gW left))):=λo o'=>MC.block ((((Below.refl _ w4).alloc (Nat.le_refl _) o).alloc (by simp) o').block _ MC.lt);clear ni hg4 HR HJ vk MC hbz;have ak9:=Ey.out.st.ne;have al0:=Ey.out.apart;have hn4:=Ey.out.new;have ae9:=Ey.out.old.2;have HP:Hid (∀o o' w6 N6,((w4.alloc o).alloc o').grownBy w6 (some (w.heap.size+1))->bM prog 134 w6 (w.heap.size+1) N6 (upd (im (kN gW left)) (aP n) (.agg #[.string s0,.int .u8 x1,.string s2,.int .i64 x3]))->∀w7,jd w7 cb lb (λk=>kN gW left k≠none\/k=n)->ay (λk=>k=cb\/k=lb) w6 w7 ->
     OM w (.map io) (.slice ao ns.length cap) gW ns (w.heap.size+1) cb lb w1.heap.size (λk=>kN gW (λy=>left y/\¬y=aP n) k≠none) (kN gW (λy=>left y/\¬y=aP n)) w7/\aU prog 134 w7 (.map io) (w1.heap.size+1) Ni (im gW) (λy=>left y/\¬y=aP n) q4):=λo o' w6 N6 eG xI w7 V9 vw=>by
    have Io:=HJz.out o o';have hcg:ay (λk=>k=w.heap.size+1) ((w4.alloc o).alloc o') w6:=(ay.refl _ _).grown eG (λk e=>by cases e;exact Or.inl rfl);have hct:ay (λk=>k=w.heap.size+1\/k=cb\/k=lb) ((w4.alloc o).alloc o') w7:=ay.trans (b:=w6) ⟨hcg.os,hcg.tape,hcg.output,hcg.size,λk hk hm=>hcg.block k hk (λe=>hm (Or.inl e))⟩ ⟨vw.os,vw.tape,vw.output,vw.size,λk hk hm=>vw.block k hk (λe=>hm (Or.inr e))⟩;constructor
    ·obtain⟨u0,u1,u2,hr⟩:=Io.r0;obtain⟨N,hN⟩:=Io.src;have hM:∀k,(k=w.heap.size+1\/k=cb\/k=lb)->w.heap.size<k/\k≠w1.heap.size:=λk m=>by omega
     refine⟨⟨V9.iff (λk _=>?_),⟨N6, ?_⟩,Io.st.ne,λk hk=>?_⟩,Io.new,Io.apart,Io.bx.aJ hct (λm=>(hM _ m).2 rfl),⟨u0,u1,u2,hr.aJ hct (λm=>by have:=hM _ m;omega)⟩,Io.ds.aJ hct (λb hb m=>by have:=hM _ m;have:=Io.old.1 b hb;omega),⟨N,hN.aJ hct (λb hb m=>by have:=hM _ m;have:=Io.old.2 b hb;omega)⟩,Io.old, ?_⟩
     ·rw[HM.out];by_cases e:k=n
      ·subst e;simp
      ·simp[e]
     ·rw[HM.out,<- Dt];exact xI.block (vw.block _ xI.lt (by omega))
     ·rw[HM.out]at hk;by_cases e:k=n
      ·subst e;exact⟨hok,by rw[HM.out];simp⟩
      ·have hk2:kN gW left k≠none:=by simpa[e]using hk
       exact⟨(Io.st.ok k hk2).1,by rw[HM.out];simpa[e]using hk2⟩
     ·exact Io.below.trans ⟨hct.os,hct.tape,hct.output,hct.size,λk hk=>hct.block k (Nat.lt_of_lt_of_le hk Io.below.size) (λm=>by have:=hM _ m;omega)⟩
    ·exact(HRz.out o o').aJ hct (λb hb m=>by have:=ae9 b hb;omega) (by omega)
   have HC:Hid (∀o o' w6,((w4.alloc o).alloc o').grownBy w6 (some (w.heap.size+1))->jd w6 cb lb (λk=>kN gW left k≠none)/\aA w6 w1.heap.size #[.map (some (w.heap.size+1)),.map (some cb),.map (some lb)] 102):=λo o' w6 eG=>by have Io:=HJz.out o o';have hcg:ay (λk=>k=w.heap.size+1) ((w4.alloc o).alloc o') w6:=(ay.refl _ _).grown eG (λk e=>by cases e;exact Or.inl rfl);exact⟨Io.st.ctx.aJ hcg (by omega) (by omega),Io.bx.grown eG (by omega)⟩
   have HKD:Hid (∀o' w6,((w4.alloc (.cells #[.int .i64 (who n),.int .i64 (nth n)] 134)).alloc o').grownBy w6 (some (w.heap.size+1))->aA w6 wr.heap.size #[.int .i64 (who n),.int .i64 (nth n)] 134):=λo' w6 eG=>by rw[<- hs4];exact(kdz.out o').grown eG (by omega)
   clear HJz HRz kdz Ey HR4;go_wp2_with (first|(at_mapUpdate;(refine gq rfl (.tmp 21) (.tmp 22) (.tmp 23) 96 rfl 86 iU underlying96 rfl (HNj.out _ _) hmx (aP n) (.agg #[.string s0,.int .u8 x1,.string s2,.int .i64 x3]) _ rfl rfl hkl ?_;intro w6 xI eG hs6;have hP:=HP.out _ _ _ _ eG xI;have oO:=HC.out _ _ _ eG;have kd6:=HKD.out _ _ eG;have b1:=(oO.2.cell 1).trans rfl;have b2:=(oO.2.cell 2).trans rfl;have d0:=(kd6.cell 0).trans rfl;have d1:=(kd6.cell 1).trans rfl;have HP6:Hid (_):=hP;clear hP)));refine Calls.mono (add_any w6 cb lb n _ oO.1 hok) ?_;rintro e w7⟨rfl,V9,vw⟩;have HQ:Hid (_):=HP6.out w7 V9 vw;clear oO kd6 b1 b2 d0 d1 HP6 V9 vw;go_wp2_with fail;go_roundg q4;case measure=>omega
   case rel=>exact⟨_,q4,rfl,HQ.out.2,HQ.out.1⟩
theorem Je{P:Program}{k:TypeId}{b:Nat}{ops:Array Oper}{rest:List Oper}{o:Oper}{a:Act}{Q:Exit->Act->World->Prop}(hg:o.guard=none)(mo x v:Operand)(t:TypeId)(hop:o.op=Op.insert t mo x v)(e:TypeId)(K:Keyed P k)(ht:P.underlying t=some (.map k e))(hm:a.eval mo=.map (some b))(h:bM P k w b N m)(hn:N<maxLen)(key val:Value)(kl:Lit)(hx:a.eval x=key)(hv:a.eval v=val)(hk:keyOf P k key=some kl)(hK:∀w',bM P k w' b (if(m key).isSome then N else N+1) (upd m key val)->w.grownBy w' (some b)->w'.heap.size=w.heap.size->wpList P ops Q rest (a.put o.dst undef) w'):wpList P ops Q (o::rest) a w:=by refine wpList_plain hg λK' hK'=>?_;obtain⟨w',hrun,r1,r2,r3⟩:=h.store K ht hn val hk;unfold Oper.wp;simp[execOp,hop,hm,hx,hv,hrun,Result.andThen];exact hK' _ _ (hK w' r1 r2 r3)
theorem pY(w:World)(dv:Value)(ns:List Nat)(hd:bZ w dv ns)(hl:ns.length<=1000000)(hns:∀n∈ns,okD n):Calls prog 88 #[dv] w λe w'=>∃ib cb lb,e=.returned (.agg #[.map (some ib),.map (some cb),.map (some lb)])/\aN w' ib cb lb (λn=>n∈ns) (λ_=>none)/\(w.heap.size<=ib/\w.heap.size<=cb/\w.heap.size<=lb)/\Below w.heap.size w w':=by
 have hshape:∃ao cap,dv=.slice ao ns.length cap:=by
  rcases hd with⟨rfl,rfl⟩|⟨b,off,cap,rfl,h2,_⟩
  ·exact⟨none,0,rfl⟩
  ·exact⟨_,cap,rfl⟩
 obtain⟨ao,cap,hdv⟩:=hshape;subst hdv;have YX:Hid (∀ob,Calls prog 147 #[.map none,.slice ao ns.length cap] (w.alloc ob) λe w'=>∃ib cb lb,e=.returned (.agg #[.map (some ib),.map (some cb),.map (some lb)])/\aN w' ib cb lb (λn=>n∈ns) (λ_=>none)/\(w.heap.size<ib/\w.heap.size<cb/\w.heap.size<lb)/\Below (w.heap.size+1) (w.alloc ob) w'):=λob=>by have hb:Below w.heap.size w (w.alloc ob):=(Below.refl _ w).alloc (Nat.le_refl _) _;refine Calls.mono (Jd (w.alloc ob) none (.slice ao ns.length cap) (λ_=>none) ns 0 (Or.inl ⟨rfl,rfl,ug⟩) (λn v h=>by cases h) (λn h=>absurd rfl h) (hd.below hb) hl hns) ?_;rintro e w'⟨ib,cb,lb,rfl,h1,h2,h3⟩;simp only[World.size_alloc]at h2 h3;refine⟨ib,cb,lb,rfl,⟨h1.ctx.iff (λn _=>by simp),h1.its,h1.ne,λn hn=>absurd rfl hn⟩,by omega,h3⟩
 clear hd hns;go_enter func88,ntmps88;go_wp2_with fail;refine Calls.mono (YX.out _) ?_;rintro e w1⟨ib,cb,lb,rfl,hst,hn,hb⟩;have kr:aA w1 w.heap.size #[.map none,.map none,.map none] 102:=(hb.block _ (by omega)).trans (aA.new w _ _);have r0:=(kr.cell 0).trans rfl;have r1:=(kr.cell 1).trans rfl;have r2:=(kr.cell 2).trans rfl;have f0:=kr.frozen;have HB:Hid (Below w.heap.size w w1):=((Below.refl _ w).alloc (Nat.le_refl _) _).trans (hb.mono (by omega));have HS:Hid (aN w1 ib cb lb (λn=>n∈ns) (λ_=>none)):=hst;clear hst hb kr YX;go_wp2_with fail;refine bodyPost_ret (v:=.agg #[.map (some ib),.map (some cb),.map (some lb)]) (by simp[results,Tryz.results88,go_sem,r0,r1,r2,bQ,aK,World.cell?_setCell_other]) rfl ⟨_,_,_,rfl,HS.out.aJ (M:=λk=>k=w.heap.size) ?_ (by omega) (by omega) (by omega),by omega, ?_⟩
 ·exact(((ay.refl (λk=>k=w.heap.size) w1).setCell (p:=⟨w.heap.size,0,none⟩) rfl _).setCell (p:=⟨w.heap.size,1,none⟩) rfl _).setCell (p:=⟨w.heap.size,2,none⟩) rfl _
 ·exact((HB.out.setCell (p:=⟨w.heap.size,0,none⟩) (Nat.le_refl _) _).setCell (p:=⟨w.heap.size,1,none⟩) (Nat.le_refl _) _).setCell (p:=⟨w.heap.size,2,none⟩) (Nat.le_refl _) _
theorem TU(w:World)(n:Nat)(c0 c1 c2 c3:Value)(hn:okD n)(hsh:∃s0 x1 s2 x3,c0=.string s0/\c1=.int .u8 x1/\c2=.string s2/\c3=.int .i64 x3):Calls prog 91 #[aP n,.agg #[c0,c1,c2,c3]] w λe w'=>∃ib cb lb,e=.returned (.agg #[.map (some ib),.map (some cb),.map (some lb)])/\aN w' ib cb lb (λk=>k=n) (λk=>if k=n then some (.agg #[c0,c1,c2,c3])else none)/\(w.heap.size<=ib/\w.heap.size<=cb/\w.heap.size<=lb)/\Below w.heap.size w w':=by
 obtain⟨s0,x1,s2,x3,rfl,rfl,rfl,rfl⟩:=hsh;obtain⟨kl,hkl⟩:=keyE n (by have:=hn.1;omega);have hmm:=@run_makeMap prog;have HM:Hid (∀o1 o2 o3,bM prog 134 ((((w.alloc o1).alloc o2).alloc o3).alloc (.map #[] 0)) (w.heap.size+1+1+1) 0 (λ_=>none)):=λo1 o2 o3=>by have:=bM.made (((w.alloc o1).alloc o2).alloc o3) prog 134;simpa using this
 have YX:Hid (∀wx N m,bM prog 134 wx (w.heap.size+1+1+1) N m->m=upd (λ_=>none) (aP n) (.agg #[.string s0,.int .u8 x1,.string s2,.int .i64 x3])->Calls prog 147 #[.map (some (w.heap.size+1+1+1)),.slice none 0 0] wx λe w'=>∃ib cb lb,e=.returned (.agg #[.map (some ib),.map (some cb),.map (some lb)])/\aN w' ib cb lb (λk=>k=n) (λk=>if k=n then some (.agg #[.string s0,.int .u8 x1,.string s2,.int .i64 x3])else none)/\(wx.heap.size<=ib/\wx.heap.size<=cb/\wx.heap.size<=lb)/\Below wx.heap.size wx w'):=λwx N m hm he=>by
  have hmi:m=im (λk=>if k=n then some (.agg #[.string s0,.int .u8 x1,.string s2,.int .i64 x3])else none):=by rw[he,<- ug,Dt]
  rw[hmi]at hm;refine Calls.mono (Jd wx (some (w.heap.size+1+1+1)) (.slice none 0 0) _ [] N (Or.inr ⟨_,rfl,hm⟩) (λk v h=>?_) (λk h=>?_) (Or.inl ⟨rfl,rfl⟩) (by simp) (λk hk=>by cases hk)) ?_
  ·split at h
   ·cases h;exact⟨_,_,_,_,rfl⟩
   ·cases h
  ·by_cases e:k=n
   ·subst e;exact hn
   ·rw[if_neg e]at h;exact absurd rfl h
  ·rintro e w'⟨ib,cb,lb,rfl,h1,h2,h3⟩;refine⟨ib,cb,lb,rfl,⟨h1.ctx.iff (λk _=>?_),h1.its,h1.ne,λk hk=>?_⟩,h2,h3⟩
   ·by_cases e:k=n<;>simp[e]
   ·by_cases e:k=n
    ·subst e;exact⟨hn,rfl⟩
    ·rw[if_neg e]at hk;exact absurd rfl hk
 have kr:Hid (∀o1 o2,aA ((w.alloc o1).alloc o2 |>.alloc (.cells #[.map none,.map none,.map none] 102)) (w.heap.size+1+1) #[.map none,.map none,.map none] 102):=λo1 o2=>by have:=aA.new ((w.alloc o1).alloc o2) #[.map none,.map none,.map none] 102;simpa using this
 go_enter func91,ntmps91;go_wp2_with (first|(refine Je rfl (.tmp 5) (.tmp 6) (.tmp 7) 96 rfl 86 iU underlying96 rfl (HM.out _ _ _) (by unfold maxLen;omega) (aP n) (.agg #[.string s0,.int .u8 x1,.string s2,.int .i64 x3]) _ rfl rfl hkl ?_;intro w6 xI eG hs6;have kr6:=((kr.out _ _).alloc (.map #[] 0)).grown eG (by omega);have hb6:Below w.heap.size w w6:=(Below.grown (w:=((((w.alloc _).alloc _).alloc _).alloc (.map #[] 0))) (by go_grown) eG (by simp;omega) (λk e=>by cases e;omega))));refine Calls.mono (YX.out w6 _ _ xI rfl) ?_;rintro e w7⟨ib,cb,lb,rfl,hst,hnew,hb7⟩;have k7:=kr6.below hb7;have hs7:w.heap.size+1+1+1<w6.heap.size:=xI.lt;have r0:=(k7.cell 0).trans rfl;have r1:=(k7.cell 1).trans rfl;have r2:=(k7.cell 2).trans rfl;have f0:=k7.frozen;have HB:Hid (Below w.heap.size w w7):=hb6.trans (hb7.mono hb6.size);have HS:Hid (aN w7 ib cb lb (λk=>k=n) (λk=>if k=n then some (.agg #[.string s0,.int .u8 x1,.string s2,.int .i64 x3])else none)):=hst;clear hst hb7 kr6 k7 YX xI eG hb6 kr HM;go_wp2_with fail;refine bodyPost_ret (v:=.agg #[.map (some ib),.map (some cb),.map (some lb)]) (by simp[results,Tryz.results91,go_sem,r0,r1,r2,bQ,aK,World.cell?_setCell_other]) rfl ⟨_,_,_,rfl,HS.out.aJ (M:=λk=>k=w.heap.size+1+1) ?_ (by omega) (by omega) (by omega),by omega, ?_⟩
 ·exact(((ay.refl (λk=>k=w.heap.size+1+1) w7).setCell (p:=⟨w.heap.size+1+1,0,none⟩) rfl _).setCell (p:=⟨w.heap.size+1+1,1,none⟩) rfl _).setCell (p:=⟨w.heap.size+1+1,2,none⟩) rfl _
 ·exact((HB.out.setCell (p:=⟨w.heap.size+1+1,0,none⟩) (by show w.heap.size<=w.heap.size+1+1;omega) _).setCell (p:=⟨w.heap.size+1+1,1,none⟩) (by show w.heap.size<=w.heap.size+1+1;omega) _).setCell (p:=⟨w.heap.size+1+1,2,none⟩) (by show w.heap.size<=w.heap.size+1+1;omega) _
