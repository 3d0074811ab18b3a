import Derived.Laws.IdiomRangeMap
import Derived.Test.YtfmmllpjgkgeaaaGreatDoorPartV08
set_option linter.unusedVariables false
set_option linter.unusedSimpArgs false
set_option maxHeartbeats 16000000
set_option maxRecDepth 100000
namespace Go.Proofs.YtfmmllpjgkgeaaaGreatDoor
open Go.RowKit Go.Maps Go.WideMaps

theorem CG.drop {w:World} {B cb lb:Nat} {d N:Nat} {c:Nat->Nat} {L:Nat->Bool} {wx wy:World} (h:CG w B cb lb c L wx) (hg:wx.grownBy wy (some lb)) (hm:MapV Tryz.prog 134 wy lb N (era (lm L) (dotE d))):CG w B cb lb c (fun k=>L k && k != d) wy:=by
 obtain ⟨N',h1⟩:=h.ctx.cs
 refine h.grown hg (Or.inr rfl) ⟨⟨N',h1.kept hg (fun e=>h.ctx.ne (by cases e;rfl))⟩,⟨N,by rw[lm_era] at hm;exact hm⟩,h.ctx.ne,h.ctx.c501,h.ctx.c5,fun k hk=>h.ctx.l501 k (by simp at hk;exact hk.1)⟩
theorem CG.inc {w:World} {B cb lb a:Nat} {N:Nat} {c:Nat->Nat} {L:Nat->Bool} {wx wy:World} (h:CG w B cb lb c L wx) (hg:wx.grownBy wy (some cb)) (hm:MapV Tryz.prog 3 wy cb N (upd (cm c) (.int .i64 (a:Int)) (.int .i64 ((c a+1:Nat):Int)))) (ha:a<=5) (h1:c a+1<=501) (h2:L (mkD a (c a+1))=false):CG w B cb lb (Go.Proofs.YtfmmllpjgkgeaaaGreatDoor.inc c a) L wy:=by
 obtain ⟨N',h3⟩:=h.ctx.ls
 refine h.grown hg (Or.inl rfl) ⟨⟨N,by rw[cm_upd] at hm;exact hm⟩,⟨N',h3.kept hg (fun e=>h.ctx.ne (by cases e;rfl))⟩,h.ctx.ne,fun x=>?_,fun x hx=>?_,fun k hk=>?_⟩
 ·by_cases e:x=a
  ·subst e;rw[inc_same];exact h1
  ·rw[inc_oth e];exact h.ctx.c501 x
 ·by_cases e:x=a
  ·subst e;exact ha
  ·rw[inc_oth e] at hx;exact h.ctx.c5 x hx
 ·have:=h.ctx.l501 k hk
  refine ⟨this.1, ?_⟩
  by_cases e:who k=a
  ·rw[e,inc_same]
   have h4:=this.2
   rw[e] at h4
   rcases Nat.lt_or_ge (c a+1) (nth k) with h | h
   ·exact h
   ·have e2:k=mkD a (c a+1):=(dot_ext (by rw[who_mk (by omega),e]) (by rw[nth_mk (by omega)];omega))
    rw[e2,h2] at hk;cases hk
  ·rw[inc_oth e];exact this.2
theorem CG.put {w:World} {B cb lb:Nat} {d N:Nat} {c:Nat->Nat} {L:Nat->Bool} {wx wy:World} (h:CG w B cb lb c L wx) (hg:wx.grownBy wy (some lb)) (hm:MapV Tryz.prog 134 wy lb N (upd (lm L) (dotE d) unitV)) (h1:c (who d)<nth d) (h2:okD d):CG w B cb lb c (fun k=>L k || k == d) wy:=by
 obtain ⟨N',h3⟩:=h.ctx.cs
 refine h.grown hg (Or.inr rfl) ⟨⟨N',h3.kept hg (fun e=>h.ctx.ne (by cases e;rfl))⟩,⟨N,by rw[lm_upd] at hm;exact hm⟩,h.ctx.ne,h.ctx.c501,h.ctx.c5,fun k hk=>?_⟩
 simp at hk
 rcases hk with hk | hk
 ·exact h.ctx.l501 k hk
 ·subst hk;exact ⟨h2,h1⟩

def inK (c:Nat->Nat) (L:Nat->Bool) (d:Nat):Prop:=nth d<=c (who d)\/L d=true
structure SameD (a:Nat) (c:Nat->Nat) (L:Nat->Bool) (c':Nat->Nat) (L':Nat->Bool):Prop where
 same:∀ d,inK c' L' d↔inK c L d
 oc:∀ x,x≠a->c' x=c x
 ol:∀ d,who d≠a->L' d=L d
theorem SameD.refl (a:Nat) (c:Nat->Nat) (L:Nat->Bool):SameD a c L c L:=⟨fun _=>Iff.rfl,fun _ _=>rfl,fun _ _=>rfl⟩
theorem SameD.step {a:Nat} {c c':Nat->Nat} {L L':Nat->Bool} (h:SameD a c L c' L') (hl:L' (mkD a (c' a+1))=true) (h501:c' a+1<512):SameD a c L (inc c' a) (fun k=>L' k && k != mkD a (c' a+1)):=by
 refine ⟨fun d=>?_,fun x hx=>by rw[inc_oth hx];exact h.oc x hx,fun d hd=>?_⟩
 ·rw[<- h.same d]
  unfold inK
  simp only[Bool.and_eq_true,bne_iff_ne,ne_eq]
  by_cases e:who d=a
  ·rw[e,inc_same]
   constructor
   ·rintro (h | ⟨h,_⟩)
    ·by_cases e2:nth d=c' a+1
     ·right;rw[<- hl];congr 1;exact dot_ext (by rw[who_mk h501,e]) (by rw[nth_mk h501,e2])
     ·left;omega
    ·exact Or.inr h
   ·rintro (h | h)
    ·left;omega
    ·by_cases e2:d=mkD a (c' a+1)
     ·left;rw[e2,nth_mk h501];omega
     ·exact Or.inr ⟨h,e2⟩
  ·rw[inc_oth e]
   have hne:d≠mkD a (c' a+1):=fun e2=>e (by rw[e2,who_mk h501])
   constructor
   ·rintro (h | ⟨h,_⟩)
    ·exact Or.inl h
    ·exact Or.inr h
   ·rintro (h | h)
    ·exact Or.inl h
    ·exact Or.inr ⟨h,hne⟩
 ·have hne:d≠mkD a (c' a+1):=fun e2=>hd (by rw[e2,who_mk h501])
  simp[hne,h.ol d hd]

theorem closeGap_any (w:World) (cb lb a:Nat) (c:Nat->Nat) (L:Nat->Bool) (h:CtxW w cb lb c L) (a5:a<=5) :
  Calls Tryz.prog 248 #[.agg #[.map (some cb),.map (some lb)],.int .i64 (a:Int)] w fun e w'=>e=.returned (.tuple #[])/\∃ c' L',CtxW w' cb lb c' L'/\L' (mkD a (c' a+1))=false/\SameD a c L c' L'/\Chg (fun k=>k=cb\/k=lb) w w':=by
 have hk:=keyInt a (by omega)
 have HG:Hid (∀ ob,ob=.cells #[.map (some cb),.map (some lb)] 100->CG w w.heap.size cb lb c L (w.alloc ob)):=fun ob hob=>by
  subst hob
  have hb:Below w.heap.size w (w.alloc (.cells #[.map (some cb),.map (some lb)] 100)):=(Below.refl _ w).alloc (Nat.le_refl _) _
  exact ⟨h.below hb,World.cell?_alloc_at _ _ _ _ rfl,World.cell?_alloc_at _ _ _ _ rfl,h.lt,Nat.le_refl _,by simp,Chg.of_below hb⟩
 clear h
 go_enter Tryz.func248,Tryz.ntmps248
 go_wp2
 go_loopg [6] (501-c a) (fun g v6 wx=>∃ (c':Nat->Nat) (L':Nat->Bool),g=501-c' a/\CG w w.heap.size cb lb c' L' wx/\SameD a c L c' L')
 case atStart=>exact ⟨c,L,rfl,HG.out _ rfl,SameD.refl a c L⟩
 case round =>
  obtain ⟨c',L',hgc,hC,hS⟩:=hrel
  have HC:Hid (CG w w.heap.size cb lb c' L' wr):=hC
  have HS:Hid (SameD a c L c' L'):=hS
  have b0:=hC.b0
  have b1:=hC.b1
  have c501:=hC.ctx.c501 a
  have Hn:Hid (_):=next_any wr _ _ a c' L' hC.ctx.toV a5
  obtain ⟨ca,hca⟩:∃ ca,c' a=ca:=⟨_,rfl⟩
  have Hca:Hid (c' a=ca):=hca
  rw[hca] at Hn c501 hgc
  clear hC hS HG hca
  go_wp2_with fail
  refine Calls.mono Hn.out ?_
  rintro e w1 ⟨rfl,hb1⟩
  have HC1:Hid (CG w w.heap.size cb lb c' L' w1):=HC.out.below hb1
  have b0:=HC1.out.b0
  have b1:=HC1.out.b1
  have hlt:=HC1.out.lt
  have hw:=HC1.out.new
  have hm512:ca+1<512:=by omega
  have HE:Hid (dotV (a:Int) ((ca+1:Nat):Int)=dotE (mkD a (ca+1))):=dotV_mk hm512
  obtain ⟨kl,hkl⟩:=keyDot a (ca+1) (by omega) (by omega)
  have hu2:=lm_getD L' (dotV a (ca+1:Nat))
  have hc2:(lm L' (dotV a (ca+1:Nat))).isSome=L' (mkD a (ca+1)):=by rw[HE.out];exact lm_some _ _
  have hu:=cm_get a c'
  rw[Hca.out] at hu
  clear Hn hb1 HC
  obtain ⟨Nl,hNl⟩:=HC1.out.ctx.ls
  have hNb:Nl<=3072:=loose_bound hNl (fun n hn=>(HC1.out.ctx.l501 n hn).1)
  have HL:Hid (∀ wy,Below w1.heap.size w1 wy->MapV Tryz.prog 134 wy lb Nl (lm L')):=fun wy hb=>hNl.block (hb.block _ hNl.lt)
  have HCb:Hid (∀ wy,Below w1.heap.size w1 wy->CG w w.heap.size cb lb c' L' wy):=fun wy hb=>HC1.out.below hb
  clear hNl
  cases hl:L' (mkD a (ca+1)) with
  | false =>
   have Hl:Hid (L' (mkD a (c' a+1))=false):=by unfold Hid;rw[Hca.out];exact hl
   rw[hl] at hc2
   clear hl
   go_wp2_with (first | (at_lookup;refine wpList_look_ok rfl (.tmp 12) (.tmp 13) 98 rfl 69 kDot Tryz.underlying98 (zUnit _) rfl (HL.out _ ?_) (dotV a ((ca+1:Nat):Int)) kl rfl hkl _ hu2 _ hc2 ?_;(go_grown)))
   refine bodyPost_ret (results_none rfl _ _ _) rfl ?_
   refine ⟨rfl,c',L',(HCb.out _ ?_).ctx,Hl.out,HS.out,(HCb.out _ ?_).chg⟩ <;> go_grown
  | true =>
   have Hl:Hid (L' (mkD a (c' a+1))=true):=by unfold Hid;rw[Hca.out];exact hl
   have h501:ca+1<=501:=by have:=(HC1.out.ctx.l501 _ hl).1.2.2;rw[nth_mk hm512] at this;exact this
   rw[hl] at hc2
   clear hl
   have Hdrop:Hid (∀ wy wz N,Below w1.heap.size w1 wy->wy.grownBy wz (some lb)->MapV Tryz.prog 134 wz lb N (era (lm L') (dotV a (ca+1:Nat)))->CG w w.heap.size cb lb c' (fun k=>L' k && k != mkD a (c' a+1)) wz):=fun wy wz N hb hg hm=>by
    rw[HE.out,<- Hca.out] at hm
    exact CG.drop (HCb.out wy hb) hg hm
   have Hinc:Hid (∀ wy wz N,CG w w.heap.size cb lb c' (fun k=>L' k && k != mkD a (c' a+1)) wy->wy.grownBy wz (some cb)->MapV Tryz.prog 3 wz cb N (upd (cm c') (.int .i64 (a:Int)) (.int .i64 ((ca+1:Nat):Int)))->CG w w.heap.size cb lb (inc c' a) (fun k=>L' k && k != mkD a (c' a+1)) wz):=fun wy wz N hc hg hm=>by
    rw[<- Hca.out] at hm
    exact CG.inc hc hg hm a5 (by rw[Hca.out];exact h501) (by simp)
   go_wp2_with (first | (at_lookup;refine wpList_look_ok rfl (.tmp 12) (.tmp 13) 98 rfl 69 kDot Tryz.underlying98 (zUnit _) rfl (HL.out _ ?_) (dotV a ((ca+1:Nat):Int)) kl rfl hkl _ hu2 _ hc2 ?_;(go_grown)) | (at_delete;refine wpList_drop rfl (.tmp 20) (.tmp 21) 98 rfl 69 kDot Tryz.underlying98 rfl (HL.out _ ?_) (dotV a ((ca+1:Nat):Int)) kl rfl hkl ?_;(go_grown);intro w2 hm2 hg2 hs2;have hC2:CG w w.heap.size cb lb c' (fun k=>L' k && k != mkD a (c' a+1)) w2:=(by refine Hdrop.out _ _ _ ?_ hg2 hm2;go_grown);have HC2:Hid (CG w w.heap.size cb lb c' (fun k=>L' k && k != mkD a (c' a+1)) w2):=hC2;have b0:=hC2.b0;obtain ⟨Nc,hNc⟩:=hC2.ctx.cs;have hcb:Nc<=6:=counts_bound hNc hC2.ctx.c5;have hmx:Nc<maxLen:=(by unfold maxLen;omega);clear hC2) | (at_lookup;refine wpList_look rfl (.tmp 23) (.tmp 24) 97 rfl 3 kInt Tryz.underlying97 (zInt _) rfl hNc (.int .i64 (a:Int)) _ rfl hk _ hu ?_) | (at_mapUpdate;refine wpList_store rfl (.tmp 23) (.tmp 24) (.tmp 26) 97 rfl 3 kInt Tryz.underlying97 rfl hNc hmx (.int .i64 (a:Int)) (.int .i64 ((ca+1:Nat):Int)) _ rfl (by first | rfl | simp) hk ?_;intro w3 hm3 hg3 hs3;have hC3:CG w w.heap.size cb lb (inc c' a) (fun k=>L' k && k != mkD a (c' a+1)) w3:=(Hinc.out _ _ _ HC2.out hg3 hm3);go_frame))
   all_goals
    go_roundg (501-(ca+1))
    case measure=>omega
    case rel=>exact ⟨inc c' a,_,by rw[inc_same,Hca.out],hC3,HS.out.step Hl.out (by rw[Hca.out];exact hm512)⟩

def CtxS (w:World) (cb lb:Nat) (S:Nat->Prop):Prop:=∃ c L,CtxW w cb lb c L/\(∀ a,L (mkD a (c a+1))=false)/\∀ d,1<=nth d->(S d↔inK c L d)
def CtxR (w:World) (cv lv:Value) (S:Nat->Prop):Prop:=∃ c L,CtxV w cv lv c L/\(∀ a,L (mkD a (c a+1))=false)/\∀ d,1<=nth d->(S d↔inK c L d)
theorem CtxS.toR {w:World} {cb lb:Nat} {S:Nat->Prop} (h:CtxS w cb lb S):CtxR w (.map (some cb)) (.map (some lb)) S:=by
 obtain ⟨c,L,h1,h2,h3⟩:=h;exact ⟨c,L,h1.toV,h2,h3⟩
theorem CtxS.chg {M:Nat->Prop} {w w':World} {cb lb:Nat} {S:Nat->Prop} (h:CtxS w cb lb S) (hc:Chg M w w') (h1:¬M cb) (h2:¬M lb):CtxS w' cb lb S:=by
 obtain ⟨c,L,g1,g2,g3⟩:=h;exact ⟨c,L,g1.chg hc h1 h2,g2,g3⟩
theorem CtxS.below {w w':World} {cb lb:Nat} {S:Nat->Prop} (h:CtxS w cb lb S) (hb:Below w.heap.size w w'):CtxS w' cb lb S:=by
 obtain ⟨c,L,g1,g2,g3⟩:=h;exact ⟨c,L,g1.below hb,g2,g3⟩
theorem CtxS.lt {w:World} {cb lb:Nat} {S:Nat->Prop} (h:CtxS w cb lb S):cb<w.heap.size/\lb<w.heap.size:=by obtain ⟨c,L,g1,g2,g3⟩:=h;exact g1.lt
theorem CtxS.iff {w:World} {cb lb:Nat} {S S':Nat->Prop} (h:CtxS w cb lb S) (hS:∀ n,1<=nth n->(S' n↔S n)):CtxS w cb lb S':=by
 obtain ⟨c,L,g1,g2,g3⟩:=h;exact ⟨c,L,g1,g2,fun n hn=>(hS n hn).trans (g3 n hn)⟩
theorem inK_put {c:Nat->Nat} {L:Nat->Bool} {d k:Nat} : inK c (fun x=>L x || x == d) k↔inK c L k\/k=d:=by
 unfold inK
 simp only[Bool.or_eq_true,beq_iff_eq]
 exact ⟨fun h=>h.elim (fun h=>Or.inl (Or.inl h)) (fun h=>h.elim (fun h=>Or.inl (Or.inr h)) Or.inr),fun h=>h.elim (fun h=>h.elim Or.inl (fun h=>Or.inr (Or.inl h))) (fun h=>Or.inr (Or.inr h))⟩

theorem can_step {d:Nat} {c c':Nat->Nat} {L L':Nat->Bool} (hcan:∀ a,L (mkD a (c a+1))=false) (hs:SameD (who d) c (fun k=>L k || k == d) c' L') (h5:L' (mkD (who d) (c' (who d)+1))=false) (h501:∀ a,c a<=501):∀ a,L' (mkD a (c' a+1))=false:=by
 intro a
 by_cases e:a=who d
 ·subst e;exact h5
 ·have hw:who (mkD a (c a+1))=a:=who_mk (by have:=h501 a;omega)
  rw[hs.oc a e,hs.ol _ (by rw[hw];exact e),hcan a]
  have:mkD a (c a+1)≠d:=fun h=>e (by rw[<- h,hw])
  simp[this]

theorem add_any (w:World) (cb lb d:Nat) (S:Nat->Prop) (h:CtxS w cb lb S) (hd:okD d) :
  Calls Tryz.prog 201 #[.agg #[.map (some cb),.map (some lb)],dotE d] w fun e w'=>e=.returned (.tuple #[])/\CtxS w' cb lb (fun k=>S k\/k=d)/\Chg (fun k=>k=cb\/k=lb) w w':=by
 obtain ⟨c,L,h,hcan,hS⟩:=h
 have HS:Hid (∀ k,1<=nth k->(S k↔inK c L k)):=hS
 have a5:=hd.1
 have c501:=h.c501
 have Hcan:Hid (∀ a,L (mkD a (c a+1))=false):=hcan
 have H501:Hid (∀ a,c a<=501):=c501
 have HG:Hid (∀ ob,ob=.cells #[.map (some cb),.map (some lb)] 100->∀ ob',CG w w.heap.size cb lb c L ((w.alloc ob).alloc ob')):=fun ob hob ob'=>by
  subst hob
  have hb:Below w.heap.size w (w.alloc (.cells #[.map (some cb),.map (some lb)] 100)):=(Below.refl _ w).alloc (Nat.le_refl _) _
  refine CG.below (wx:=w.alloc (.cells #[.map (some cb),.map (some lb)] 100)) ?_ ((Below.refl _ _).alloc (Nat.le_refl _) _)
  exact ⟨h.below hb,World.cell?_alloc_at _ _ _ _ rfl,World.cell?_alloc_at _ _ _ _ rfl,h.lt,Nat.le_refl _,by simp,Chg.of_below hb⟩
 have HD:Hid (∀ ob,ob=.cells #[.int .i64 (who d:Int),.int .i64 (nth d:Int)] 134->∀ ob',((w.alloc ob').alloc ob).cell? ⟨w.heap.size+1,0,none⟩=some (.int .i64 (who d:Int))/\((w.alloc ob').alloc ob).cell? ⟨w.heap.size+1,1,none⟩=some (.int .i64 (nth d:Int))):=fun ob hob ob'=>by
  subst hob
  have e:(w.alloc ob').heap.size=w.heap.size+1:=by simp
  exact ⟨by rw[<- e];exact World.cell?_alloc_at _ _ _ _ rfl,by rw[<- e];exact World.cell?_alloc_at _ _ _ _ rfl⟩
 clear h hS hcan c501
 go_enter Tryz.func201,Tryz.ntmps201
 go_wp2_with fail
 have hC:=HG.out _ rfl (.cells #[.int .i64 (who d:Int),.int .i64 (nth d:Int)] 134)
 have hD:=HD.out _ rfl (.cells #[.map (some cb),.map (some lb)] 100)
 clear HG HD
 generalize hw2:(w.alloc (.cells #[.map (some cb),.map (some lb)] 100)).alloc (.cells #[.int .i64 (who d:Int),.int .i64 (nth d:Int)] 134)=w2 at *
 have hs2:w2.heap.size=w.heap.size+2:=by rw[<- hw2];simp
 clear hw2
 refine Calls.mono (has_any w2 _ _ c d L hC.ctx.toV a5) ?_
 rintro e w3 ⟨rfl,hb3⟩
 have hC3:=hC.below hb3
 have d0:w3.cell? ⟨w.heap.size+1,0,none⟩=some (.int .i64 (who d:Int)):=(hb3.cell (p:=⟨w.heap.size+1,0,none⟩) (by show w.heap.size+1<_;omega)).trans hD.1
 have d1:w3.cell? ⟨w.heap.size+1,1,none⟩=some (.int .i64 (nth d:Int)):=(hb3.cell (p:=⟨w.heap.size+1,1,none⟩) (by show w.heap.size+1<_;omega)).trans hD.2
 have hs3:w.heap.size+1<w3.heap.size:=by have:=hb3.size;omega
 have b0:=hC3.b0
 have b1:=hC3.b1
 have HC3:Hid (CG w w.heap.size cb lb c L w3):=hC3
 clear hC hD hb3 hs2
 cases hh:(decide (nth d<=c (who d)) || L d) with
 | true =>
  have Hin:Hid (inK c L d):=by unfold Hid inK;simpa using hh
  clear hC3 hh
  go_wp2
  refine bodyPost_ret (results_none rfl _ _ _) rfl ?_
  exact ⟨rfl,⟨c,L,HC3.out.ctx,Hcan.out,fun k hk=>by
   show (S k\/k=d)↔_
   rw[HS.out k hk]
   constructor
   ·rintro (h | rfl)
    ·exact h
    ·exact Hin.out
   ·exact Or.inl⟩,HC3.out.chg⟩
 | false =>
  have hnin:c (who d)<nth d:=by simp at hh;omega
  clear hh
  obtain ⟨kl,hkl⟩:=keyE d (by omega)
  obtain ⟨Nl,hNl⟩:=hC3.ctx.ls
  have hNb:Nl<=3072:=loose_bound hNl (fun n hn=>(hC3.ctx.l501 n hn).1)
  have hmx:Nl<maxLen:=by unfold maxLen;omega
  have hlo:=hC3.old
  have HL:Hid (MapV Tryz.prog 134 w3 lb Nl (lm L)):=hNl
  clear hC3 hNl
  go_wp2_with (first | (at_mapUpdate;refine wpList_store rfl (.tmp 8) (.tmp 9) (.tmp 10) 98 rfl 69 kDot Tryz.underlying98 rfl HL.out hmx (dotE d) unitV _ rfl rfl hkl ?_;intro w4 hm4 hg4 hs4;have hC4:CG w w.heap.size cb lb c (fun k=>L k || k == d) w4:=(CG.put HC3.out hg4 hm4 hnin hd);have b0:=hC4.b0;have b1:=hC4.b1;have d0:w4.cell? ⟨w.heap.size+1,0,none⟩=some (.int .i64 (who d:Int)):=(World.cell?_of_block (w:=w3) (hg4.block (w.heap.size+1) hs3 (fun e=>by cases e;omega))).trans d0))
  refine Calls.mono (closeGap_any w4 cb lb (who d) c _ hC4.ctx a5) ?_
  rintro e w5 ⟨rfl,c',L',h5,hcan5,hsame,hch5⟩
  have HF:Hid (CtxS w5 cb lb (fun k=>S k\/k=d)):=⟨c',L',h5,can_step Hcan.out hsame hcan5 H501.out,fun k hk=>by
   show (S k\/k=d)↔_
   rw[hsame.same k,HS.out k hk,inK_put]⟩
  have HCh:Hid (Chg (fun k=>k=cb\/k=lb) w w5):=hC4.chg.trans hch5
  clear h5 hsame hch5 hC4 b0 b1 d0
  go_wp2
  go_end0
  exact ⟨rfl,HF.out,HCh.out⟩

def RangeO (P:Program) (k:TypeId) (w:World) (v:Value) (r N:Nat) (m:Value->Option Value) (left:Value->Prop) (cnt:Nat):Prop :=
 (v=.map none/\(∃ s seen c,w.heap[r]? = some (.mapIter none s seen c))/\cnt=0/\m=(fun _=>none)/\∀ key,¬left key)\/∃ b,v=.map (some b)/\RangeV P k w b r N m left cnt

section
variable {P:Program} {k:TypeId} {w:World} {v:Value} {r N cnt:Nat} {m:Value->Option Value} {left:Value->Prop}
theorem MapO.chg {M:Nat->Prop} {w':World} (h:MapO P k w v N m) (hc:Chg M w w') (hm:∀ b,v=.map (some b)->¬M b):MapO P k w' v N m:=by
 rcases h with h | ⟨b,h1,h2⟩
 ·exact Or.inl h
 ·exact Or.inr ⟨b,h1,h2.block (hc.block b h2.lt (hm b h1))⟩
theorem RangeO.chg {M:Nat->Prop} {w':World} (h:RangeO P k w v r N m left cnt) (hc:Chg M w w') (hm:∀ b,v=.map (some b)->¬M b) (hr:¬M r):RangeO P k w' v r N m left cnt:=by
 rcases h with ⟨h1,⟨s,seen,c,h2⟩,h3⟩ | ⟨b,h1,h2⟩
 ·exact Or.inl ⟨h1,⟨s,seen,c,(hc.block r (Array.getElem?_eq_some_iff.1 h2).1 hr).trans h2⟩,h3⟩
 ·exact Or.inr ⟨b,h1,h2.block (hc.block b h2.map.lt (hm b h1)) (hc.block r h2.lt hr)⟩
theorem RangeO.lt (h:RangeO P k w v r N m left cnt):r<w.heap.size:=by
 rcases h with ⟨h1,⟨s,seen,c,h2⟩,h3⟩ | ⟨b,h1,h2⟩
 ·exact (Array.getElem?_eq_some_iff.1 h2).1
 ·exact h2.lt
theorem RangeO.map {t:TypeId} (h:RangeO P t w v r N m left cnt):∃ N,MapO P t w v N m:=by
 rcases h with ⟨h1,_,_,h2,_⟩ | ⟨b,h1,h2⟩
 ·exact ⟨0,Or.inl ⟨h1,rfl,h2⟩⟩
 ·exact ⟨N,Or.inr ⟨b,h1,h2.map⟩⟩
theorem run_next_nil {ty:TypeId} {s c:Nat} {seen:Array Nat} (h:w.heap[r]? = some (.mapIter none s seen c)):(Instr.next (.pointer (some ⟨r,0,none⟩)) false ty).run P w=.ok (.tuple #[.bool false]) w:=by
 simp only[Instr.next,getObj,Sem.run_bind,Sem.run,h,Result.andThen]
 rfl

variable {ops:Array Oper} {rest:List Oper} {o:Oper} {a:Act} {Q:Exit->Act->World->Prop}
theorem wpList_rangeO (hg:o.guard=none) (mo:Operand) (t:TypeId) (hop:o.op=Op.range t mo) (e:TypeId) (K:Keyed P k) (ht:P.underlying t=some (.map k e))
  (hm:a.eval mo=v) (h:MapO P k w v N m)
  (hK:∀ w',RangeO P k w' v w.heap.size N m (fun key=>(m key).isSome=true) N->w.grownBy w' none->w'.heap.size=w.heap.size+1->wpList P ops Q rest (a.put o.dst (.pointer (some ⟨w.heap.size,0,none⟩))) w'):wpList P ops Q (o :: rest) a w:=by
 refine wpList_plain hg fun K' hK'=>?_
 rcases h with ⟨rfl,rfl,rfl⟩ | ⟨b,rfl,h2⟩
 ·unfold Oper.wp
  simp[execOp,hop,hm,run_range_nilMap w t k e ht,Result.andThen]
  exact hK' _ _ (hK _ (Or.inl ⟨rfl,⟨0,#[],0,heap_alloc_new w _⟩,rfl,rfl,fun key h=>by cases h⟩) (World.grownBy_alloc w _ none) (by simp))
 ·obtain ⟨w',hrun,r1,r2,r3⟩:=h2.range K ht
  unfold Oper.wp
  simp[execOp,hop,hm,hrun,Result.andThen]
  exact hK' _ _ (hK w' (Or.inr ⟨b,rfl,r1⟩) r2 r3)
theorem wpList_nextO {α : Type} (hg:o.guard=none) (it:Operand) (hop:o.op=Op.next it false) (K:Keyed P k) (mk mv:α->Value) (hit:a.eval it=.pointer (some ⟨r,0,none⟩)) (h:RangeO P k w v r N m left cnt)
  (hsh:∀ key v,left key->m key=some v->∃ x,key=mk x/\v=mv x)
  (hDone:(∀ key,¬left key)->wpList P ops Q rest (a.put o.dst (.tuple #[.bool false])) w)
  (hMore:∀ (x:α) (w':World) (cnt':Nat),left (mk x)->m (mk x)=some (mv x)->RangeO P k w' v r N m (fun y=>left y/\y≠mk x) cnt'->cnt'<cnt->w.grownBy w' (some r)->w'.heap.size=w.heap.size ->
   (Instr.entry (.pointer (some ⟨r,0,none⟩))).run P w'=.ok (.tuple #[mk x,mv x]) w'->wpList P ops Q rest (a.put o.dst (.tuple #[.bool true,mk x,mv x])) w'):wpList P ops Q (o :: rest) a w:=by
 rcases h with ⟨h1,⟨s,seen,c,h2⟩,h3,h4,h5⟩ | ⟨b,h1,h2⟩
 ·refine wpList_plain hg fun K' hK'=>?_
  unfold Oper.wp
  simp[execOp,hop,hit,run_next_nil h2,Result.andThen]
  exact hK' _ _ (hDone h5)
 ·exact wpList_next hg it hop K mk mv hit h2 hsh (fun _=>hDone) (fun x w' cnt' g1 g2 g3 g4 g5 g6 g7=>hMore x w' cnt' g1 g2 (Or.inr ⟨b,h1,g3⟩) g4 g5 g6 g7)
end

theorem newContext_any (w:World):Calls Tryz.prog 200 #[] w fun e w'=>∃ cb lb,e=.returned (.agg #[.map (some cb),.map (some lb)])/\CtxS w' cb lb (fun _=>False)/\w.heap.size<=cb/\w.heap.size<=lb/\Below w.heap.size w w':=by
 have hmm:=@run_makeMap Tryz.prog
 have HM:Hid (∀ ob,Below w.heap.size w (w.alloc ob)/\CtxS (((w.alloc ob).alloc (.map #[] 0)).alloc (.map #[] 0)) (w.heap.size+1) (w.heap.size+2) (fun _=>False)):=fun ob=>⟨(Below.refl _ w).alloc (Nat.le_refl _) _,by
  have e1:(w.alloc ob).heap.size=w.heap.size+1:=by simp
  have e2:((w.alloc ob).alloc (.map #[] 0)).heap.size=w.heap.size+2:=by simp
  have m1:=MapV.made (w.alloc ob) Tryz.prog 3
  have m2:=MapV.made ((w.alloc ob).alloc (.map #[] 0)) Tryz.prog 134
  rw[e1] at m1
  rw[e2] at m2
  have hc:cm (fun _=>0)=fun _=>none:=(cm_ext (fun a=>rfl) (fun key _=>rfl)).symm
  have hl:lm (fun _=>false)=fun _=>none:=by funext key;simp[lm]
  refine ⟨fun _=>0,fun _=>false,⟨⟨0,by rw[hc];exact m1.block (((Below.refl _ ((w.alloc ob).alloc (.map #[] 0))).alloc (Nat.le_refl _) _).block _ m1.lt)⟩,⟨0,by rw[hl];exact m2⟩,by omega,fun _=>by omega,fun _ h=>absurd rfl h,fun n h=>(by cases h)⟩,fun _=>rfl,fun n hn=>?_⟩
  simp[inK];omega⟩
 go_enter Tryz.func200,Tryz.ntmps200
 go_wp2
 refine bodyPost_ret (v:=.agg #[.map (some (w.heap.size+1)),.map (some (w.heap.size+2))]) (by simp[results,Tryz.results200,go_sem]) rfl ⟨_,_,rfl, ?_,by omega,by omega, ?_⟩
 ·first
   | exact (HM.out _).2
   | (refine CtxS.chg (M:=fun k=>k=w.heap.size) (HM.out _).2 (((Chg.refl _ _).setCell (p:=⟨w.heap.size,0,none⟩) rfl _).setCell (p:=⟨w.heap.size,1,none⟩) rfl _) (by omega) (by omega))
   | trace_state
 ·go_grown

theorem dot_nth (x y:Int) (w:World):(Instr.field 134 (.agg #[.int .i64 x,.int .i64 y]) 1).run Tryz.prog w=.ok (.int .i64 y) w:=by kernel_rfl
structure AA (w:World) (cb lb:Nat) (cv lv:Value) (co:Nat->Nat) (Lo:Nat->Bool) (S:Nat->Prop) (wx:World):Prop where
 ctx:CtxS wx cb lb S
 b0:wx.cell? ⟨w.heap.size,0,none⟩=some (.map (some cb))
 b1:wx.cell? ⟨w.heap.size,1,none⟩=some (.map (some lb))
 o0:wx.cell? ⟨w.heap.size+1,0,none⟩=some cv
 o1:wx.cell? ⟨w.heap.size+1,1,none⟩=some lv
 oc:∃ N,MapO Tryz.prog 3 wx cv N (cm co)
 ol:∃ N,MapO Tryz.prog 134 wx lv N (lm Lo)
 old:cb<w.heap.size/\lb<w.heap.size
 ne:(∀ b,cv=.map (some b)->b≠cb/\b≠lb/\b<w.heap.size)/\(∀ b,lv=.map (some b)->b≠cb/\b≠lb/\b<w.heap.size)
 lt:w.heap.size+2<=wx.heap.size
 chg:Chg (fun k=>k=cb\/k=lb) w wx
theorem AA.step {w:World} {cb lb:Nat} {cv lv:Value} {co:Nat->Nat} {Lo:Nat->Bool} {S S':Nat->Prop} {wx wy:World} (h:AA w cb lb cv lv co Lo S wx) (hc:CtxS wy cb lb S') (hg:Chg (fun k=>k=cb\/k=lb) wx wy):AA w cb lb cv lv co Lo S' wy:=by
 obtain ⟨N,h1⟩:=h.oc
 obtain ⟨N',h2⟩:=h.ol
 have hl:=h.lt
 have ho:=h.old
 have hcell:∀ b i,w.heap.size<=b->b<wx.heap.size->wy.cell? ⟨b,i,none⟩=wx.cell? ⟨b,i,none⟩:=fun b i hb1 hb2=>World.cell?_of_block (w:=wx) (hg.block b hb2 (by omega))
 exact ⟨hc,(hcell _ 0 (by omega) (by omega)).trans h.b0,(hcell _ 1 (by omega) (by omega)).trans h.b1,(hcell _ 0 (by omega) (by omega)).trans h.o0,(hcell _ 1 (by omega) (by omega)).trans h.o1,⟨N,h1.chg hg (fun b hb=>by have:=h.ne.1 b hb;omega)⟩,⟨N',h2.chg hg (fun b hb=>by have:=h.ne.2 b hb;omega)⟩,h.old,h.ne,Nat.le_trans hl hg.size,h.chg.trans hg⟩
theorem AA.below {w:World} {cb lb:Nat} {cv lv:Value} {co:Nat->Nat} {Lo:Nat->Bool} {S:Nat->Prop} {wx wy:World} (h:AA w cb lb cv lv co Lo S wx) (hb:Below wx.heap.size wx wy):AA w cb lb cv lv co Lo S wy:=h.step (h.ctx.below hb) (Chg.of_below hb)
theorem AA.turn {w:World} {cb lb:Nat} {cv lv:Value} {co:Nat->Nat} {Lo:Nat->Bool} {S:Nat->Prop} {wx wy:World} {r:Nat} (h:AA w cb lb cv lv co Lo S wx) (hr:w.heap.size+2<=r) (hg:wx.grownBy wy (some r)):AA w cb lb cv lv co Lo S wy:=by
 have hl:=h.lt
 have ho:=h.old
 have hcell:∀ b i,b<w.heap.size+2->wy.cell? ⟨b,i,none⟩=wx.cell? ⟨b,i,none⟩:=fun b i hb2=>World.cell?_of_block (w:=wx) (hg.block b (by omega) (fun e=>by cases e;omega))
 have hch:Chg (fun k=>k=r) wx wy:=(Chg.refl _ wx).grown hg (fun k e=>by cases e;exact Or.inl rfl)
 obtain ⟨N,h1⟩:=h.oc
 obtain ⟨N',h2⟩:=h.ol
 exact ⟨h.ctx.chg hch (by omega) (by omega),(hcell _ 0 (by omega)).trans h.b0,(hcell _ 1 (by omega)).trans h.b1,(hcell _ 0 (by omega)).trans h.o0,(hcell _ 1 (by omega)).trans h.o1,⟨N,h1.chg hch (fun b hb=>by have:=h.ne.1 b hb;omega)⟩,⟨N',h2.chg hch (fun b hb=>by have:=h.ne.2 b hb;omega)⟩,h.old,h.ne,Nat.le_trans hl hg.size,h.chg.grown hg (fun k e=>by cases e;right;omega)⟩
theorem AA.iff {w:World} {cb lb:Nat} {cv lv:Value} {co:Nat->Nat} {Lo:Nat->Bool} {S S':Nat->Prop} {wx:World} (h:AA w cb lb cv lv co Lo S wx) (hS:∀ n,1<=nth n->(S' n↔S n)):AA w cb lb cv lv co Lo S' wx:=h.step (h.ctx.iff hS) (Chg.refl _ _)
theorem CtxS.r {w:World} {cb lb:Nat} {S:Nat->Prop} (h:CtxS w cb lb S):∃ c L,CtxV w (.map (some cb)) (.map (some lb)) c L/\(∀ d,1<=nth d->nth d<=c (who d)->S d)/\∀ a,c a<=501:=by
 obtain ⟨c,L,h1,h2,h3⟩:=h;exact ⟨c,L,h1.toV,fun d h1 h2=>(h3 d h1).2 (Or.inl h2),h1.c501⟩

theorem addAll_any (w:World) (cb lb:Nat) (S So:Nat->Prop) (cv lv:Value) (h:CtxS w cb lb S) (ho:CtxR w cv lv So)
  (hne:(∀ b,cv=.map (some b)->b≠cb/\b≠lb/\b<w.heap.size)/\(∀ b,lv=.map (some b)->b≠cb/\b≠lb/\b<w.heap.size)) :
  Calls Tryz.prog 207 #[.agg #[.map (some cb),.map (some lb)],.agg #[cv,lv]] w fun e w'=>e=.returned (.tuple #[])/\CtxS w' cb lb (fun k=>S k\/So k)/\Chg (fun k=>k=cb\/k=lb) w w':=by
 obtain ⟨co,Lo,ho,_,hSo⟩:=ho
 have HSo:Hid (∀ d,1<=nth d->(So d↔inK co Lo d)):=hSo
 have Hco:Hid (∀ a,co a<=501):=ho.c501
 have Hc5:Hid (∀ a,co a≠0->a<=5):=ho.c5
 have HLo:Hid (∀ d,Lo d=true->okD d):=fun d hd=>(ho.l501 d hd).1
 have HA0:Hid (∀ ob ob',ob=.cells #[.map (some cb),.map (some lb)] 100->ob'=.cells #[cv,lv] 100->AA w cb lb cv lv co Lo S ((w.alloc ob).alloc ob')):=fun ob ob' e1 e2=>by
  subst e1;subst e2
  have hb1:Below w.heap.size w (w.alloc (.cells #[.map (some cb),.map (some lb)] 100)):=(Below.refl _ w).alloc (Nat.le_refl _) _
  have hb:Below w.heap.size w ((w.alloc (.cells #[.map (some cb),.map (some lb)] 100)).alloc (.cells #[cv,lv] 100)):=hb1.alloc (by simp) _
  have hb2:=(Below.refl (w.alloc (.cells #[.map (some cb),.map (some lb)] 100)).heap.size (w.alloc (.cells #[.map (some cb),.map (some lb)] 100))).alloc (Nat.le_refl _) (.cells #[cv,lv] 100)
  have e:(w.alloc (.cells #[.map (some cb),.map (some lb)] 100)).heap.size=w.heap.size+1:=by simp
  have hR:=ho.below hb
  refine ⟨h.below hb,(hb2.cell (p:=⟨w.heap.size,0,none⟩) (by simp)).trans (World.cell?_alloc_at _ _ _ _ rfl),(hb2.cell (p:=⟨w.heap.size,1,none⟩) (by simp)).trans (World.cell?_alloc_at _ _ _ _ rfl), ?_, ?_,hR.cs,hR.ls,h.lt,hne,by simp,Chg.of_below hb⟩
  ·rw[<- e];exact World.cell?_alloc_at _ _ _ _ rfl
  ·rw[<- e];exact World.cell?_alloc_at _ _ _ _ rfl
 clear h ho hSo hne
 go_enter Tryz.func207,Tryz.ntmps207
 have hA:=HA0.out _ _ rfl rfl
 clear HA0
 obtain ⟨Nc,hNc⟩:=hA.oc
 have o0:=hA.o0
 have hs2:((w.alloc (.cells #[.map (some cb),.map (some lb)] 100)).alloc (.cells #[cv,lv] 100)).heap.size=w.heap.size+2:=by simp
 have HA:Hid (AA w cb lb cv lv co Lo S _):=hA
 clear hA
 go_wp2_with (first | (at_range;refine wpList_rangeO rfl (.tmp 9) 97 rfl 3 kInt Tryz.underlying97 rfl hNc ?_;intro w3 hr3 hg3 hs3;have hA3:AA w cb lb cv lv co Lo S w3:=(HA.out.below ((Below.refl _ _).grown hg3 (Nat.le_refl _) (fun k e=>by cases e)));rw[hs2] at hr3 ⊢;clear HA o0 hNc hg3 hs3;go_frame))
 go_loopg [4] Nc (fun g v4 wx=>∃ (left:Value->Prop) (cnt:Nat),g=cnt/\RangeO Tryz.prog 3 wx cv (w.heap.size+2) Nc (cm co) left cnt/\AA w cb lb cv lv co Lo (fun k=>S k\/(nth k<=co (who k)/\¬left (.int .i64 (who k:Int)))) wx)
 case atStart =>
  refine ⟨_,_,rfl,hr3,hA3.iff (fun n hn=>?_)⟩
  have:¬(nth n<=co (who n)/\¬(cm co (.int .i64 (who n:Int))).isSome=true):=by
   rintro ⟨h1,h2⟩
   exact h2 (by rw[cm_at,if_neg (by omega)];rfl)
  simp only[this,or_false]
 case round =>
  obtain ⟨left,q,hq,hR,hA⟩:=hrel
  have HR:Hid (RangeO Tryz.prog 3 wr cv (w.heap.size+2) Nc (cm co) left q):=hR
  have HA:Hid (AA w cb lb cv lv co Lo (fun k=>S k\/(nth k<=co (who k)/\¬left (.int .i64 (who k:Int)))) wr):=hA
  have Hsh:Hid (∀ key v,left key->cm co key=some v->∃ x:Nat,key=(fun x:Nat=>Value.int .i64 (x:Int)) x/\v=(fun x:Nat=>Value.int .i64 (co x:Int)) x):=fun key v _ hk=>by obtain ⟨x,h1,h2,_⟩:=cm_shape hk;exact ⟨x,h1,h2⟩
  have o1:=hA.o1
  obtain ⟨Nl,hNl⟩:=hA.ol
  clear hR hA hr3 hA3
  go_wp2_with (first | (at_next;refine wpList_nextO rfl (.tmp 10) rfl kInt (fun x:Nat=>.int .i64 (x:Int)) (fun x:Nat=>.int .i64 (co x:Int)) (by first | rfl | (simp;rfl)) HR.out Hsh.out ?_ ?_))
  ·intro hl0
   go_wp2_with (first | (at_range;refine wpList_rangeO rfl (.tmp 31) 98 rfl 69 kDot Tryz.underlying98 rfl hNl ?_;intro w5 hr5 hg5 hs5;have hA5:AA w cb lb cv lv co Lo (fun k=>S k\/nth k<=co (who k)) w5:=((HA.out.below ((Below.refl _ _).grown hg5 (Nat.le_refl _) (fun k e=>by cases e))).iff (fun n hn=>by simp[hl0]));have hrl:w.heap.size+2<=wr.heap.size:=HA.out.lt;clear HA o1 hNl hg5 hs5 HR Hsh;go_frame))
   go_loopg [7] Nl (fun g v7 wx=>∃ (left2:Value->Prop) (q2:Nat),g=q2/\RangeO Tryz.prog 134 wx lv wr.heap.size Nl (lm Lo) left2 q2/\AA w cb lb cv lv co Lo (fun k=>(S k\/nth k<=co (who k))\/(Lo k=true/\¬left2 (dotE k))) wx)
   case atStart =>
    refine ⟨_,_,rfl,hr5,hA5.iff (fun n hn=>?_)⟩
    have:¬(Lo n=true/\¬(lm Lo (dotE n)).isSome=true):=by
     rintro ⟨h1,h2⟩
     exact h2 (by rw[lm_some];exact h1)
    simp only[this,or_false]
   case round =>
    obtain ⟨left2,q2,hq2,hR2,hA2⟩:=hrel
    have HR2:Hid (RangeO Tryz.prog 134 wr lv _ Nl (lm Lo) left2 q2):=hR2
    have HA2:Hid (AA w cb lb cv lv co Lo (fun k=>(S k\/nth k<=co (who k))\/(Lo k=true/\¬left2 (dotE k))) wr):=hA2
    have Hsh2:Hid (∀ key v,left2 key->lm Lo key=some v->∃ x:Nat,key=(fun n:Nat=>dotE n) x/\v=(fun _=>unitV) x):=fun key v _ hk=>by obtain ⟨n,h1,h2,h3⟩:=lm_shape hk;exact ⟨n,h2,h3⟩
    clear hR2 hA2 hr5 hA5
    go_wp2_with (first | (at_next;refine wpList_nextO rfl (.tmp 32) rfl kDot (fun n:Nat=>dotE n) (fun _=>unitV) rfl HR2.out Hsh2.out ?_ ?_))
    ·intro hl2
     have HF:Hid (CtxS wr cb lb (fun k=>S k\/So k)):=HA2.out.ctx.iff (fun n hn=>by
      rw[HSo.out n hn]
      unfold inK
      simp only[hl2,not_false_eq_true,and_true]
      exact ⟨fun h=>h.elim (fun h=>Or.inl (Or.inl h)) (fun h=>h.elim (fun h=>Or.inl (Or.inr h)) Or.inr),fun h=>h.elim (fun h=>h.elim Or.inl (fun h=>Or.inr (Or.inl h))) (fun h=>Or.inr (Or.inr h))⟩)
     have HCh:Hid (Chg (fun k=>k=cb\/k=lb) w wr):=HA2.out.chg
     clear HR2 HA2 Hsh2
     go_wp2
     go_end0
     exact ⟨rfl,HF.out,HCh.out⟩
    ·intro n w6 q6 hlk6 hmk6 hR6 hlt6 hg6 hs6 hen6
     have hLn:Lo n=true:=by rw[<- lm_some n Lo,hmk6];(first | done | rfl)
     have hn:=HLo.out n hLn
     have hA6:=HA2.out.turn hrl hg6
     have HA6:Hid (AA w cb lb cv lv co Lo (fun k=>(S k\/nth k<=co (who k))\/(Lo k=true/\¬left2 (dotE k))) w6):=hA6
     have b0:=hA6.b0
     have b1:=hA6.b1
     have hlt2:=hA6.lt
     have b0A:∀ o,(w6.alloc o).cell? ⟨w.heap.size,0,none⟩=some (.map (some cb)):=fun o=>(HA6.out.below ((Below.refl _ w6).alloc (Nat.le_refl _) o)).b0
     have b1A:∀ o,(w6.alloc o).cell? ⟨w.heap.size,1,none⟩=some (.map (some lb)):=fun o=>(HA6.out.below ((Below.refl _ w6).alloc (Nat.le_refl _) o)).b1
     have HR6:Hid (RangeO Tryz.prog 134 w6 lv _ Nl (lm Lo) (fun y=>left2 y/\¬y=dotE n) q6):=hR6
     have Hadd:Hid (∀ wx,Below w6.heap.size w6 wx->Calls Tryz.prog 201 #[.agg #[.map (some cb),.map (some lb)],dotE n] wx fun e w'=>e=.returned (.tuple #[])/\AA w cb lb cv lv co Lo (fun k=>((S k\/nth k<=co (who k))\/(Lo k=true/\¬left2 (dotE k)))\/k=n) w'/\RangeO Tryz.prog 134 w' lv _ Nl (lm Lo) (fun y=>left2 y/\¬y=dotE n) q6):=fun wx hb=>by
      have hA':=HA6.out.below hb
      refine Calls.mono (add_any wx cb lb n _ hA'.ctx hn) ?_
      rintro e w' ⟨rfl,h1,h2⟩
      have hol:=hA'.old
      exact ⟨rfl,hA'.step h1 h2,(HR6.out.chg (M:=fun _=>False) (Chg.of_below hb) (fun _ _ h=>h) (fun h=>h)).chg h2 (fun b hb=>by have:=hA'.ne.2 b hb;omega) (by omega)⟩
     clear hR6 hA6 HR2 HA2 Hsh2 HA6 HR6
     go_wp2_with fail
     refine Calls.mono (Hadd.out _ ?_) ?_
     ·go_grown
     rintro e w7 ⟨rfl,hA7,hR7⟩
     have HA7:Hid (AA w cb lb cv lv co Lo (fun k=>(S k\/nth k<=co (who k))\/(Lo k=true/\¬(left2 (dotE k)/\¬dotE k=dotE n))) w7):=hA7.iff (fun k hk=>by
      constructor
      ·rintro (h | ⟨h1,h2⟩)
       ·exact Or.inl (Or.inl h)
       ·by_cases e:k=n
        ·exact Or.inr e
        ·exact Or.inl (Or.inr ⟨h1,fun h3=>h2 ⟨h3,fun e2=>e (dotE_inj e2)⟩⟩)
      ·rintro ((h | ⟨h1,h2⟩) | rfl)
       ·exact Or.inl h
       ·exact Or.inr ⟨h1,fun h3=>h2 h3.1⟩
       ·exact Or.inr ⟨hLn,fun h3=>h3.2 rfl⟩)
     have HR7:Hid (RangeO Tryz.prog 134 w7 lv _ Nl (lm Lo) (fun y=>left2 y/\¬y=dotE n) q6):=hR7
     clear hA7 hR7 Hadd b0 b1 b0A b1A hen6
     go_wp2_with fail
     go_roundg q6
     case measure=>omega
     case rel=>exact ⟨_,q6,rfl,HR7.out,HA7.out⟩
  ·intro a w4 q' hlk hmk hR4 hlt hg4 hs4 hen
   have hca0:co a≠0:=by intro h0;rw[cm_at,if_pos h0] at hmk;cases hmk
   have a5:=Hc5.out a hca0
   have co501:=Hco.out a
   obtain ⟨ca,hca⟩:∃ ca,co a=ca:=⟨_,rfl⟩
   have Hca:Hid (co a=ca):=hca
   rw[hca] at co501
   try rw[hca] at hen
   try rw[hca]
   clear hca hca0
   have hA4:=HA.out.turn (Nat.le_refl _) hg4
   obtain ⟨cc,L1,hV,hsub,hc1⟩:=hA4.ctx.r
   have HA4:Hid (AA w cb lb cv lv co Lo (fun k=>S k\/(nth k<=co (who k)/\¬left (.int .i64 (who k:Int)))) w4):=hA4
   have HR4:Hid (RangeO Tryz.prog 3 w4 cv (w.heap.size+2) Nc (cm co) (fun y=>left y/\¬y=Value.int IntKind.i64 (a:Int)) q'):=hR4
   have Hsub:Hid (∀ d,1<=nth d->nth d<=cc (who d)->(S d\/(nth d<=co (who d)/\¬left (.int .i64 (who d:Int))))):=hsub
   have b0:=hA4.b0
   have b1:=hA4.b1
   have Hn:Hid (_):=next_any w4 _ _ a cc L1 hV a5
   have hc1:=hc1 a
   obtain ⟨c1,hc1e⟩:∃ c1,cc a=c1:=⟨_,rfl⟩
   have Hc1:Hid (cc a=c1):=hc1e
   rw[hc1e] at Hn hc1
   clear hc1e
   have hwne:=hA4.ne.1
   have hold:=hA4.old
   clear hA4 hV hR4 HR HA hsub o1 hNl Hsh hg4
   go_wp2_with fail
   refine Calls.mono Hn.out ?_
   rintro e w5 ⟨rfl,hb5⟩
   have HA5:Hid (AA w cb lb cv lv co Lo (fun k=>S k\/(nth k<=co (who k)/\¬left (.int .i64 (who k:Int)))) w5):=HA4.out.below hb5
   have HR5:Hid (RangeO Tryz.prog 3 w5 cv (w.heap.size+2) Nc (cm co) (fun y=>left y/\¬y=Value.int IntKind.i64 (a:Int)) q'):=HR4.out.chg (M:=fun _=>False) (Chg.of_below hb5) (fun _ _ h=>h) (fun h=>h)
   have hfd:=dot_nth (a:Int) ((c1:Int)+1)
   clear HA4 HR4 Hn b0 b1 hb5 hen
   go_wp2_with fail
   clear hfd
   go_loopg [6] (ca+1-(c1+1)) (fun g v6 wx=>∃ nt:Nat,c1+1<=nt/\(nt<=ca+1\/nt=c1+1)/\v6=.int .i64 (nt:Int)/\g=ca+1-nt/\RangeO Tryz.prog 3 wx cv (w.heap.size+2) Nc (cm co) (fun y=>left y/\¬y=Value.int IntKind.i64 (a:Int)) q'/\AA w cb lb cv lv co Lo (fun k=>(S k\/(nth k<=co (who k)/\¬left (.int .i64 (who k:Int))))\/(who k=a/\c1<nth k/\nth k<nt)) wx)
   case atStart=>exact ⟨c1+1,by omega,by omega,rfl,rfl,HR5.out,HA5.out.iff (fun n hn=>by constructor;(rintro (h | h);exact h;omega);exact Or.inl)⟩
   case round =>
    obtain ⟨nt,hn1,hn2,rfl,hg,hR6,hA6⟩:=hrel
    have HR6:Hid (RangeO Tryz.prog 3 wr cv (w.heap.size+2) Nc (cm co) (fun y=>left y/\¬y=Value.int IntKind.i64 (a:Int)) q'):=hR6
    have HA6:Hid (AA w cb lb cv lv co Lo (fun k=>(S k\/(nth k<=co (who k)/\¬left (.int .i64 (who k:Int))))\/(who k=a/\c1<nth k/\nth k<nt)) wr):=hA6
    have b0:=hA6.b0
    have b1:=hA6.b1
    clear hR6 hA6 HA5 HR5
    by_cases hle:nt<=ca
    ·have hm512:nt<512:=by omega
     have Hadd:Hid (_):=add_any wr cb lb (mkD a nt) _ HA6.out.ctx ⟨by rw[who_mk hm512];exact a5,by rw[nth_mk hm512];omega,by rw[nth_mk hm512];omega⟩
     unfold dotE at Hadd
     rw[who_mk hm512,nth_mk hm512] at Hadd
     go_wp2_with fail
     refine Calls.mono Hadd.out ?_
     rintro e w7 ⟨rfl,hc7,hch7⟩
     have HA7:Hid (AA w cb lb cv lv co Lo (fun k=>(S k\/(nth k<=co (who k)/\¬left (.int .i64 (who k:Int))))\/(who k=a/\c1<nth k/\nth k<nt+1)) w7):=(HA6.out.step hc7 hch7).iff (fun n hn=>by
      constructor
      ·rintro (h | h)
       ·exact Or.inl (Or.inl h)
       ·by_cases e:nth n=nt
        ·exact Or.inr (dot_ext (by rw[who_mk hm512];exact h.1) (by rw[nth_mk hm512];exact e))
        ·exact Or.inl (Or.inr (by omega))
      ·rintro ((h | h) | h)
       ·exact Or.inl h
       ·exact Or.inr (by omega)
       ·refine Or.inr ⟨by rw[h,who_mk hm512],by rw[h,nth_mk hm512];omega,by rw[h,nth_mk hm512];omega⟩)
     have HR7:Hid (RangeO Tryz.prog 3 w7 cv (w.heap.size+2) Nc (cm co) (fun y=>left y/\¬y=Value.int IntKind.i64 (a:Int)) q'):=HR6.out.chg hch7 (fun b hb=>by have:=hwne b hb;omega) (by omega)
     clear Hadd hc7 hch7 HA6 HR6 b0 b1
     go_wp2_with fail
     go_roundg (ca+1-(nt+1))
     case measure=>omega
     case rel=>exact ⟨nt+1,by omega,by omega,by go_num,rfl,HR7.out,HA7.out⟩
    ·go_wp2_with fail
     go_roundg q'
     case measure=>omega
     case rel=>exact ⟨_,q',rfl,HR6.out,HA6.out.iff (fun n hn=>by
      have hle2:ca<nt:=by omega
      constructor
      ·rintro (h | ⟨h,h'⟩)
       ·exact Or.inl (Or.inl h)
       ·by_cases ea:who n=a
        ·by_cases e:nth n<=c1
         ·exact Or.inl (Hsub.out n hn (by rw[ea,Hc1.out];exact e))
         ·exact Or.inr ⟨ea,by omega,by rw[ea,Hca.out] at h;omega⟩
        ·refine Or.inl (Or.inr ⟨h,fun hl=>h' ⟨hl,fun e2=>ea ?_⟩⟩)
         simp at e2;omega
      ·rintro ((h | h) | h)
       ·exact Or.inl h
       ·exact Or.inr ⟨h.1,fun hh=>h.2 hh.1⟩
       ·exact Or.inr ⟨by rw[h.1,Hca.out];omega,fun hh=>hh.2 (by rw[h.1])⟩)⟩

noncomputable def im (It:Nat->Option Value):Value->Option Value:=fun key=>@dite _ (∃ n:Nat,key=dotE n) (Classical.propDecidable _) (fun h=>It (Classical.choose h)) (fun _=>none)
theorem im_dot (It:Nat->Option Value) (n:Nat):im It (dotE n)=It n:=by
 unfold im
 have h:∃ m:Nat,dotE n=dotE m:=⟨n,rfl⟩
 rw[dif_pos h]
 have:=Classical.choose_spec h
 rw[<- dotE_inj this]
theorem im_shape {It:Nat->Option Value} {key v:Value} (h:im It key=some v):∃ n:Nat,key=dotE n/\It n=some v:=by
 unfold im at h
 split at h
 ·rename_i hh;exact ⟨_,Classical.choose_spec hh,h⟩
 ·cases h
theorem im_ext {It:Nat->Option Value} {m:Value->Option Value} (h1:∀ n:Nat,m (dotE n)=It n) (h2:∀ key,(∀ n:Nat,key≠dotE n)->m key=none):m=im It:=by
 funext key
 by_cases h:∃ n:Nat,key=dotE n
 ·obtain ⟨n,rfl⟩:=h;rw[h1,im_dot]
 ·rw[h2 key (fun n e=>h ⟨n,e⟩)];unfold im;rw[dif_neg h]
theorem im_upd (It:Nat->Option Value) (n:Nat) (v:Value):upd (im It) (dotE n) v=im (fun k=>if k=n then some v else It k):=by
 apply im_ext
 ·intro k
  by_cases e:k=n
  ·subst e;rw[upd_same,if_pos rfl]
  ·rw[upd_other (fun e2=>e (dotE_inj e2)),im_dot,if_neg e]
 ·intro key hk
  rw[upd_other (hk n)]
  unfold im
  rw[dif_neg (fun ⟨n,e⟩=>hk n e)]
theorem im_none:im (fun _=>none)=fun _=>none:=by
 symm;apply im_ext <;> intros <;> rfl

structure StoreS (w:World) (ib cb lb:Nat) (S:Nat->Prop) (It:Nat->Option Value):Prop where
 ctx:CtxS w cb lb S
 its:∃ N,MapV Tryz.prog 134 w ib N (im It)
 ne:ib≠cb/\ib≠lb
 ok:∀ n,It n≠none->okD n/\S n
structure StoreR (w:World) (iv cv lv:Value) (S:Nat->Prop) (It:Nat->Option Value):Prop where
 ctx:CtxR w cv lv S
 its:∃ N,MapO Tryz.prog 134 w iv N (im It)
 ok:∀ n,It n≠none->okD n/\S n
theorem StoreS.toR {w:World} {ib cb lb:Nat} {S:Nat->Prop} {It:Nat->Option Value} (h:StoreS w ib cb lb S It):StoreR w (.map (some ib)) (.map (some cb)) (.map (some lb)) S It :=
 ⟨h.ctx.toR,h.its.imp fun N h=>Or.inr ⟨ib,rfl,h⟩,h.ok⟩
theorem CtxR.chg {M:Nat->Prop} {w w':World} {cv lv:Value} {S:Nat->Prop} (h:CtxR w cv lv S) (hc:Chg M w w') (h1:∀ b,cv=.map (some b)->¬M b) (h2:∀ b,lv=.map (some b)->¬M b):CtxR w' cv lv S:=by
 obtain ⟨c,L,⟨⟨N,g1⟩,⟨N',g2⟩,g3,g4,g5⟩,r⟩:=h
 exact ⟨c,L,⟨⟨N,g1.chg hc h1⟩,⟨N',g2.chg hc h2⟩,g3,g4,g5⟩,r⟩
theorem StoreR.chg {M:Nat->Prop} {w w':World} {iv cv lv:Value} {S:Nat->Prop} {It:Nat->Option Value} (h:StoreR w iv cv lv S It) (hc:Chg M w w') (h1:∀ b,iv=.map (some b)\/cv=.map (some b)\/lv=.map (some b)->¬M b):StoreR w' iv cv lv S It :=
 ⟨h.ctx.chg hc (fun b hb=>h1 b (Or.inr (Or.inl hb))) (fun b hb=>h1 b (Or.inr (Or.inr hb))),h.its.imp fun N g=>g.chg hc (fun b hb=>h1 b (Or.inl hb)),h.ok⟩
theorem StoreS.chg {M:Nat->Prop} {w w':World} {ib cb lb:Nat} {S:Nat->Prop} {It:Nat->Option Value} (h:StoreS w ib cb lb S It) (hc:Chg M w w') (h1:¬M ib) (h2:¬M cb) (h3:¬M lb):StoreS w' ib cb lb S It :=
 ⟨h.ctx.chg hc h2 h3,h.its.imp fun N g=>g.block (hc.block _ g.lt h1),h.ne,h.ok⟩
theorem StoreS.below {w w':World} {ib cb lb:Nat} {S:Nat->Prop} {It:Nat->Option Value} (h:StoreS w ib cb lb S It) (hb:Below w.heap.size w w'):StoreS w' ib cb lb S It:=h.chg (M:=fun _=>False) (Chg.of_below hb) (fun h=>h) (fun h=>h) (fun h=>h)
theorem StoreS.lt {w:World} {ib cb lb:Nat} {S:Nat->Prop} {It:Nat->Option Value} (h:StoreS w ib cb lb S It):ib<w.heap.size/\cb<w.heap.size/\lb<w.heap.size:=⟨h.its.elim fun _ g=>g.lt,h.ctx.lt⟩
theorem MapO.lt {P:Program} {k:TypeId} {w:World} {v:Value} {N:Nat} {m:Value->Option Value} (h:MapO P k w v N m):∀ b,v=.map (some b)->b<w.heap.size:=by
 intro b hb
 rcases h with ⟨h,_⟩ | ⟨b',h,h2⟩
 ·rw[h] at hb;cases hb
 ·rw[h] at hb;cases hb;exact h2.lt
theorem StoreR.lt {w:World} {iv cv lv:Value} {S:Nat->Prop} {It:Nat->Option Value} (h:StoreR w iv cv lv S It):∀ b,iv=.map (some b)\/cv=.map (some b)\/lv=.map (some b)->b<w.heap.size:=by
 obtain ⟨⟨c,L,⟨⟨N,g1⟩,⟨N',g2⟩,_⟩,_⟩,⟨N2,g3⟩,_⟩:=h
 rintro b (hb | hb | hb)
 ·exact g3.lt b hb
 ·exact g1.lt b hb
 ·exact g2.lt b hb

def SliceD (w:World) (v:Value) (ns:List Nat):Prop :=
 (v=.slice none 0 0/\ns=[])\/∃ b off cap,v=.slice (some ⟨b,off,none⟩) ns.length cap/\ns.length<=cap/\b<w.heap.size/\∀ j (h:j<ns.length),w.cell? ⟨b,off+j*2,none⟩=some (.int .i64 (who ns[j]:Int))/\w.cell? ⟨b,off+j*2+1,none⟩=some (.int .i64 (nth ns[j]:Int))
theorem SliceD.chg {M:Nat->Prop} {w w':World} {v:Value} {ns:List Nat} (h:SliceD w v ns) (hc:Chg M w w') (hm:∀ b,v.ownBlock=some b->¬M b):SliceD w' v ns:=by
 rcases h with h | ⟨b,off,cap,rfl,h2,h3,h4⟩
 ·exact Or.inl h
 ·have e:∀ i,w'.cell? ⟨b,i,none⟩=w.cell? ⟨b,i,none⟩:=fun i=>World.cell?_of_block (w:=w) (hc.block b h3 (hm b rfl))
  exact Or.inr ⟨b,off,cap,rfl,h2,Nat.lt_of_lt_of_le h3 hc.size,fun j hj=>⟨(e _).trans (h4 j hj).1,(e _).trans (h4 j hj).2⟩⟩
theorem SliceD.below {w w':World} {v:Value} {ns:List Nat} (h:SliceD w v ns) (hb:Below w.heap.size w w'):SliceD w' v ns:=h.chg (M:=fun _=>False) (Chg.of_below hb) (fun _ _ h=>h)

theorem zCh (w:World):(zeroValue 86).run Tryz.prog w=.ok (.agg #[.string ⟨#[]⟩,.int .u8 0,.string ⟨#[]⟩,.int .i64 0]) w:=by kernel_rfl

theorem items_bound {w:World} {ib N:Nat} {It:Nat->Option Value} (h:MapV Tryz.prog 134 w ib N (im It)) (hl:∀ n,It n≠none->okD n):N<=3072:=by
 refine h.bound kDot (fun n=>dotE n) ?_
 intro key hk
 obtain ⟨v,hv⟩:=Option.isSome_iff_exists.1 hk
 obtain ⟨n,h1,h2⟩:=im_shape hv
 exact ⟨n,okD_lt (hl n (by rw[h2];simp)),h1⟩

theorem StoreS.put {w w':World} {ib cb lb n N:Nat} {S:Nat->Prop} {It:Nat->Option Value} {v:Value} (h:StoreS w ib cb lb S It) (hg:w.grownBy w' (some ib)) (hm:MapV Tryz.prog 134 w' ib N (upd (im It) (dotE n) v)) (h1:okD n) (h3:S n):StoreS w' ib cb lb S (fun k=>if k=n then some v else It k):=by
 have hc:Chg (fun k=>k=ib) w w':=(Chg.refl _ w).grown hg (fun k e=>by cases e;exact Or.inl rfl)
 refine ⟨h.ctx.chg hc (fun e=>h.ne.1 e.symm) (fun e=>h.ne.2 e.symm),⟨N,by rw[im_upd] at hm;exact hm⟩,h.ne,fun k hk=>?_⟩
 by_cases e:k=n
 ·subst e;exact ⟨h1,h3⟩
 ·exact h.ok k (by simpa[e] using hk)

def ItemV (v:Value):Prop:=∃ s0 x1 s2 x3,v=.agg #[.string s0,.int .u8 x1,.string s2,.int .i64 x3]

structure OM (w:World) (iv dv:Value) (It0:Nat->Option Value) (ns:List Nat) (ib cb lb B:Nat) (S:Nat->Prop) (It:Nat->Option Value) (wx:World):Prop where
 st:StoreS wx ib cb lb S It
 new:w.heap.size<ib/\w.heap.size<cb/\w.heap.size<lb/\w.heap.size<B
 apart:B≠ib/\B≠cb/\B≠lb
 bx:Blk wx B #[.map (some ib),.map (some cb),.map (some lb)] 102
 r0:∃ u0 u1 u2,Blk wx w.heap.size #[u0,u1,u2] 102
 ds:SliceD wx dv ns
 src:∃ N,MapO Tryz.prog 134 wx iv N (im It0)
 old:(∀ b,dv.ownBlock=some b->b<w.heap.size)/\∀ b,iv=.map (some b)->b<w.heap.size
 below:Below w.heap.size w wx
section
variable {w:World} {iv dv:Value} {It0:Nat->Option Value} {ns:List Nat} {ib cb lb B:Nat} {S S':Nat->Prop} {It:Nat->Option Value} {wx wy:World}
theorem OM.mono (h:OM w iv dv It0 ns ib cb lb B S It wx) (hb:Below wx.heap.size wx wy):OM w iv dv It0 ns ib cb lb B S It wy:=by
 obtain ⟨u0,u1,u2,hr⟩:=h.r0
 obtain ⟨N,hN⟩:=h.src
 exact ⟨h.st.below hb,h.new,h.apart,h.bx.below hb,⟨u0,u1,u2,hr.below hb⟩,h.ds.below hb,⟨N,hN.below hb⟩,h.old,h.below.trans (hb.mono h.below.size)⟩
theorem OM.chgs {M:Nat->Prop} (h:OM w iv dv It0 ns ib cb lb B S It wx) (hM:∀ k,M k->w.heap.size<k/\k≠B) (hs:StoreS wy ib cb lb S' It) (hg:Chg M wx wy):OM w iv dv It0 ns ib cb lb B S' It wy:=by
 obtain ⟨u0,u1,u2,hr⟩:=h.r0
 obtain ⟨N,hN⟩:=h.src
 refine ⟨hs,h.new,h.apart,h.bx.chg hg (fun m=>(hM _ m).2 rfl),⟨u0,u1,u2,hr.chg hg (fun m=>by have:=hM _ m;omega)⟩,h.ds.chg hg (fun b hb m=>by have:=hM _ m;have:=h.old.1 b hb;omega),⟨N,hN.chg hg (fun b hb m=>by have:=hM _ m;have:=h.old.2 b hb;omega)⟩,h.old, ?_⟩
 exact h.below.trans ⟨hg.os,hg.tape,hg.output,hg.size,fun k hk=>hg.block k (Nat.lt_of_lt_of_le hk h.below.size) (fun m=>by have:=hM _ m;omega)⟩
theorem OM.turn {r:Nat} (h:OM w iv dv It0 ns ib cb lb B S It wx) (hg:wx.grownBy wy (some r)) (hr:w.heap.size<r/\r≠ib/\r≠cb/\r≠lb/\r≠B):OM w iv dv It0 ns ib cb lb B S It wy:=by
 have hc:Chg (fun k=>k=r) wx wy:=(Chg.refl _ wx).grown hg (fun k e=>by cases e;exact Or.inl rfl)
 exact h.chgs (fun k m=>by subst m;exact ⟨hr.1,hr.2.2.2.2⟩) (h.st.chg hc (fun e=>hr.2.1 e.symm) (fun e=>hr.2.2.1 e.symm) (fun e=>hr.2.2.2.1 e.symm)) hc
theorem OM.iff (h:OM w iv dv It0 ns ib cb lb B S It wx) (hS:∀ n,1<=nth n->(S' n↔S n)):OM w iv dv It0 ns ib cb lb B S' It wx :=
 ⟨⟨h.st.ctx.iff hS,h.st.its,h.st.ne,fun n hn=>by have:=h.st.ok n hn;exact ⟨this.1,(hS n this.1.2.1).2 this.2⟩⟩,h.new,h.apart,h.bx,h.r0,h.ds,h.src,h.old,h.below⟩
theorem OM.add {n:Nat} (h:OM w iv dv It0 ns ib cb lb B S It wx) (hc:CtxS wy cb lb (fun k=>S k\/k=n)) (hg:Chg (fun k=>k=cb\/k=lb) wx wy):OM w iv dv It0 ns ib cb lb B (fun k=>S k\/k=n) It wy:=by
 have hn:=h.new
 have ha:=h.apart
 have hi:=h.st.ne
 exact h.chgs (M:=fun k=>k=cb\/k=lb) (fun k m=>by omega) ⟨hc,h.st.its.imp fun N g=>g.block (hg.block _ g.lt (by omega)),hi,fun k hk=>by have:=h.st.ok k hk;exact ⟨this.1,Or.inl this.2⟩⟩ hg
end
open Classical in
noncomputable def metI (It:Nat->Option Value) (left:Value->Prop):Nat->Option Value:=fun k=>if left (dotE k) then none else It k
theorem metI_start (It:Nat->Option Value):metI It (fun key=>(im It key).isSome=true)=fun _=>none:=by
 funext k
 unfold metI
 by_cases h:(im It (dotE k)).isSome=true
 ·exact if_pos h
 ·refine (if_neg h).trans ?_
  rw[im_dot] at h
  cases hk:It k with
  | none=>rfl
  | some v=>rw[hk] at h;exact absurd rfl h
theorem metI_none {It:Nat->Option Value} {left:Value->Prop} (h:∀ key,¬left key):metI It left=It:=by
 funext k;unfold metI;rw[if_neg (h _)]
theorem metI_step {It:Nat->Option Value} {left:Value->Prop} {n:Nat} {v:Value} (hI:It n=some v):metI It (fun y=>left y/\¬y=dotE n)=fun k=>if k=n then some v else metI It left k:=by
 funext k
 unfold metI
 by_cases e:k=n
 ·subst e;rw[if_neg (fun h=>h.2 rfl),if_pos rfl,hI]
 ·have:¬(dotE k=dotE n):=fun h=>e (dotE_inj h)
  rw[if_neg e]
  by_cases hl:left (dotE k)
  ·rw[if_pos ⟨hl,this⟩,if_pos hl]
  ·rw[if_neg (fun h=>hl h.1),if_neg hl]

theorem Of_any (w:World) (io:Option Nat) (dv:Value) (It0:Nat->Option Value) (ns:List Nat) (N0:Nat) (hI:MapO Tryz.prog 134 w (.map io) N0 (im It0)) (hIv:∀ n v,It0 n=some v->ItemV v) (hIo:∀ n,It0 n≠none->okD n)
  (hd:SliceD w dv ns) (hl:ns.length<=1000000) (hns:∀ n∈ns,okD n) :
  Calls Tryz.prog 147 #[.map io,dv] w fun e w'=>∃ ib cb lb,e=.returned (.agg #[.map (some ib),.map (some cb),.map (some lb)])/\StoreS w' ib cb lb (fun n=>It0 n≠none\/n∈ns) It0/\(w.heap.size<=ib/\w.heap.size<=cb/\w.heap.size<=lb)/\Below w.heap.size w w':=by
 have hmm:=@run_makeMap Tryz.prog
 have HD:Hid (SliceD w dv ns):=hd
 have HI:Hid (MapO Tryz.prog 134 w (.map io) N0 (im It0)):=hI
 have Hdb:Hid (∀ b,dv.ownBlock=some b->b<w.heap.size):=by
  rcases hd with ⟨rfl,_⟩ | ⟨b,off,cap,rfl,_,h3,_⟩
  ·intro b hb;cases hb
  ·intro b' hb;cases hb;exact h3
 have hshape:∃ ao cap,dv=.slice ao ns.length cap/\ns.length<=cap:=by
  rcases hd with ⟨rfl,rfl⟩ | ⟨b,off,cap,rfl,h2,_⟩
  ·exact ⟨none,0,rfl,Nat.le_refl _⟩
  ·exact ⟨_,cap,rfl,h2⟩
 obtain ⟨ao,cap,hdv,hcap⟩:=hshape
 have Hns:Hid (∀ n∈ns,okD n):=hns
 have Hvv:Hid (∀ n v,It0 n=some v->ItemV v):=hIv
 have Hok:Hid (∀ n,It0 n≠none->okD n):=hIo
 clear hd hns hI hIv hIo
 subst hdv
 go_enter Tryz.func147,Tryz.ntmps147
 go_wp2_with fail
 refine Calls.mono (newContext_any _) ?_
 rintro e w1 ⟨cb,lb,rfl,hc1,hcb,hlb,hb1⟩
 have HG0:Hid (∀ ob,ob=.cells #[.map (some (w.heap.size+1)),.map (some cb),.map (some lb)] 102->OM w (.map io) (.slice ao ns.length cap) It0 ns (w.heap.size+1) cb lb w1.heap.size (fun _=>False) (fun _=>none) (w1.alloc ob)):=fun ob hob=>by
  subst hob
  have e1:(w.alloc (.cells #[.map none,.map none,.map none] 102)).heap.size=w.heap.size+1:=by simp
  have e2:((w.alloc (.cells #[.map none,.map none,.map none] 102)).alloc (.map #[] 0)).heap.size=w.heap.size+2:=by simp
  have m1:=MapV.made (w.alloc (.cells #[.map none,.map none,.map none] 102)) Tryz.prog 134
  rw[e1] at m1
  rw[e2] at hcb hlb hb1
  have hs:=hb1.size
  have m1':MapV Tryz.prog 134 w1 (w.heap.size+1) 0 (fun _=>none):=m1.block (hb1.block _ (by omega))
  have hr:Blk w1 w.heap.size #[.map none,.map none,.map none] 102:=(hb1.block _ (by omega)).trans ((Blk.new w _ _).alloc _)
  have hbw:Below w.heap.size w w1:=(((Below.refl _ w).alloc (Nat.le_refl _) _).alloc (by simp) _).trans (hb1.mono (by omega))
  have hz:=(Below.refl _ w1).alloc (Nat.le_refl _) (.cells #[.map (some (w.heap.size+1)),.map (some cb),.map (some lb)] 102)
  have hx:=hc1.below hz
  have hlt:=hc1.lt
  refine ⟨⟨hx,⟨0,by rw[im_none];exact m1'.block (hz.block _ m1'.lt)⟩,by omega,fun n hn=>absurd rfl hn⟩,by omega,by omega,Blk.new w1 _ _,⟨_,_,_,hr.below hz⟩,HD.out.below (hbw.trans (hz.mono hbw.size)),⟨N0,HI.out.below (hbw.trans (hz.mono hbw.size))⟩,⟨Hdb.out,HI.out.lt⟩,hbw.trans (hz.mono hbw.size)⟩
 clear HD HI hc1 hcb hlb hb1 hmm
 have hG:=HG0.out _ rfl
 have HG:Hid (OM w (.map io) (.slice ao ns.length cap) It0 ns (w.heap.size+1) cb lb w1.heap.size (fun _=>False) (fun _=>none) _):=hG
 obtain ⟨Ni,hNi⟩:=hG.src
 have hszs:w1.heap.size<(w1.alloc (.cells #[.map (some (w.heap.size+1)),.map (some cb),.map (some lb)] 102)).heap.size:=by simp
 have hgn:=hG.new
 have hglt:=hG.st.lt
 clear HG0 hG
 simp only[World.size_alloc] at hglt
 go_wp2_with (first | (at_range;refine wpList_rangeO rfl (.tmp 13) 96 rfl 86 kDot Tryz.underlying96 rfl hNi ?_;intro w3 hr3 hg3 hs3;have hJ3:OM w (.map io) (.slice ao ns.length cap) It0 ns (w.heap.size+1) cb lb w1.heap.size (fun _=>False) (fun _=>none) w3:=(HG.out.mono ((Below.refl _ _).grown hg3 (Nat.le_refl _) (fun k e=>by cases e)));rw[World.size_alloc] at hr3 ⊢;clear HG hNi hg3 hs3;go_frame))
 go_loopg [6] Ni (fun g v6 wx=>∃ (left:Value->Prop) (q:Nat),g=q/\RangeO Tryz.prog 134 wx (.map io) (w1.heap.size+1) Ni (im It0) left q/\OM w (.map io) (.slice ao ns.length cap) It0 ns (w.heap.size+1) cb lb w1.heap.size (fun k=>metI It0 left k≠none) (metI It0 left) wx)
 case atStart =>
  refine ⟨_,_,rfl,hr3, ?_⟩
  rw[metI_start]
  exact hJ3.iff (fun n _=>by simp)
 case round =>
  obtain ⟨left,q,hq,hR,hJ⟩:=hrel
  have HR:Hid (RangeO Tryz.prog 134 wr (.map io) (w1.heap.size+1) Ni (im It0) left q):=hR
  have HJ:Hid (OM w (.map io) (.slice ao ns.length cap) It0 ns (w.heap.size+1) cb lb w1.heap.size (fun k=>metI It0 left k≠none) (metI It0 left) wr):=hJ
  have Hsh:Hid (∀ key v,left key->im It0 key=some v->∃ x:Nat × ByteArray × Int × ByteArray × Int,key=(fun x:Nat × ByteArray × Int × ByteArray × Int=>dotE x.1) x/\v=(fun x:Nat × ByteArray × Int × ByteArray × Int=>Value.agg #[.string x.2.1,.int .u8 x.2.2.1,.string x.2.2.2.1,.int .i64 x.2.2.2.2]) x):=fun key v _ hk=>by
   obtain ⟨n,h1,h2⟩:=im_shape hk
   obtain ⟨s0,x1,s2,x3,h3⟩:=Hvv.out n v h2
   exact ⟨(n,s0,x1,s2,x3),h1,h3⟩
  clear hR hJ hr3 hJ3
  go_wp2_with (first | (at_next;(refine wpList_nextO rfl (.tmp 14) rfl kDot (fun x:Nat × ByteArray × Int × ByteArray × Int=>dotE x.1) (fun x:Nat × ByteArray × Int × ByteArray × Int=>Value.agg #[.string x.2.1,.int .u8 x.2.2.1,.string x.2.2.2.1,.int .i64 x.2.2.2.2]) rfl HR.out Hsh.out ?_ ?_)))
  ·intro hl0
   have hK:OM w (.map io) (.slice ao ns.length cap) It0 ns (w.heap.size+1) cb lb w1.heap.size (fun k=>It0 k≠none\/k∈ns.take 0) It0 wr:=by
    have:=HJ.out
    rw[metI_none hl0] at this
    exact this.iff (fun n _=>by simp)
   have HK:Hid (OM w (.map io) (.slice ao ns.length cap) It0 ns (w.heap.size+1) cb lb w1.heap.size (fun k=>It0 k≠none\/k∈ns.take 0) It0 wr):=hK
   clear HR HJ Hsh hK
   go_wp2_with fail
   go_loopg [30] ns.length (fun g v30 wx=>∃ i:Nat,i+g=ns.length/\v30=.int .i64 (i:Int)/\OM w (.map io) (.slice ao ns.length cap) It0 ns (w.heap.size+1) cb lb w1.heap.size (fun k=>It0 k≠none\/k∈ns.take i) It0 wx)
   case atStart=>exact ⟨0,by omega,rfl,HK.out⟩
   case round =>
    obtain ⟨i,hig,rfl,hG⟩:=hrel
    have HG:Hid (OM w (.map io) (.slice ao ns.length cap) It0 ns (w.heap.size+1) cb lb w1.heap.size (fun k=>It0 k≠none\/k∈ns.take i) It0 wr):=hG
    clear HK
    by_cases hi:i<ns.length
    ·obtain ⟨b,off,cap',hv,hcap',hb,hcells⟩:=hG.ds.resolve_left (fun h=>by rw[h.2] at hi;simp at hi)
     simp only[Value.slice.injEq] at hv
     obtain ⟨rfl,_,rfl⟩:=hv
     have k0:=(hcells i hi).1
     have k1:=(hcells i hi).2
     have hni:=Hns.out _ (List.getElem_mem hi)
     have hall:ns.take (i+1)=ns.take i ++ [ns[i]]:=List.take_succ_eq_append_getElem hi
     have b1A:∀ o,(wr.alloc o).cell? ⟨w1.heap.size,1,none⟩=some (.map (some cb)):=fun o=>((HG.out.bx.alloc o).cell 1).trans rfl
     have b2A:∀ o,(wr.alloc o).cell? ⟨w1.heap.size,2,none⟩=some (.map (some lb)):=fun o=>((HG.out.bx.alloc o).cell 2).trans rfl
     have Hadd:Hid (∀ wx,Below wr.heap.size wr wx->Calls Tryz.prog 201 #[.agg #[.map (some cb),.map (some lb)],dotE ns[i]] wx fun e w'=>e=.returned (.tuple #[])/\OM w (.map io) (.slice (some ⟨b,off,none⟩) ns.length cap) It0 ns (w.heap.size+1) cb lb w1.heap.size (fun k=>It0 k≠none\/k∈ns.take (i+1)) It0 w'):=fun wx hb=>by
      have hG':=HG.out.mono hb
      refine Calls.mono (add_any wx cb lb ns[i] _ hG'.st.ctx hni) ?_
      rintro e w' ⟨rfl,h1,h2⟩
      exact ⟨rfl,(hG'.add h1 h2).iff (fun n _=>by rw[hall,List.mem_append,List.mem_singleton,or_assoc])⟩
     generalize ns[i]=n at *
     clear hG hcells
     go_wp2_with fail
     refine Calls.mono (Hadd.out _ ?_) ?_
     ·go_grown
     rintro e w7 ⟨rfl,hG7⟩
     have HG7:Hid (OM w (.map io) (.slice (some ⟨b,off,none⟩) ns.length cap) It0 ns (w.heap.size+1) cb lb w1.heap.size (fun k=>It0 k≠none\/k∈ns.take (i+1)) It0 w7):=hG7
     clear hG7 Hadd b1A b2A k0 k1
     go_wp2_with fail
     go_roundg (ns.length-(i+1))
     case measure=>omega
     case rel=>exact ⟨i+1,by omega,by go_num,HG7.out⟩
    ·have b0:=(hG.bx.cell 0).trans rfl
     have b1:=(hG.bx.cell 1).trans rfl
     have b2:=(hG.bx.cell 2).trans rfl
     obtain ⟨u0,u1,u2,hr⟩:=hG.r0
     have r0:=(hr.cell 0).trans rfl
     have r1:=(hr.cell 1).trans rfl
     have r2:=(hr.cell 2).trans rfl
     have f0:=hr.frozen
     have hw:=hG.below.size
     have hn:=hG.new
     have HF:Hid (∀ wx,Chg (fun k=>k=w.heap.size) wr wx->StoreS wx (w.heap.size+1) cb lb (fun n=>It0 n≠none\/n∈ns) It0):=fun wx hc=>by
      have h:=HG.out.st.chg hc (by omega) (by omega) (by omega)
      rw[List.take_of_length_le (by omega)] at h
      exact h
     have HB:Hid (Below w.heap.size w wr):=HG.out.below
     clear hG hr
     go_wp2_with fail
     refine bodyPost_ret (v:=.agg #[.map (some (w.heap.size+1)),.map (some cb),.map (some lb)]) (by simp[results,Tryz.results147,go_sem,r0,r1,r2,cs_same,cs_oth,World.cell?_setCell_other]) rfl ⟨_,_,_,rfl,HF.out _ ?_,by omega, ?_⟩
     ·exact (((Chg.refl (fun k=>k=w.heap.size) wr).setCell (p:=⟨w.heap.size,0,none⟩) rfl _).setCell (p:=⟨w.heap.size,1,none⟩) rfl _).setCell (p:=⟨w.heap.size,2,none⟩) rfl _
     ·exact ((HB.out.setCell (p:=⟨w.heap.size,0,none⟩) (Nat.le_refl _) _).setCell (p:=⟨w.heap.size,1,none⟩) (Nat.le_refl _) _).setCell (p:=⟨w.heap.size,2,none⟩) (Nat.le_refl _) _
  ·intro n s0 x1 s2 x3 w4 q4 hlk hmk hR4 hlt4 hg4 hs4 hen4
   have hIn:It0 n=some (.agg #[.string s0,.int .u8 x1,.string s2,.int .i64 x3]):=by rw[<- im_dot It0 n];exact hmk
   have hok:=Hok.out n (by rw[hIn];simp)
   obtain ⟨kl,hkl⟩:=keyE n (by have:=hok.1;omega)
   have hrl:w1.heap.size+1<w4.heap.size:=by have:=HR.out.lt;omega
   have HJ4:Hid (OM w (.map io) (.slice ao ns.length cap) It0 ns (w.heap.size+1) cb lb w1.heap.size (fun k=>metI It0 left k≠none) (metI It0 left) w4):=HJ.out.turn hg4 (by omega)
   have HR4:Hid (RangeO Tryz.prog 134 w4 (.map io) (w1.heap.size+1) Ni (im It0) (fun y=>left y/\¬y=dotE n) q4):=hR4
   have HM:Hid (metI It0 (fun y=>left y/\¬y=dotE n)=fun k=>if k=n then some (.agg #[.string s0,.int .u8 x1,.string s2,.int .i64 x3]) else metI It0 left k):=metI_step hIn
   have hbz:Below w4.heap.size w4 ((w4.alloc (.cells #[.int .i64 (who n:Int),.int .i64 (nth n:Int)] 134)).alloc (.cells #[.string s0,.int .u8 x1,.string s2,.int .i64 x3] 86)):=by go_grown
   have HJz:Hid (∀ ob ob',OM w (.map io) (.slice ao ns.length cap) It0 ns (w.heap.size+1) cb lb w1.heap.size (fun k=>metI It0 left k≠none) (metI It0 left) ((w4.alloc ob).alloc ob')):=fun ob ob'=>HJ4.out.mono (((Below.refl _ w4).alloc (Nat.le_refl _) ob).alloc (by simp) ob')
   have HRz:Hid (∀ ob ob',RangeO Tryz.prog 134 ((w4.alloc ob).alloc ob') (.map io) (w1.heap.size+1) Ni (im It0) (fun y=>left y/\¬y=dotE n) q4):=fun ob ob'=>HR4.out.chg (M:=fun _=>False) (Chg.of_below (((Below.refl _ w4).alloc (Nat.le_refl _) ob).alloc (by simp) ob')) (fun _ _ h=>h) (fun h=>h)
   have kdz:Hid (∀ ob',Blk ((w4.alloc (.cells #[.int .i64 (who n:Int),.int .i64 (nth n:Int)] 134)).alloc ob') w4.heap.size #[.int .i64 (who n:Int),.int .i64 (nth n:Int)] 134):=fun ob'=>(Blk.new w4 _ _).alloc _
   have b0A:∀ o o',((w4.alloc o).alloc o').cell? ⟨w1.heap.size,0,none⟩=some (.map (some (w.heap.size+1))):=fun o o'=>(((HJ4.out.bx.alloc o).alloc o').cell 0).trans rfl
   obtain ⟨Nj,hNj⟩:=HJ4.out.st.its
   have hNb:Nj<=3072:=items_bound hNj (fun k hk=>(HJ4.out.st.ok k hk).1)
   have hmx:Nj<maxLen:=by unfold maxLen;omega
   have HNj:Hid (∀ o o',MapV Tryz.prog 134 ((w4.alloc o).alloc o') (w.heap.size+1) Nj (im (metI It0 left))):=fun o o'=>hNj.block ((((Below.refl _ w4).alloc (Nat.le_refl _) o).alloc (by simp) o').block _ hNj.lt)
   clear hR4 hg4 HR HJ Hsh hNj hbz
   have hne4:=HJ4.out.st.ne
   have hap4:=HJ4.out.apart
   have hn4:=HJ4.out.new
   have hio4:=HJ4.out.old.2
   have HP:Hid (∀ o o' w6 N6,((w4.alloc o).alloc o').grownBy w6 (some (w.heap.size+1))->MapV Tryz.prog 134 w6 (w.heap.size+1) N6 (upd (im (metI It0 left)) (dotE n) (.agg #[.string s0,.int .u8 x1,.string s2,.int .i64 x3]))->∀ w7,CtxS w7 cb lb (fun k=>metI It0 left k≠none\/k=n)->Chg (fun k=>k=cb\/k=lb) w6 w7 ->
     OM w (.map io) (.slice ao ns.length cap) It0 ns (w.heap.size+1) cb lb w1.heap.size (fun k=>metI It0 (fun y=>left y/\¬y=dotE n) k≠none) (metI It0 (fun y=>left y/\¬y=dotE n)) w7/\RangeO Tryz.prog 134 w7 (.map io) (w1.heap.size+1) Ni (im It0) (fun y=>left y/\¬y=dotE n) q4):=fun o o' w6 N6 hg6 hm6 w7 hc7 hch7=>by
    have hJz:=HJz.out o o'
    have hcg:Chg (fun k=>k=w.heap.size+1) ((w4.alloc o).alloc o') w6:=(Chg.refl _ _).grown hg6 (fun k e=>by cases e;exact Or.inl rfl)
    have hct:Chg (fun k=>k=w.heap.size+1\/k=cb\/k=lb) ((w4.alloc o).alloc o') w7:=Chg.trans (b:=w6) ⟨hcg.os,hcg.tape,hcg.output,hcg.size,fun k hk hm=>hcg.block k hk (fun e=>hm (Or.inl e))⟩ ⟨hch7.os,hch7.tape,hch7.output,hch7.size,fun k hk hm=>hch7.block k hk (fun e=>hm (Or.inr e))⟩
    constructor
    ·obtain ⟨u0,u1,u2,hr⟩:=hJz.r0
     obtain ⟨N,hN⟩:=hJz.src
     have hM:∀ k,(k=w.heap.size+1\/k=cb\/k=lb)->w.heap.size<k/\k≠w1.heap.size:=fun k m=>by omega
     refine ⟨⟨hc7.iff (fun k _=>?_),⟨N6, ?_⟩,hJz.st.ne,fun k hk=>?_⟩,hJz.new,hJz.apart,hJz.bx.chg hct (fun m=>(hM _ m).2 rfl),⟨u0,u1,u2,hr.chg hct (fun m=>by have:=hM _ m;omega)⟩,hJz.ds.chg hct (fun b hb m=>by have:=hM _ m;have:=hJz.old.1 b hb;omega),⟨N,hN.chg hct (fun b hb m=>by have:=hM _ m;have:=hJz.old.2 b hb;omega)⟩,hJz.old, ?_⟩
     ·rw[HM.out]
      by_cases e:k=n
      ·subst e;simp
      ·simp[e]
     ·rw[HM.out,<- im_upd]
      exact hm6.block (hch7.block _ hm6.lt (by omega))
     ·rw[HM.out] at hk
      by_cases e:k=n
      ·subst e;exact ⟨hok,by rw[HM.out];simp⟩
      ·have hk2:metI It0 left k≠none:=by simpa[e] using hk
       exact ⟨(hJz.st.ok k hk2).1,by rw[HM.out];simpa[e] using hk2⟩
     ·exact hJz.below.trans ⟨hct.os,hct.tape,hct.output,hct.size,fun k hk=>hct.block k (Nat.lt_of_lt_of_le hk hJz.below.size) (fun m=>by have:=hM _ m;omega)⟩
    ·exact (HRz.out o o').chg hct (fun b hb m=>by have:=hio4 b hb;omega) (by omega)
   have HC:Hid (∀ o o' w6,((w4.alloc o).alloc o').grownBy w6 (some (w.heap.size+1))->CtxS w6 cb lb (fun k=>metI It0 left k≠none)/\Blk w6 w1.heap.size #[.map (some (w.heap.size+1)),.map (some cb),.map (some lb)] 102):=fun o o' w6 hg6=>by
    have hJz:=HJz.out o o'
    have hcg:Chg (fun k=>k=w.heap.size+1) ((w4.alloc o).alloc o') w6:=(Chg.refl _ _).grown hg6 (fun k e=>by cases e;exact Or.inl rfl)
    exact ⟨hJz.st.ctx.chg hcg (by omega) (by omega),hJz.bx.grown hg6 (by omega)⟩
   have HKD:Hid (∀ o' w6,((w4.alloc (.cells #[.int .i64 (who n:Int),.int .i64 (nth n:Int)] 134)).alloc o').grownBy w6 (some (w.heap.size+1))->Blk w6 wr.heap.size #[.int .i64 (who n:Int),.int .i64 (nth n:Int)] 134):=fun o' w6 hg6=>by
    rw[<- hs4]
    exact (kdz.out o').grown hg6 (by omega)
   clear HJz HRz kdz HJ4 HR4
   go_wp2_with (first | (at_mapUpdate;(refine wpList_store rfl (.tmp 21) (.tmp 22) (.tmp 23) 96 rfl 86 kDot Tryz.underlying96 rfl (HNj.out _ _) hmx (dotE n) (.agg #[.string s0,.int .u8 x1,.string s2,.int .i64 x3]) _ rfl rfl hkl ?_;intro w6 hm6 hg6 hs6;have hP:=HP.out _ _ _ _ hg6 hm6;have hC6:=HC.out _ _ _ hg6;have kd6:=HKD.out _ _ hg6;have b1:=(hC6.2.cell 1).trans rfl;have b2:=(hC6.2.cell 2).trans rfl;have d0:=(kd6.cell 0).trans rfl;have d1:=(kd6.cell 1).trans rfl;have HP6:Hid (_):=hP;clear hP)))
   refine Calls.mono (add_any w6 cb lb n _ hC6.1 hok) ?_
   rintro e w7 ⟨rfl,hc7,hch7⟩
   have HQ:Hid (_):=HP6.out w7 hc7 hch7
   clear hC6 kd6 b1 b2 d0 d1 HP6 hc7 hch7
   go_wp2_with fail
   go_roundg q4
   case measure=>omega
   case rel=>exact ⟨_,q4,rfl,HQ.out.2,HQ.out.1⟩

theorem wpList_ins {P:Program} {k:TypeId} {w:World} {b N:Nat} {m:Value->Option Value} {ops:Array Oper} {rest:List Oper} {o:Oper} {a:Act} {Q:Exit->Act->World->Prop} (hg:o.guard=none) (mo x v:Operand) (t:TypeId) (hop:o.op=Op.insert t mo x v) (e:TypeId) (K:Keyed P k) (ht:P.underlying t=some (.map k e))
  (hm:a.eval mo=.map (some b)) (h:MapV P k w b N m) (hn:N<maxLen) (key val:Value) (kl:Lit) (hx:a.eval x=key) (hv:a.eval v=val) (hk:keyOf P k key=some kl)
  (hK:∀ w',MapV P k w' b (if (m key).isSome then N else N+1) (upd m key val)->w.grownBy w' (some b)->w'.heap.size=w.heap.size->wpList P ops Q rest (a.put o.dst undef) w'):wpList P ops Q (o :: rest) a w:=by
 refine wpList_plain hg fun K' hK'=>?_
 obtain ⟨w',hrun,r1,r2,r3⟩:=h.store K ht hn val hk
 unfold Oper.wp
 simp[execOp,hop,hm,hx,hv,hrun,Result.andThen]
 exact hK' _ _ (hK w' r1 r2 r3)

theorem Gone_any (w:World) (dv:Value) (ns:List Nat) (hd:SliceD w dv ns) (hl:ns.length<=1000000) (hns:∀ n∈ns,okD n) :
  Calls Tryz.prog 88 #[dv] w fun e w'=>∃ ib cb lb,e=.returned (.agg #[.map (some ib),.map (some cb),.map (some lb)])/\StoreS w' ib cb lb (fun n=>n∈ns) (fun _=>none)/\(w.heap.size<=ib/\w.heap.size<=cb/\w.heap.size<=lb)/\Below w.heap.size w w':=by
 have hshape:∃ ao cap,dv=.slice ao ns.length cap:=by
  rcases hd with ⟨rfl,rfl⟩ | ⟨b,off,cap,rfl,h2,_⟩
  ·exact ⟨none,0,rfl⟩
  ·exact ⟨_,cap,rfl⟩
 obtain ⟨ao,cap,hdv⟩:=hshape
 subst hdv
 have Hof:Hid (∀ ob,Calls Tryz.prog 147 #[.map none,.slice ao ns.length cap] (w.alloc ob) fun e w'=>∃ ib cb lb,e=.returned (.agg #[.map (some ib),.map (some cb),.map (some lb)])/\StoreS w' ib cb lb (fun n=>n∈ns) (fun _=>none)/\(w.heap.size<ib/\w.heap.size<cb/\w.heap.size<lb)/\Below (w.heap.size+1) (w.alloc ob) w'):=fun ob=>by
  have hb:Below w.heap.size w (w.alloc ob):=(Below.refl _ w).alloc (Nat.le_refl _) _
  refine Calls.mono (Of_any (w.alloc ob) none (.slice ao ns.length cap) (fun _=>none) ns 0 (Or.inl ⟨rfl,rfl,im_none⟩) (fun n v h=>by cases h) (fun n h=>absurd rfl h) (hd.below hb) hl hns) ?_
  rintro e w' ⟨ib,cb,lb,rfl,h1,h2,h3⟩
  simp only[World.size_alloc] at h2 h3
  refine ⟨ib,cb,lb,rfl,⟨h1.ctx.iff (fun n _=>by simp),h1.its,h1.ne,fun n hn=>absurd rfl hn⟩,by omega,h3⟩
 clear hd hns
 go_enter Tryz.func88,Tryz.ntmps88
 go_wp2_with fail
 refine Calls.mono (Hof.out _) ?_
 rintro e w1 ⟨ib,cb,lb,rfl,hst,hn,hb⟩
 have kr:Blk w1 w.heap.size #[.map none,.map none,.map none] 102:=(hb.block _ (by omega)).trans (Blk.new w _ _)
 have r0:=(kr.cell 0).trans rfl
 have r1:=(kr.cell 1).trans rfl
 have r2:=(kr.cell 2).trans rfl
 have f0:=kr.frozen
 have HB:Hid (Below w.heap.size w w1):=((Below.refl _ w).alloc (Nat.le_refl _) _).trans (hb.mono (by omega))
 have HS:Hid (StoreS w1 ib cb lb (fun n=>n∈ns) (fun _=>none)):=hst
 clear hst hb kr Hof
 go_wp2_with fail
 refine bodyPost_ret (v:=.agg #[.map (some ib),.map (some cb),.map (some lb)]) (by simp[results,Tryz.results88,go_sem,r0,r1,r2,cs_same,cs_oth,World.cell?_setCell_other]) rfl ⟨_,_,_,rfl,HS.out.chg (M:=fun k=>k=w.heap.size) ?_ (by omega) (by omega) (by omega),by omega, ?_⟩
 ·exact (((Chg.refl (fun k=>k=w.heap.size) w1).setCell (p:=⟨w.heap.size,0,none⟩) rfl _).setCell (p:=⟨w.heap.size,1,none⟩) rfl _).setCell (p:=⟨w.heap.size,2,none⟩) rfl _
 ·exact ((HB.out.setCell (p:=⟨w.heap.size,0,none⟩) (Nat.le_refl _) _).setCell (p:=⟨w.heap.size,1,none⟩) (Nat.le_refl _) _).setCell (p:=⟨w.heap.size,2,none⟩) (Nat.le_refl _) _

theorem One_any (w:World) (n:Nat) (c0 c1 c2 c3:Value) (hn:okD n) (hsh:∃ s0 x1 s2 x3,c0=.string s0/\c1=.int .u8 x1/\c2=.string s2/\c3=.int .i64 x3) :
  Calls Tryz.prog 91 #[dotE n,.agg #[c0,c1,c2,c3]] w fun e w'=>∃ ib cb lb,e=.returned (.agg #[.map (some ib),.map (some cb),.map (some lb)])/\StoreS w' ib cb lb (fun k=>k=n) (fun k=>if k=n then some (.agg #[c0,c1,c2,c3]) else none)/\(w.heap.size<=ib/\w.heap.size<=cb/\w.heap.size<=lb)/\Below w.heap.size w w':=by
 obtain ⟨s0,x1,s2,x3,rfl,rfl,rfl,rfl⟩:=hsh
 obtain ⟨kl,hkl⟩:=keyE n (by have:=hn.1;omega)
 have hmm:=@run_makeMap Tryz.prog
 have HM:Hid (∀ o1 o2 o3,MapV Tryz.prog 134 ((((w.alloc o1).alloc o2).alloc o3).alloc (.map #[] 0)) (w.heap.size+1+1+1) 0 (fun _=>none)):=fun o1 o2 o3=>by
  have:=MapV.made (((w.alloc o1).alloc o2).alloc o3) Tryz.prog 134
  simpa using this
 have Hof:Hid (∀ wx N m,MapV Tryz.prog 134 wx (w.heap.size+1+1+1) N m->m=upd (fun _=>none) (dotE n) (.agg #[.string s0,.int .u8 x1,.string s2,.int .i64 x3])->Calls Tryz.prog 147 #[.map (some (w.heap.size+1+1+1)),.slice none 0 0] wx fun e w'=>∃ ib cb lb,e=.returned (.agg #[.map (some ib),.map (some cb),.map (some lb)])/\StoreS w' ib cb lb (fun k=>k=n) (fun k=>if k=n then some (.agg #[.string s0,.int .u8 x1,.string s2,.int .i64 x3]) else none)/\(wx.heap.size<=ib/\wx.heap.size<=cb/\wx.heap.size<=lb)/\Below wx.heap.size wx w'):=fun wx N m hm he=>by
  have hmi:m=im (fun k=>if k=n then some (.agg #[.string s0,.int .u8 x1,.string s2,.int .i64 x3]) else none):=by
   rw[he,<- im_none,im_upd]
  rw[hmi] at hm
  refine Calls.mono (Of_any wx (some (w.heap.size+1+1+1)) (.slice none 0 0) _ [] N (Or.inr ⟨_,rfl,hm⟩) (fun k v h=>?_) (fun k h=>?_) (Or.inl ⟨rfl,rfl⟩) (by simp) (fun k hk=>by cases hk)) ?_
  ·split at h
   ·cases h;exact ⟨_,_,_,_,rfl⟩
   ·cases h
  ·by_cases e:k=n
   ·subst e;exact hn
   ·rw[if_neg e] at h;exact absurd rfl h
  ·rintro e w' ⟨ib,cb,lb,rfl,h1,h2,h3⟩
   refine ⟨ib,cb,lb,rfl,⟨h1.ctx.iff (fun k _=>?_),h1.its,h1.ne,fun k hk=>?_⟩,h2,h3⟩
   ·by_cases e:k=n <;> simp[e]
   ·by_cases e:k=n
    ·subst e;exact ⟨hn,rfl⟩
    ·rw[if_neg e] at hk;exact absurd rfl hk
 have kr:Hid (∀ o1 o2,Blk ((w.alloc o1).alloc o2 |>.alloc (.cells #[.map none,.map none,.map none] 102)) (w.heap.size+1+1) #[.map none,.map none,.map none] 102):=fun o1 o2=>by
  have:=Blk.new ((w.alloc o1).alloc o2) #[.map none,.map none,.map none] 102
  simpa using this
 go_enter Tryz.func91,Tryz.ntmps91
 go_wp2_with (first | (refine wpList_ins rfl (.tmp 5) (.tmp 6) (.tmp 7) 96 rfl 86 kDot Tryz.underlying96 rfl (HM.out _ _ _) (by unfold maxLen;omega) (dotE n) (.agg #[.string s0,.int .u8 x1,.string s2,.int .i64 x3]) _ rfl rfl hkl ?_;intro w6 hm6 hg6 hs6;have kr6:=((kr.out _ _).alloc (.map #[] 0)).grown hg6 (by omega);have hb6:Below w.heap.size w w6:=(Below.grown (w:=((((w.alloc _).alloc _).alloc _).alloc (.map #[] 0))) (by go_grown) hg6 (by simp;omega) (fun k e=>by cases e;omega))))
 refine Calls.mono (Hof.out w6 _ _ hm6 rfl) ?_
 rintro e w7 ⟨ib,cb,lb,rfl,hst,hnew,hb7⟩
 have k7:=kr6.below hb7
 have hs7:w.heap.size+1+1+1<w6.heap.size:=hm6.lt
 have r0:=(k7.cell 0).trans rfl
 have r1:=(k7.cell 1).trans rfl
 have r2:=(k7.cell 2).trans rfl
 have f0:=k7.frozen
 have HB:Hid (Below w.heap.size w w7):=hb6.trans (hb7.mono hb6.size)
 have HS:Hid (StoreS w7 ib cb lb (fun k=>k=n) (fun k=>if k=n then some (.agg #[.string s0,.int .u8 x1,.string s2,.int .i64 x3]) else none)):=hst
 clear hst hb7 kr6 k7 Hof hm6 hg6 hb6 kr HM
 go_wp2_with fail
 refine bodyPost_ret (v:=.agg #[.map (some ib),.map (some cb),.map (some lb)]) (by simp[results,Tryz.results91,go_sem,r0,r1,r2,cs_same,cs_oth,World.cell?_setCell_other]) rfl ⟨_,_,_,rfl,HS.out.chg (M:=fun k=>k=w.heap.size+1+1) ?_ (by omega) (by omega) (by omega),by omega, ?_⟩
 ·exact (((Chg.refl (fun k=>k=w.heap.size+1+1) w7).setCell (p:=⟨w.heap.size+1+1,0,none⟩) rfl _).setCell (p:=⟨w.heap.size+1+1,1,none⟩) rfl _).setCell (p:=⟨w.heap.size+1+1,2,none⟩) rfl _
 ·exact ((HB.out.setCell (p:=⟨w.heap.size+1+1,0,none⟩) (by show w.heap.size<=w.heap.size+1+1;omega) _).setCell (p:=⟨w.heap.size+1+1,1,none⟩) (by show w.heap.size<=w.heap.size+1+1;omega) _).setCell (p:=⟨w.heap.size+1+1,2,none⟩) (by show w.heap.size<=w.heap.size+1+1;omega) _
end Go.Proofs.YtfmmllpjgkgeaaaGreatDoor

