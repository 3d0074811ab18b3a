import Derived.Test.YtfmmllpjgkgeaaaGreatDoorPartM28
import Derived.Test.YtfmmllpjgkgeaaaGreatDoorPartM29
set_option linter.unusedVariables false
set_option linter.unusedSimpArgs false
set_option maxHeartbeats 16000000
set_option maxRecDepth 100000
namespace Go.Proofs.YtfmmllpjgkgeaaaGreatDoor
open Go.Proofs.Tryz Go.RowKit Go.Maps Go.WideMaps Go.Shelf
variable{fr:Nat}{r:RD}{w:World}
def jR(w w':World)(r:RD)(fr:Nat)(K:Nat->Nat)(C:Nat->Option Thk.Ch):Prop :=
 ((∀d,1<=nth d->¬fD r K C d)/\dQ w' r/\Below w.heap.size w w')\/((∃d,1<=nth d/\fD r K C d)/\∃r',vP w w' r fr K C r')
theorem jR.keep{w':World}{K:Nat->Nat}{C:Nat->Option Thk.Ch}(h:jR w w' r fr K C):ay r.own w w':=by
 rcases h with⟨_,_,h⟩|⟨_,r',h⟩
 ·exact ay.of_below h
 ·exact h.aJ
theorem Rk{wy:World}(hG:Glob w)(hF:dQ w r)(hcut:r.cut=false)(hfr:fr<=5)(hb:Below w.heap.size w wy){b:Nat}{aS:List jh}(hsl:fQ wy b 0 aS)(hl:1<=aS.length/\aS.length<=10){K':Nat->Nat}{C':Nat->Option Thk.Ch}(hJ:sU (aS++[r.known]) K' C')(hB:kR (fst K') C')(hK':∀x,K' x<=500)(hsz:(∃d,1<=nth d/\fD r K' C' d)->aV r.K+1<=aV K'):Calls prog 92 #[.pointer (some ⟨r.rb,0,none⟩),.int .i64 fr,.slice (some ⟨b,0,none⟩) aS.length aS.length] wy λe w'=>e=.returned (.bool true)/\jR w w' r fr K' C'/\ay r.own wy w':=by
 refine Calls.mono (BX wy (hG.mono hb) r (hF.below hb) hcut fr hfr b aS hsl hl K' C' hJ hB hK' hsz (by have:=Gz hK';omega)) ?_;rintro e w9⟨rfl,⟨hno,Vb⟩|⟨hs,io,co,lo,st,pv,h1,h2,h3,h4,h5,h6,h7⟩⟩
 ·have hbb:=hb.trans (Vb.mono hb.size);exact⟨rfl,Or.inl ⟨hno,hF.below hbb,hbb⟩,ay.of_below Vb⟩
 ·have hsz:=hb.size;refine⟨rfl,Or.inr ⟨hs,_,⟨io,co,lo,st,pv,rfl,h1,h2,by omega,λk hk=>Nat.le_trans hsz (h4 k hk), ?_⟩,h6,ay.pre hb h7⟩,h7⟩;rcases h5 with h5|⟨k,h5,h8⟩
  ·exact Or.inl h5
  ·exact Or.inr ⟨k,h5,by omega⟩
theorem jR.aJ{w1 w2:World}{K:Nat->Nat}{C:Nat->Option Thk.Ch}{M:Nat->Prop}(h:jR w w1 r fr K C)(hF:dQ w r)(hc:ay M w1 w2)(hM:∀k,M k->w.heap.size<=k)(hM2:∀r',vP w w1 r fr K C r'->∀k,r'.own k->¬M k):jR w w2 r fr K C:=by
 rcases h with⟨h1,h2,h3⟩|⟨h1,r',h2⟩
 ·refine Or.inl ⟨h1,h2.aJ hc (λk hk m=>by have:=hM k m;have:=hF.lt hk;omega),h3.trans ⟨hc.os,hc.tape,hc.output,hc.size,λk hk=>hc.block k (Nat.lt_of_lt_of_le hk h3.size) (λm=>by have:=hM k m;omega)⟩⟩
 ·refine Or.inr ⟨h1,r',h2.eq,h2.rep.aJ hc (hM2 r' h2), ?_⟩;exact⟨hc.os.trans h2.aJ.os,hc.tape.trans h2.aJ.tape,hc.output.trans h2.aJ.output,Nat.le_trans h2.aJ.size hc.size,λk hk hn=>(hc.block k (Nat.lt_of_lt_of_le hk h2.aJ.size) (λm=>by have:=hM k m;omega)).trans (h2.aJ.block k hk hn)⟩
theorem dQ.kT(h:dQ w r){b:Nat}{cs:Array Value}{t:TypeId}(hb:aA w b cs t)(h1:t≠125)(h2:t≠220)(h3:t≠222)(h4:t≠229):¬r.own b:=λhk=>by
 rcases hk with rfl|hk|hk|rfl
 ·exact mD h.blk hb (λe=>h1 e.symm) rfl
 ·exact h.st.r.iZ hk hb
 ·rcases hk with rfl|hk|rfl|⟨p,hp,hk⟩
  ·exact mD h.kept.blk hb (λe=>h2 e.symm) rfl
  ·exact row_ne hb h.kept.row h3 hk
  ·obtain⟨N,hN⟩:=h.kept.ack;exact hN.mP hb
  ·exact(h.kept.st p hp).iZ hk hb
 ·obtain⟨rs,its,h5,_⟩:=h.Xm;obtain⟨cs',h6⟩:=h5.blk;exact mD h6 hb (λe=>h4 e.symm) rfl
theorem GI(w:World)(hG:Glob w)(r:RD)(hF:dQ w r)(hcut:r.cut=false)(fr m:Nat)(hfr:fr<=5)(gi gc gl:Nat)(S2:Nat->Prop)(C2:Nat->Option Thk.Ch)(hg:aN w gi gc gl S2 (aO C2))(K':Nat->Nat)(C':Nat->Option Thk.Ch)(hJ:sU ([⟨some gi,some gc,some gl,S2,aO C2⟩]++[r.known]) K' C')(hB:kR (fst K') C')(hK':∀x,K' x<=500)(hsz:(∃d,1<=nth d/\fD r K' C' d)->aV r.K+1<=aV K'):Calls prog 103 #[.pointer (some ⟨r.rb,0,none⟩),.agg #[.int .i64 fr,.int .i64 m,.bool false,.map (some gi),.map (some gc),.map (some gl)]] w λe w'=>e=.returned (.tuple #[.agg #[.int .i64 r.a,.int .i64 m,.bool true,.map none,.map none,.map none],.bool true])/\jR w w' r fr K' C':=by
 have hrl:=hF.blk.lt;obtain⟨W0,hW0⟩:∃W0,W0=(w.alloc (.cells #[.int .i64 fr,.int .i64 m,.bool false,.map (some gi),.map (some gc),.map (some gl)] 104)).alloc (.cells #[.int .i64 0,.int .i64 0,.bool false,.map none,.map none,.map none] 104):=⟨_,rfl⟩;have hb0:Below w.heap.size w W0:=by rw[hW0];exact((Below.refl _ w).alloc (Nat.le_refl _) _).alloc (by simp) _
 have k0:aA W0 w.heap.size #[.int .i64 fr,.int .i64 m,.bool false,.map (some gi),.map (some gc),.map (some gl)] 104:=by rw[hW0];exact(aA.new w _ _).alloc _
 have k1:aA W0 (w.heap.size+1) #[.int .i64 0,.int .i64 0,.bool false,.map none,.map none,.map none] 104:=by rw[hW0];have:=aA.new (w.alloc (.cells #[.int .i64 fr,.int .i64 m,.bool false,.map (some gi),.map (some gc),.map (some gl)] 104)) #[.int .i64 0,.int .i64 0,.bool false,.map none,.map none,.map none] 104;rwa [World.size_alloc]at this
 have hs0:W0.heap.size=w.heap.size+2:=by rw[hW0];simp
 have z0:=(k0.cell 0).trans rfl;have z3:=(k0.cell 3).trans rfl;have z4:=(k0.cell 4).trans rfl;have z5:=(k0.cell 5).trans rfl;have HL:Hid (∀wx,wx=W0.alloc (.cells #[.map (some gi),.map (some gc),.map (some gl)] 102)->Calls prog 92 #[.pointer (some ⟨r.rb,0,none⟩),.int .i64 fr,.slice (some ⟨w.heap.size+2,0,none⟩) 1 1] wx λe w'=>e=.returned (.bool true)/\(jR w w' r fr K' C'/\aA w' w.heap.size #[.int .i64 fr,.int .i64 m,.bool false,.map (some gi),.map (some gc),.map (some gl)] 104/\aA w' (w.heap.size+1) #[.int .i64 0,.int .i64 0,.bool false,.map none,.map none,.map none] 104/\aA w' r.rb #[.int .i64 r.a,.map none,.map none,.map none] 125=aA w' r.rb #[.int .i64 r.a,.map none,.map none,.map none] 125/\w'.cell? ⟨r.rb,0,none⟩=some (.int .i64 r.a))):=λwx hx=>by
  have hbx:Below W0.heap.size W0 wx:=by rw[hx];exact(Below.refl _ W0).alloc (Nat.le_refl _) _
  have hbw:=hb0.trans (hbx.mono hb0.size);have ks:aA wx (w.heap.size+2) #[.map (some gi),.map (some gc),.map (some gl)] 102:=by rw[hx,<- hs0];exact aA.new W0 _ _
  have hsl:fQ wx (w.heap.size+2) 0 [⟨some gi,some gc,some gl,S2,aO C2⟩]:=by
   refine⟨ks.lt, ?_, ?_, ?_, ?_⟩
   ·intro j hj
    match j,hj with
    | 0,_=>rw[ks.cell];(first|done|rfl)
   ·intro j hj
    match j,hj with
    | 0,_=>rw[ks.cell];(first|done|rfl)
   ·intro j hj
    match j,hj with
    | 0,_=>rw[ks.cell];(first|done|rfl)
   ·intro s hs;rw[List.mem_singleton]at hs;subst hs;exact⟨(hg.below hbw).toR,λn x hx=>jL hx⟩
  refine Calls.mono (Rk hG hF hcut hfr hbw hsl (by simp) hJ hB hK' hsz) ?_;rintro e w'⟨rfl,h1,h2⟩;have hno:∀k,w.heap.size<=k->¬r.own k:=λk hk ho=>by have:=hF.lt ho;omega
  refine⟨rfl,h1,(k0.below hbx).aJ h2 (hno _ (Nat.le_refl _)),(k1.below hbx).aJ h2 (hno _ (by omega)),rfl, ?_⟩;rcases h1 with⟨_,h3,_⟩|⟨_,r',h3⟩
  ·exact(h3.blk.cell 0).trans rfl
  ·obtain⟨io,co,lo,st,pv,he,_⟩:=h3.eq;have:=h3.rep.blk;rw[he]at this;exact(this.cell 0).trans rfl
 have HW0:Hid (W0=(w.alloc (.cells #[.int .i64 fr,.int .i64 m,.bool false,.map (some gi),.map (some gc),.map (some gl)] 104)).alloc (.cells #[.int .i64 0,.int .i64 0,.bool false,.map none,.map none,.map none] 104)):=hW0;have HF:Hid (dQ w r):=hF;have Hs0:Hid (W0.heap.size=w.heap.size+2):=hs0;clear hF hg hJ hB hsz k0 k1 hb0 hW0 hG hs0;go_enter func103,ntmps103;go_wp2_with fail;have HLc:=HL.out;rw[HW0.out]at HLc;refine Calls.mono (HLc _ rfl) ?_;rintro e w3⟨rfl,h3⟩;clear HLc HL;have H3:Hid (jR w w3 r fr K' C'/\aA w3 (w.heap.size+1) #[.int .i64 0,.int .i64 0,.bool false,.map none,.map none,.map none] 104):=⟨h3.1,h3.2.2.1⟩;have y1:w3.cell? ⟨w.heap.size,1,none⟩=some (.int .i64 m):=(h3.2.1.cell 1).trans rfl;have x0:=h3.2.2.2.2;have e0:=(h3.2.2.1.cell 0).trans rfl;have e1:=(h3.2.2.1.cell 1).trans rfl;have e2:=(h3.2.2.1.cell 2).trans rfl;have e3:=(h3.2.2.1.cell 3).trans rfl;have e4:=(h3.2.2.1.cell 4).trans rfl;have e5:=(h3.2.2.1.cell 5).trans rfl;have ef:=h3.2.2.1.frozen;clear h3 z0 z3 z4 z5;go_wp2_with fail
 go_region
 all_goals
  go_wp2_with fail;have kz:aA ((((((w3.setCell ⟨w.heap.size+1,0,none⟩ (.int .i64 r.a)).setCell ⟨w.heap.size+1,1,none⟩ (.int .i64 m)).setCell ⟨w.heap.size+1,2,none⟩ (.bool true)).setCell ⟨w.heap.size+1,3,none⟩ (.map none)).setCell ⟨w.heap.size+1,4,none⟩ (.map none)).setCell ⟨w.heap.size+1,5,none⟩ (.map none)) (w.heap.size+1) #[.int .i64 r.a,.int .i64 m,.bool true,.map none,.map none,.map none] 104:=by have:=H3.out.2;unfold aA at this⊢;simp[World.setCell,Array.getElem?_modify,this]
  have hcz:ay (λk=>k=w.heap.size+1) w3 ((((((w3.setCell ⟨w.heap.size+1,0,none⟩ (.int .i64 r.a)).setCell ⟨w.heap.size+1,1,none⟩ (.int .i64 m)).setCell ⟨w.heap.size+1,2,none⟩ (.bool true)).setCell ⟨w.heap.size+1,3,none⟩ (.map none)).setCell ⟨w.heap.size+1,4,none⟩ (.map none)).setCell ⟨w.heap.size+1,5,none⟩ (.map none)):=((((((ay.refl (λk=>k=w.heap.size+1) w3).setCell (p:=⟨w.heap.size+1,0,none⟩) rfl _).setCell (p:=⟨w.heap.size+1,1,none⟩) rfl _).setCell (p:=⟨w.heap.size+1,2,none⟩) rfl _).setCell (p:=⟨w.heap.size+1,3,none⟩) rfl _).setCell (p:=⟨w.heap.size+1,4,none⟩) rfl _).setCell (p:=⟨w.heap.size+1,5,none⟩) rfl _;have hlr:=H3.out.1.aJ HF.out (hcz.trans (ay.of_below (Below.refl _ _).drew)) (λk hk=>by omega) (λr' h2 k hk e=>h2.rep.kT H3.out.2 (by decide) (by decide) (by decide) (by decide) (e▸hk));clear e0 e1 e2 e3 e4 e5 ef y1 x0 H3 hcz;generalize ((((((w3.setCell ⟨w.heap.size+1,0,none⟩ (.int .i64 r.a)).setCell ⟨w.heap.size+1,1,none⟩ (.int .i64 m)).setCell ⟨w.heap.size+1,2,none⟩ (.bool true)).setCell ⟨w.heap.size+1,3,none⟩ (.map none)).setCell ⟨w.heap.size+1,4,none⟩ (.map none)).setCell ⟨w.heap.size+1,5,none⟩ (.map none))=wz at *;have d0:wz.drew.cell? ⟨w.heap.size+1,0,none⟩=some (.int .i64 r.a):=(kz.cell 0).trans rfl;have d1:wz.drew.cell? ⟨w.heap.size+1,1,none⟩=some (.int .i64 m):=(kz.cell 1).trans rfl;have d2:wz.drew.cell? ⟨w.heap.size+1,2,none⟩=some (.bool true):=(kz.cell 2).trans rfl;have d3:wz.drew.cell? ⟨w.heap.size+1,3,none⟩=some (.map none):=(kz.cell 3).trans rfl;have d4:wz.drew.cell? ⟨w.heap.size+1,4,none⟩=some (.map none):=(kz.cell 4).trans rfl;have d5:wz.drew.cell? ⟨w.heap.size+1,5,none⟩=some (.map none):=(kz.cell 5).trans rfl;exact bodyPost_ret (v:=.tuple #[.agg #[.int .i64 r.a,.int .i64 m,.bool true,.map none,.map none,.map none],.bool true]) (by simp[results,Tryz.results103,go_sem,d0,d1,d2,d3,d4,d5]) rfl ⟨rfl,hlr⟩
