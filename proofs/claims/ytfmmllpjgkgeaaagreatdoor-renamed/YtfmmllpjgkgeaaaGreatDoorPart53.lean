import Derived.Test.YtfmmllpjgkgeaaaGreatDoorPart43
import Derived.Test.YtfmmllpjgkgeaaaGreatDoorPart51
set_option linter.unusedVariables false
set_option linter.unusedSimpArgs false
namespace Go.Proofs.YtfmmllpjgkgeaaaGreatDoor
open Go.RowKit
variable {F:Stt}

structure Two (F:Stt) (T:Nat->Prop) (w:World) (x y:Nat) (sx sy:St) (wr:World):Prop where
 f:∃ Sx Sy,F wr x Sx sx/\F wr y Sy sy/\(∀ k,Sx k->w.heap.size<=k/\¬T k/\¬Sy k)/\(∀ k,Sy k->w.heap.size<=k/\¬T k)
 tl:∀ k,T k->k<wr.heap.size
 tb:∀ k,T k->w.heap.size<=k
 bel:Below w.heap.size w wr
 gw:Glob w
section
variable {T:Nat->Prop} {w wr w':World} {x y:Nat} {sx sy:St}
theorem Two.swap (h:Two F T w x y sx sy wr):Two F T w y x sy sx wr:=by
 obtain ⟨Sx,Sy,h1,h2,h3,h4⟩:=h.f
 exact ⟨⟨Sy,Sx,h2,h1,fun k hk=>⟨(h4 k hk).1,(h4 k hk).2,fun e=>(h3 k e).2.2 hk⟩,fun k hk=>⟨(h3 k hk).1,(h3 k hk).2.1⟩⟩,h.tl,h.tb,h.bel,h.gw⟩
theorem Two.one (hP:ProgFrame F) (h:Two F T w x y sx sy wr):∃ Sy:Nat->Prop,KAt F (fun k=>T k\/Sy k) w x sx wr/\(∀ k,T k->¬Sy k)/\∀ sx' w',KAt F (fun k=>T k\/Sy k) w x sx' w'->Chg (fun k=>Mk w.heap.size (fun k=>T k\/Sy k) k\/T k) wr w'->Two F T w x y sx' sy w':=by
 obtain ⟨Sx,Sy,h1,h2,h3,h4⟩:=h.f
 refine ⟨Sy,⟨⟨Sx,h1,fun k hk=>⟨(h3 k hk).1,fun e=>e.elim (h3 k hk).2.1 (h3 k hk).2.2⟩⟩,fun k hk=>hk.elim (h.tl k) (hP.lt h2),h.bel,h.gw⟩,fun k hk e=>(h4 k e).2 hk,fun sx' w' hk hc=>?_⟩
 obtain ⟨S',f1,s1⟩:=hk.f
 have f2:=hP.stable h2 hc (fun k hk e=>by
  rcases e with e | e
  ·exact e.2 (Or.inr hk)
  ·exact (h4 k hk).2 e)
 exact ⟨⟨S',Sy,f1,f2,fun k hk=>⟨(s1 k hk).1,fun e=>(s1 k hk).2 (Or.inl e),fun e=>(s1 k hk).2 (Or.inr e)⟩,h4⟩,fun k hk2=>hk.tl k (Or.inl hk2),h.tb,hk.bel,h.gw⟩
theorem Two.box (hP:ProgFrame F) (h:Two F T w x y sx sy wr) (o:Obj):Two F (fun k=>T k\/k=wr.heap.size) w x y sx sy (wr.alloc o):=by
 obtain ⟨Sx,Sy,h1,h2,h3,h4⟩:=h.f
 have hb:Below wr.heap.size wr (wr.alloc o):=(Below.refl _ _).alloc (Nat.le_refl _) _
 have hs:(wr.alloc o).heap.size=wr.heap.size+1:=by simp
 have l1:∀ k,Sx k->k<wr.heap.size:=fun k hk=>hP.lt h1 hk
 have l2:∀ k,Sy k->k<wr.heap.size:=fun k hk=>hP.lt h2 hk
 refine ⟨⟨Sx,Sy,hP.below h1 hb,hP.below h2 hb,fun k hk=>⟨(h3 k hk).1,fun e=>e.elim (h3 k hk).2.1 (fun e=>by have:=l1 k hk;omega),(h3 k hk).2.2⟩,fun k hk=>⟨(h4 k hk).1,fun e=>e.elim (h4 k hk).2 (fun e=>by have:=l2 k hk;omega)⟩⟩,fun k hk=>?_,fun k hk=>?_,h.bel.trans (hb.mono h.bel.size),h.gw⟩
 ·rcases hk with hk | rfl
  ·have:=h.tl k hk;omega
  ·omega
 ·rcases hk with hk | rfl
  ·exact h.tb k hk
  ·exact h.bel.size
theorem Two.less {T':Nat->Prop} (h:Two F T w x y sx sy wr) (hT:∀ k,T' k->T k):Two F T' w x y sx sy wr:=by
 obtain ⟨Sx,Sy,h1,h2,h3,h4⟩:=h.f
 exact ⟨⟨Sx,Sy,h1,h2,fun k hk=>⟨(h3 k hk).1,fun e=>(h3 k hk).2.1 (hT k e),(h3 k hk).2.2⟩,fun k hk=>⟨(h4 k hk).1,fun e=>(h4 k hk).2 (hT k e)⟩⟩,fun k hk=>h.tl k (hT k hk),fun k hk=>h.tb k (hT k hk),h.bel,h.gw⟩
theorem Two.store (hP:ProgFrame F) (h:Two F T w x y sx sy wr) {p:Addr} (hp:T p.block) (u:Value):Two F T w x y sx sy (wr.setCell p u):=by
 obtain ⟨Sx,Sy,h1,h2,h3,h4⟩:=h.f
 have hc:Chg (fun k=>k=p.block) wr (wr.setCell p u):=Chg.setCell (M:=fun k=>k=p.block) (Chg.refl _ wr) rfl u
 refine ⟨⟨Sx,Sy,hP.stable h1 hc (fun k hk e=>(h3 k hk).2.1 (by rw[e];exact hp)),hP.stable h2 hc (fun k hk e=>(h4 k hk).2 (by rw[e];exact hp)),h3,h4⟩,fun k hk=>Nat.lt_of_lt_of_le (h.tl k hk) hc.size,h.tb, ?_,h.gw⟩
 exact h.bel.trans (chgS_below hc (fun k hk=>by rw[hk];exact h.tb _ hp) h.bel.size)
theorem Two.does (hF:ProgOK F) (hP:ProgFrame F) (h:Two F T w x y sx sy wr) {i:Int} {t:ByteArray} {r:Int} {es':List Ev} {kn':List (List Bool)} (ht:t.size<=1048576) (hd:DoOut sx.es sx.kn i (toL t) r es' kn') :
  Calls Tryz.prog 23 #[.pointer (some ⟨x,0,none⟩),.int .i64 i,.string t] wr fun e w'=>e=.returned (.int .i64 r)/\Two F T w x y ⟨es',kn',sx.fs⟩ sy w':=by
 obtain ⟨Sy,hk,_,hback⟩:=h.one hP
 refine Calls.mono (hk.does hF ht hd) ?_
 rintro e w2 ⟨rfl,h2,hc⟩
 exact ⟨rfl,hback _ _ h2 (chg_wide hc (fun k hk=>Or.inl hk))⟩
theorem Two.tells (hF:ProgOK F) (hP:ProgFrame F) (h:Two F T w x y sx sy wr) (hE:EvsOk sx) (hK:∀ l∈sx.kn,l.length<=1000) (i:Int) :
  Calls Tryz.prog 21 #[.pointer (some ⟨x,0,none⟩),.int .i64 i] wr fun e w'=>∃ u,e=.returned (.string u)/\toL u=tellsL sx i/\Two F T w x y sx sy w'/\Chg (fun k=>¬T k/\w.heap.size<=k) wr w':=by
 obtain ⟨Sy,hk,_,hback⟩:=h.one hP
 refine Calls.mono (tells_any hF hP _ w wr x sx hk hE hK i) ?_
 rintro e w2 ⟨u,rfl,hu,_,h2,hc⟩
 exact ⟨u,rfl,hu,hback _ _ h2 (chg_wide hc (fun k hk=>Or.inl hk)),chg_wide hc (fun k hk=>⟨fun e=>hk.2 (Or.inl e),hk.1⟩)⟩
theorem Two.play (hF:ProgOK F) (hP:ProgFrame F) (hT:ProgTick F) (h:Two F T w x y sx sy wr) {tb n c:Nat} (ht:TalAt wr tb sx.fs.length sx.es.length) (hTt:T tb) (hK:KOk n c sx) (hc:c<=400) {a:ActD} (ha:a.ok) :
  Calls Tryz.prog 19 #[.pointer (some ⟨tb,0,none⟩),.pointer (some ⟨x,0,none⟩),.int .i64 (n:Int),a.val] wr fun e w'=>e=.returned (.bool true)/\∃ sx',PlayTo n sx a sx'/\Two F T w x y sx' sy w'/\TalAt w' tb sx'.fs.length sx'.es.length/\Chg (fun k=>k=tb\/¬T k) wr w':=by
 obtain ⟨Sy,hk,hts,hback⟩:=h.one hP
 have hev:=hK.ev
 refine Calls.mono (play_any hF hP hT (fun k=>T k\/Sy k) w wr x tb n c sx.es.length a sx hK hc (by omega) ha hk ht (Or.inl hTt) (h.tb _ hTt)) ?_
 rintro e w' ⟨rfl,s',hp,hk2,ht2,hch⟩
 refine ⟨rfl,s',hp,hback _ _ hk2 (chg_wide hch (fun k hk=>hk.elim Or.inl (fun e=>Or.inr (by rw[e];exact hTt)))),by rw[hp.evs hK hc];exact ht2,chg_wide hch (fun k hk=>?_)⟩
 rcases hk with hk | hk
 ·exact Or.inr (fun e=>hk.2 (Or.inl e))
 ·exact Or.inl hk
end
theorem Two.make (hP:ProgFrame F) {w w1 w2:World} {x y:Nat} {sx sy:St} (h:KAt F (fun _=>False) w x sx w1) (h2:KAt F (fun _=>False) w1 y sy w2):Two F (fun _=>False) w x y sx sy w2:=by
 obtain ⟨Sx,f1,s1⟩:=h.f
 obtain ⟨Sy,f2,s2⟩:=h2.f
 refine ⟨⟨Sx,Sy,hP.below f1 h2.bel,f2,fun k hk=>⟨(s1 k hk).1,fun e=>e,fun e=>?_⟩,fun k hk=>⟨Nat.le_trans h.bel.size (s2 k hk).1,fun e=>e⟩⟩,fun k hk=>hk.elim,fun k hk=>hk.elim,h.bel.trans (h2.bel.mono h.bel.size),h.gw⟩
 have:=hP.lt f1 hk
 have:=(s2 k e).1
 omega

def zS3 (n:Nat):St:=⟨[zE1,zE2,zE3],[true,true] :: (List.replicate (n-2) [] ++ [[false,false,true]]),[]⟩
theorem zd3 (n:Nat) (h:2<=n/\n<=4):DoOut (zS n).es (zS n).kn ((n:Int)-1) (toL ⟨#[115,122,122,43,113]⟩) 0 (zS3 n).es (zS3 n).kn:=by
 obtain rfl | rfl | rfl:n=2\/n=3\/n=4:=by omega
 ·exact DoOut.done (es:=[zE1,zE2]) (knowns:=[true,true] :: List.replicate 1 []) (i:=1) ⟨[115,122,122],43,[113],0⟩ zE3 (by decide) (by kernel_rfl) (by decide) rfl rfl rfl rfl rfl
 ·exact DoOut.done (es:=[zE1,zE2]) (knowns:=[true,true] :: List.replicate 2 []) (i:=2) ⟨[115,122,122],43,[113],0⟩ zE3 (by decide) (by kernel_rfl) (by decide) rfl rfl rfl rfl rfl
 ·exact DoOut.done (es:=[zE1,zE2]) (knowns:=[true,true] :: List.replicate 3 []) (i:=3) ⟨[115,122,122],43,[113],0⟩ zE3 (by decide) (by kernel_rfl) (by decide) rfl rfl rfl rfl rfl
theorem zd4 (n:Nat) (h:2<=n/\n<=4):DoOut (zS3 n).es (zS3 n).kn ((n:Int)-1) (toL ⟨#[115,122,122,45,113]⟩) 0 (zT n).es (zT n).kn:=by
 obtain rfl | rfl | rfl:n=2\/n=3\/n=4:=by omega
 ·exact DoOut.done (es:=[zE1,zE2,zE3]) (knowns:=[true,true] :: (List.replicate 0 [] ++ [[false,false,true]])) (i:=1) ⟨[115,122,122],45,[113],0⟩ zE4 (by decide) (by kernel_rfl) (by decide) rfl rfl rfl rfl rfl
 ·exact DoOut.done (es:=[zE1,zE2,zE3]) (knowns:=[true,true] :: (List.replicate 1 [] ++ [[false,false,true]])) (i:=2) ⟨[115,122,122],45,[113],0⟩ zE4 (by decide) (by kernel_rfl) (by decide) rfl rfl rfl rfl rfl
 ·exact DoOut.done (es:=[zE1,zE2,zE3]) (knowns:=[true,true] :: (List.replicate 2 [] ++ [[false,false,true]])) (i:=3) ⟨[115,122,122],45,[113],0⟩ zE4 (by decide) (by kernel_rfl) (by decide) rfl rfl rfl rfl rfl
theorem KOk.startT {n:Nat} (h2:2<=n) (h4:n<=4):KOk n 0 (zT n):=by
 refine ⟨h2,h4,by unfold zT;simp;omega,Nat.le_refl 4, ?_, ?_, ?_,Nat.le_refl 0,fun g hg=>by simp[zT] at hg⟩
 ·intro e he
  unfold zT at he
  simp at he
  rcases he with rfl | rfl | rfl | rfl <;> exact ⟨by decide,by decide,by decide,by decide,by decide⟩
 ·intro l hl
  unfold zT at hl ⊢
  simp at hl ⊢
  rcases hl with rfl | ⟨_,rfl⟩ | rfl <;> simp
 ·intro m hm
  have hm4:m<4:=hm
  obtain rfl | rfl | rfl:n=2\/n=3\/n=4:=by omega
  all_goals
   obtain rfl | rfl | rfl | rfl:m=0\/m=1\/m=2\/m=3:=by omega
  ·exact ⟨0,rfl⟩
  ·exact ⟨0,rfl⟩
  ·exact ⟨1,rfl⟩
  ·exact ⟨1,rfl⟩
  ·exact ⟨0,rfl⟩
  ·exact ⟨0,rfl⟩
  ·exact ⟨2,rfl⟩
  ·exact ⟨2,rfl⟩
  ·exact ⟨0,rfl⟩
  ·exact ⟨0,rfl⟩
  ·exact ⟨3,rfl⟩
  ·exact ⟨3,rfl⟩

structure RI (F:Stt) (T:Nat->Prop) (w:World) (x y ta tb n i:Nat) (sx sy:St) (wr:World):Prop where
 two:Two F T w x y sx sy wr
 tx:TalAt wr ta sx.fs.length sx.es.length
 ty:TalAt wr tb sy.fs.length sy.es.length
 ha:T ta
 hb:T tb
 ne:ta≠tb
 kx:KOk n i sx
 ky:KOk n i sy
 ren:Ren n sx sy
structure RH (F:Stt) (T:Nat->Prop) (w:World) (x y ta tb n i:Nat) (a:ActD) (sx sx' sy:St) (wr:World):Prop where
 two:Two F T w x y sx' sy wr
 tx:TalAt wr ta sx'.fs.length sx'.es.length
 ty:TalAt wr tb sy.fs.length sy.es.length
 ha:T ta
 hb:T tb
 ne:ta≠tb
 kx:KOk n i sx
 ky:KOk n i sy
 ren:Ren n sx sy
 pl:PlayTo n sx a sx'
section
variable {T:Nat->Prop} {w wr:World} {x y ta tb n i:Nat} {sx sy sx':St}
theorem RI.playX (hF:ProgOK F) (hP:ProgFrame F) (hT:ProgTick F) (h:RI F T w x y ta tb n i sx sy wr) (hi:i<=400) {a:ActD} (ha:a.ok) {ab:Nat} (hab:ActB wr ab a) (hTa:T ab) (hne:ab≠ta) :
  Calls Tryz.prog 19 #[.pointer (some ⟨ta,0,none⟩),.pointer (some ⟨x,0,none⟩),.int .i64 (n:Int),a.val] wr fun e w'=>e=.returned (.bool true)/\∃ sx',RH F T w x y ta tb n i a sx sx' sy w'/\ActB w' ab a:=by
 refine Calls.mono (h.two.play hF hP hT h.tx h.ha h.kx hi ha) ?_
 rintro e w' ⟨rfl,s',hp,h2,ht,hc⟩
 exact ⟨rfl,s',⟨h2,ht,Blk.chg h.ty hc (fun e=>e.elim (fun e=>h.ne e.symm) (fun e=>e h.hb)),h.ha,h.hb,h.ne,h.kx,h.ky,h.ren,hp⟩,Blk.chg hab hc (fun e=>e.elim (fun e=>hne e) (fun e=>e hTa))⟩
theorem RH.playY (hF:ProgOK F) (hP:ProgFrame F) (hT:ProgTick F) {a b:ActD} (h:RH F T w x y ta tb n i a sx sx' sy wr) (hi:i<=400) (hb:b.ok) (hab:RenA n a b) :
  Calls Tryz.prog 19 #[.pointer (some ⟨tb,0,none⟩),.pointer (some ⟨y,0,none⟩),.int .i64 (n:Int),b.val] wr fun e w'=>e=.returned (.bool true)/\∃ sy',RI F T w x y ta tb n (i+1) sx' sy' w':=by
 refine Calls.mono (h.two.swap.play hF hP hT h.ty h.hb h.ky hi hb) ?_
 rintro e w' ⟨rfl,s',hp,h2,ht,hc⟩
 exact ⟨rfl,s',h2.swap,Blk.chg h.tx hc (fun e=>e.elim h.ne (fun e=>e h.ha)),ht,h.ha,h.hb,h.ne,h.kx.play hi h.pl,h.ky.play hi hp,h.ren.play h.kx h.ky hi hi hab h.pl hp⟩
theorem RI.tellX (hF:ProgOK F) (hP:ProgFrame F) (h:RI F T w x y ta tb n i sx sy wr) (hi:i<=400) {k:Nat} (hk:k<n) :
  Calls Tryz.prog 21 #[.pointer (some ⟨x,0,none⟩),.int .i64 (k:Int)] wr fun e w'=>e=.returned (.string ⟨(tellsL sx (k:Int)).toArray⟩)/\RI F T w x y ta tb n i sx sy w':=by
 have hs:=h.kx.small hi
 refine Calls.mono (h.two.tells hF hP hs.1 hs.2 (k:Int)) ?_
 rintro e w' ⟨u,rfl,hu,h2,hc⟩
 have:u=⟨(tellsL sx (k:Int)).toArray⟩:=toL_inj (by rw[hu];simp[toL])
 subst this
 exact ⟨rfl,h2,Blk.chg h.tx hc (fun e=>e.1 h.ha),Blk.chg h.ty hc (fun e=>e.1 h.hb),h.ha,h.hb,h.ne,h.kx,h.ky,h.ren⟩
theorem RI.tellY (hF:ProgOK F) (hP:ProgFrame F) (h:RI F T w x y ta tb n i sx sy wr) (hi:i<=400) {k:Nat} (hk:k<n) :
  Calls Tryz.prog 21 #[.pointer (some ⟨y,0,none⟩),.int .i64 ((n-1-k:Nat):Int)] wr fun e w'=>e=.returned (.string ⟨(tellsL sx (k:Int)).toArray⟩)/\RI F T w x y ta tb n i sx sy w':=by
 have hs:=h.ky.small hi
 refine Calls.mono (h.two.swap.tells hF hP hs.1 hs.2 ((n-1-k:Nat):Int)) ?_
 rintro e w' ⟨u,rfl,hu,h2,hc⟩
 have:u=⟨(tellsL sx (k:Int)).toArray⟩:=toL_inj (by rw[hu,ren_tells h.ren h.kx.len h.ky.len hk];simp[toL])
 subst this
 exact ⟨rfl,h2.swap,Blk.chg h.tx hc (fun e=>e.1 h.ha),Blk.chg h.ty hc (fun e=>e.1 h.hb),h.ha,h.hb,h.ne,h.kx,h.ky,h.ren⟩
theorem RI.less {T':Nat->Prop} (h:RI F T w x y ta tb n i sx sy wr) (hT:∀ k,T' k->T k) (h1:T' ta) (h2:T' tb):RI F T' w x y ta tb n i sx sy wr:=⟨h.two.less hT,h.tx,h.ty,h1,h2,h.ne,h.kx,h.ky,h.ren⟩
theorem RI.act (hP:ProgFrame F) (h:RI F T w x y ta tb n i sx sy wr) (a:ActD):RI F (fun k=>T k\/k=wr.heap.size) w x y ta tb n i sx sy (actW wr a)/\ActB (actW wr a) wr.heap.size a/\wr.heap.size≠ta :=
 ⟨⟨h.two.box hP _,Blk.alloc h.tx _,Blk.alloc h.ty _,Or.inl h.ha,Or.inl h.hb,h.ne,h.kx,h.ky,h.ren⟩,Blk.new _ _ _,by have:=Blk.lt h.tx;omega⟩
theorem RH.store (hP:ProgFrame F) {a:ActD} (h:RH F T w x y ta tb n i a sx sx' sy wr) {ab j:Nat} (hT:T ab) (h1:ab≠ta) (h2:ab≠tb) (u:Value):RH F T w x y ta tb n i a sx sx' sy (wr.setCell ⟨ab,j,none⟩ u):=by
 have hc:Chg (fun k=>k=ab) wr (wr.setCell ⟨ab,j,none⟩ u):=Chg.setCell (M:=fun k=>k=ab) (p:=⟨ab,j,none⟩) (Chg.refl _ wr) rfl u
 exact ⟨h.two.store hP (p:=⟨ab,j,none⟩) hT u,Blk.chg h.tx hc (fun e=>h1 e.symm),Blk.chg h.ty hc (fun e=>h2 e.symm),h.ha,h.hb,h.ne,h.kx,h.ky,h.ren,h.pl⟩
end
end Go.Proofs.YtfmmllpjgkgeaaaGreatDoor

