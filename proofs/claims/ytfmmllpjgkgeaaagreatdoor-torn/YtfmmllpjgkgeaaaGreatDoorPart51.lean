import Derived.Test.YtfmmllpjgkgeaaaGreatDoorPart47
import Derived.Test.YtfmmllpjgkgeaaaGreatDoorPart50
set_option linter.unusedVariables false
set_option linter.unusedSimpArgs false
set_option maxHeartbeats 16000000
set_option maxRecDepth 100000
namespace Go.Proofs.YtfmmllpjgkgeaaaGreatDoor
open Go.RowKit
variable {F:Stt} {V:Nat->Nat->Stt} {X:Nat->Stt}

structure ProgTorn (F:Stt) (V:Nat->Nat->Stt) (X:Nat->Stt):Prop where
 tear:∀ w x S s (i m:Nat),F w x S s->i<s.kn.length->Calls Tryz.prog 32 #[.pointer (some ⟨x,0,none⟩),.int .i64 (i:Int),.int .i64 (m:Int)] w fun e w'=>e=.returned (.int .i64 0)/\∃ S',V i m w' x S' s/\(∀ k,S' k->S k\/w.heap.size<=k)/\Chg S w w'
 does:∀ w x S s (i m:Nat) t es' kn',Glob w->V i m w x S s->t.size<=1048576->DoOut s.es s.kn (i:Int) (toL t) 0 es' kn'->Calls Tryz.prog 23 #[.pointer (some ⟨x,0,none⟩),.int .i64 (i:Int),.string t] w fun e w'=>e=.returned (.int .i64 8)/\∃ S' s',(s'=s\/s'=⟨es',kn',s.fs⟩)/\(m=0->s'=s)/\(280+80*s.es.length<=m->s'=⟨es',kn',s.fs⟩)/\X i w' x S' s'/\(∀ k,S' k->S k\/w.heap.size<=k)/\Chg S w w'
 down:∀ w x S s (i:Nat),X i w x S s->Calls Tryz.prog 22 #[.pointer (some ⟨x,0,none⟩),.int .i64 (i:Int)] w fun e w'=>e=.returned (.tuple #[.int .i64 0,.int .i64 3])/\∃ S',X i w' x S' s/\(∀ k,S' k->S k\/w.heap.size<=k)/\Chg S w w'
 wake:∀ w x S s (i:Nat),Glob w->(∀ k,S k->4<=k)->X i w x S s->Calls Tryz.prog 34 #[.pointer (some ⟨x,0,none⟩),.int .i64 (i:Int)] w fun e w'=>e=.returned (.int .i64 0)/\∃ S',F w' x S' s/\(∀ k,S' k->S k\/w.heap.size<=k)/\Chg S w w'
 up:∀ w x S s (i:Nat),F w x S s->i<s.kn.length->Calls Tryz.prog 34 #[.pointer (some ⟨x,0,none⟩),.int .i64 (i:Int)] w fun e w'=>e=.returned (.int .i64 10)/\∃ S',F w' x S' s/\(∀ k,S' k->S k\/w.heap.size<=k)/\Chg S w w'
 stT:∀ {M w w' x S s i m},V i m w x S s->Chg M w w'->(∀ k,S k->¬M k)->V i m w' x S s
 stX:∀ {M w w' x S s i},X i w x S s->Chg M w w'->(∀ k,S k->¬M k)->X i w' x S s
 ltT:∀ {w x S s i m k},V i m w x S s->S k->k<w.heap.size
 ltX:∀ {w x S s i k},X i w x S s->S k->k<w.heap.size

structure StbP (P:Stt):Prop where
 st:∀ {M w w' x S s},P w x S s->Chg M w w'->(∀ k,S k->¬M k)->P w' x S s
 lt:∀ {w x S s k},P w x S s->S k->k<w.heap.size
theorem ProgFrame.stab (hP:ProgFrame F):StbP F:=⟨hP.stable,hP.lt⟩
theorem ProgTorn.sT (h:ProgTorn F V X) (i m:Nat):StbP (V i m):=⟨h.stT,h.ltT⟩
theorem ProgTorn.sX (h:ProgTorn F V X) (i:Nat):StbP (X i):=⟨h.stX,h.ltX⟩
structure TwoG (P Q:Stt) (T:Nat->Prop) (w:World) (x y:Nat) (sx sy:St) (wr:World):Prop where
 f:∃ Sx Sy,P wr x Sx sx/\Q wr y Sy sy/\(∀ k,Sx k->w.heap.size<=k/\¬T k/\¬Sy k)/\(∀ k,Sy k->w.heap.size<=k/\¬T k)
 tl:∀ k,T k->k<wr.heap.size
 bel:Below w.heap.size w wr
 gw:Glob w
section
variable {P P' Q:Stt} {T:Nat->Prop} {w wr w':World} {x y:Nat} {sx sy:St}
theorem Two.g (h:Two F T w x y sx sy wr):TwoG F F T w x y sx sy wr:=⟨h.f,h.tl,h.bel,h.gw⟩
theorem TwoG.swap (h:TwoG P Q T w x y sx sy wr):TwoG Q P T w y x sy sx wr:=by
 obtain ⟨Sx,Sy,h1,h2,h3,h4⟩:=h.f
 exact ⟨⟨Sy,Sx,h2,h1,fun k hk=>⟨(h4 k hk).1,(h4 k hk).2,fun e=>(h3 k e).2.2 hk⟩,fun k hk=>⟨(h3 k hk).1,(h3 k hk).2.1⟩⟩,h.tl,h.bel,h.gw⟩
theorem TwoG.glob (h:TwoG P Q T w x y sx sy wr):Glob wr:=h.gw.mono h.bel
theorem TwoG.below (hP:StbP P) (hQ:StbP Q) (h:TwoG P Q T w x y sx sy wr) (hb:Below wr.heap.size wr w'):TwoG P Q T w x y sx sy w':=by
 obtain ⟨Sx,Sy,h1,h2,h3,h4⟩:=h.f
 exact ⟨⟨Sx,Sy,hP.st (M:=fun _=>False) h1 (Chg.of_below hb) (fun _ _ h=>h),hQ.st (M:=fun _=>False) h2 (Chg.of_below hb) (fun _ _ h=>h),h3,h4⟩,fun k hk=>Nat.lt_of_lt_of_le (h.tl k hk) hb.size,h.bel.trans (hb.mono h.bel.size),h.gw⟩
theorem TwoG.call (hQ:StbP Q) (h:TwoG P Q T w x y sx sy wr) {f:FuncId} {args:Array Value} {R:Ending->St->Prop} (hc:∀ S,P wr x S sx->(∀ k,S k->4<=k)->Calls Tryz.prog f args wr fun e w'=>∃ S' s',R e s'/\P' w' x S' s'/\(∀ k,S' k->S k\/wr.heap.size<=k)/\Chg S wr w') :
  Calls Tryz.prog f args wr fun e w'=>∃ s',R e s'/\TwoG P' Q T w x y s' sy w':=by
 obtain ⟨Sx,Sy,h1,h2,h3,h4⟩:=h.f
 have h4w:=h.gw.size
 refine Calls.mono (hc Sx h1 (fun k hk=>by have:=(h3 k hk).1;omega)) ?_
 rintro e w' ⟨S',s',hr,p',hs,hch⟩
 refine ⟨s',hr,⟨S',Sy,p',hQ.st h2 hch (fun k hk e=>(h3 k e).2.2 hk),fun k hk=>?_,h4⟩,fun k hk=>Nat.lt_of_lt_of_le (h.tl k hk) hch.size,h.bel.trans (chgS_below hch (fun k hk=>(h3 k hk).1) h.bel.size),h.gw⟩
 rcases hs k hk with h9 | h9
 ·exact h3 k h9
 ·exact ⟨Nat.le_trans h.bel.size h9,fun e=>by have:=h.tl k e;omega,fun e=>by have:=hQ.lt h2 e;omega⟩
theorem TwoG.one (hQ:StbP Q) (h:TwoG P Q T w x y sx sy wr):∃ Sy:Nat->Prop,KAt P (fun k=>T k\/Sy k) w x sx wr/\∀ sx' w',KAt P (fun k=>T k\/Sy k) w x sx' w'->Chg (Mk w.heap.size (fun k=>T k\/Sy k)) wr w'->TwoG P Q T w x y sx' sy w':=by
 obtain ⟨Sx,Sy,h1,h2,h3,h4⟩:=h.f
 refine ⟨Sy,⟨⟨Sx,h1,fun k hk=>⟨(h3 k hk).1,fun e=>e.elim (h3 k hk).2.1 (h3 k hk).2.2⟩⟩,fun k hk=>hk.elim (h.tl k) (hQ.lt h2),h.bel,h.gw⟩,fun sx' w' hk hc=>?_⟩
 obtain ⟨S',f1,s1⟩:=hk.f
 exact ⟨⟨S',Sy,f1,hQ.st h2 hc (fun k hk e=>e.2 (Or.inr hk)),fun k hk=>⟨(s1 k hk).1,fun e=>(s1 k hk).2 (Or.inl e),fun e=>(s1 k hk).2 (Or.inr e)⟩,h4⟩,fun k hk2=>hk.tl k (Or.inl hk2),hk.bel,h.gw⟩
theorem TwoG.tells (hF:ProgOK F) (hP:ProgFrame F) (hQ:StbP Q) (h:TwoG F Q T w x y sx sy wr) (hE:EvsOk sx) (hK:∀ l∈sx.kn,l.length<=1000) (i:Int) :
  Calls Tryz.prog 21 #[.pointer (some ⟨x,0,none⟩),.int .i64 i] wr fun e w'=>e=.returned (.string ⟨(tellsL sx i).toArray⟩)/\TwoG F Q T w x y sx sy w':=by
 obtain ⟨Sy,hk,hback⟩:=h.one hQ
 refine Calls.mono (tells_any hF hP _ w wr x sx hk hE hK i) ?_
 rintro e w2 ⟨u,rfl,hu,_,h2,hc⟩
 have:u=⟨(tellsL sx i).toArray⟩:=toL_inj (by rw[hu];simp[toL])
 subst this
 exact ⟨rfl,hback _ _ h2 hc⟩
theorem tells_st {s t:St} (h1:t.es=s.es) (h2:t.kn=s.kn) (i:Int):tellsL t i=tellsL s i:=by
 have ht:∀ k,tellsTo t i k=tellsTo s i k:=fun k=>by
  induction k with
  | zero=>rfl
  | succ k ih=>unfold tellsTo;rw[ih];unfold tellOne;rw[h1,h2]
 unfold tellsL
 rw[ht,h2]
end
theorem eqB_ne {a b:ByteArray} (h:¬a=b):(a.toList == b.toList)=false:=by
 rw[beq_eq_false_iff_ne,toList_eq,toList_eq]
 exact fun e=>h (toL_inj e)
def didS (s:St) (i:Nat) (e:Ev):St:=⟨s.es ++ [e],s.kn.set i (moreOf (s.kn.getD i []) s.es.length),s.fs⟩
structure TI (F:Stt) (T:Nat->Prop) (w:World) (x y ta tb n i:Nat) (sx sy:St) (wr:World):Prop where
 two:Two F T w x y sx sy wr
 tx:TalAt wr ta sx.fs.length sx.es.length
 ty:TalAt wr tb sy.fs.length sy.es.length
 ha:T ta
 hb:T tb
 ne:ta≠tb
 kx:KOk n i sx
 ky:KOk n i sy
 sm:Same sx sy
structure TH (F:Stt) (T:Nat->Prop) (w:World) (x y ta tb n i:Nat) (a:ActD) (sx sx' sy:St) (wr:World):Prop where
 two:Two F T w x y sx' sy wr
 tx:TalAt wr ta sx'.fs.length sx'.es.length
 ty:TalAt wr tb sy.fs.length sy.es.length
 ha:T ta
 hb:T tb
 ne:ta≠tb
 kx:KOk n i sx
 ky:KOk n i sy
 sm:Same sx sy
 pl:PlayTo n sx a sx'
section
variable {T:Nat->Prop} {w wr:World} {x y ta tb n i:Nat} {sx sy sx':St}
theorem TI.playX (hF:ProgOK F) (hP:ProgFrame F) (hT:ProgTick F) (h:TI F T w x y ta tb n i sx sy wr) (hi:i<=400) {a:ActD} (ha:a.ok) :
  Calls Tryz.prog 19 #[.pointer (some ⟨ta,0,none⟩),.pointer (some ⟨x,0,none⟩),.int .i64 (n:Int),a.val] wr fun e w'=>e=.returned (.bool true)/\∃ sx',TH F T w x y ta tb n i a sx sx' sy w':=by
 refine Calls.mono (h.two.play hF hP hT h.tx h.ha h.kx hi ha) ?_
 rintro e w' ⟨rfl,s',hp,h2,ht,hc⟩
 exact ⟨rfl,s',h2,ht,Blk.chg h.ty hc (fun e=>e.elim (fun e=>h.ne e.symm) (fun e=>e h.hb)),h.ha,h.hb,h.ne,h.kx,h.ky,h.sm,hp⟩
theorem TH.playY (hF:ProgOK F) (hP:ProgFrame F) (hT:ProgTick F) {a:ActD} (h:TH F T w x y ta tb n i a sx sx' sy wr) (hi:i<=400) (ha:a.ok) :
  Calls Tryz.prog 19 #[.pointer (some ⟨tb,0,none⟩),.pointer (some ⟨y,0,none⟩),.int .i64 (n:Int),a.val] wr fun e w'=>e=.returned (.bool true)/\∃ sx' sy',TI F T w x y ta tb n (i+1) sx' sy' w':=by
 refine Calls.mono (h.two.swap.play hF hP hT h.ty h.hb h.ky hi ha) ?_
 rintro e w' ⟨rfl,s',hp,h2,ht,hc⟩
 exact ⟨rfl,_,s',h2.swap,Blk.chg h.tx hc (fun e=>e.elim h.ne (fun e=>e h.ha)),ht,h.ha,h.hb,h.ne,h.kx.play hi h.pl,h.ky.play hi hp,h.sm.play h.pl hp⟩
end
structure FinZ (F:Stt) (T:Nat->Prop) (w:World) (x y n:Nat) (s sy:St) (wr:World):Prop where
 two:TwoG F F T w x y s sy wr
 len:s.kn.length=n
 ev:EvsOk s
 kl:∀ l∈s.kn,l.length<=1000
 full:∀ q,q<n->s.kn.getD q []=List.replicate s.es.length true
section
variable {T:Nat->Prop} {w wr:World} {x y n c:Nat} {s sy:St}
theorem TwoG.round (hF:ProgOK F) (hP:ProgFrame F) (h:TwoG F F T w x y s sy wr) (hk:KOk n c s) (hc:c<=100) :
  Calls Tryz.prog 20 #[.pointer (some ⟨x,0,none⟩),.int .i64 (n:Int)] wr fun e w'=>e=.returned (.bool true)/\∃ s',FinZ F T w x y n s' sy w':=by
 obtain ⟨Sy,hk1,hback⟩:=h.one hP.stab
 have hfl:=hk.fl
 refine Calls.mono (round_any hF _ w wr x n ⟨hk.n2,hk.n4⟩ s hk1 hk.len hk.kl (by omega)) ?_
 rintro e w' ⟨rfl,s',hr,hk2,hch⟩
 have hsm:=hr.small hk (by omega)
 exact ⟨rfl,s',hback _ _ hk2 hch,hr.len,hsm.1,hsm.2,fun q hq=>hk.full hr hq⟩
theorem FinZ.tells (hF:ProgOK F) (hP:ProgFrame F) (h:FinZ F T w x y n s sy wr) {q:Nat} (hq:q<n) :
  Calls Tryz.prog 21 #[.pointer (some ⟨x,0,none⟩),.int .i64 (q:Int)] wr fun e w'=>e=.returned (.string ⟨(tellsL s 0).toArray⟩)/\FinZ F T w x y n s sy w':=by
 have hl:=h.len
 have h0:=h.full 0 (by omega)
 have hq0:=h.full q hq
 have hs:tellsL s (q:Int)=tellsL s 0:=tells_same (i:=q) (j:=0) (by omega) (by omega) (by rw[h0,hq0])
 refine Calls.mono (h.two.tells hF hP hP.stab h.ev h.kl (q:Int)) ?_
 rintro e w' ⟨rfl,h2⟩
 exact ⟨by rw[hs],h2,h.len,h.ev,h.kl,h.full⟩
end
end Go.Proofs.YtfmmllpjgkgeaaaGreatDoor

