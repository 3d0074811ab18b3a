import Derived.RangeFuncNested
import Derived.RangeFuncBound
import Derived.RangeFuncCalls
import Derived.RangeFuncLeaves
import Derived.RangeFuncBox
import Derived.Shelf.Abstract
import Derived.OwnWalkIn
import Derived.TacticsInMore
import Derived.LoopNIn
import Derived.LoopIn
import Derived.Maps.AppendAt
import Derived.Maps.OwnIn
import Derived.Shelf.SlSortCmp.NoneTotal
import Derived.Handy
import Derived.Lib.Split
import Derived.Lib.IndexBytes
import Derived.Test.YtfmmllpjgkgeaaaGreatDoorPart01
import Derived.Test.YtfmmllpjgkgeaaaGreatDoorPart02
import Derived.Test.YtfmmllpjgkgeaaaGreatDoorPart04
import Derived.Test.YtfmmllpjgkgeaaaGreatDoorPart05
import Derived.Test.YtfmmllpjgkgeaaaGreatDoorPart07
set_option linter.unusedVariables false
set_option linter.unusedSimpArgs false
namespace Go.Proofs.YtfmmllpjgkgeaaaGreatDoor
open Go.RowKit

def KeepT (E:Nat->Prop) (W W':World):Prop:=W.heap.size<=W'.heap.size/\∀ k,E k->W'.heap[k]? = W.heap[k]?
theorem KeepT.refl (E:Nat->Prop) (W:World):KeepT E W W:=⟨Nat.le_refl _,fun _ _=>rfl⟩
theorem KeepT.trans {E:Nat->Prop} {A B C:World} (h:KeepT E A B) (k:KeepT E B C):KeepT E A C:=⟨Nat.le_trans h.1 k.1,fun i hi=>(k.2 i hi).trans (h.2 i hi)⟩
theorem KeepT.mono {E E':Nat->Prop} {A B:World} (h:KeepT E A B) (hE:∀ k,E' k->E k):KeepT E' A B:=⟨h.1,fun k hk=>h.2 k (hE k hk)⟩
theorem KeepT.of_chg {M E:Nat->Prop} {A B:World} (h:Chg M A B) (hE:∀ k,E k->k<A.heap.size/\¬M k):KeepT E A B:=⟨h.size,fun k hk=>h.block k (hE k hk).1 (hE k hk).2⟩

def Stab {α : Type} (J:(Nat->Prop)->List α->World->Prop):Prop :=
 ∀ T T' pre W W',J T pre W->Chg T W W'->(∀ k,T' k->(T k\/W.heap.size<=k)/\k<W'.heap.size)->J T' pre W'

def Iter {α : Type} (P:Program) (gf:Nat) (lb:Array Value) (encs:α->Array Value) (S:List α->Prop) (E:Nat->Prop) (w0:World):Prop :=
 ∀ (l:Nat) (J Jx:(Nat->Prop)->List α->World->Prop) (W:World),KeepT E w0 W->Stab J->Stab Jx ->
  (∀ T pre x W1,J T pre W1->(∃ ys,S ys/\pre ++ [x] <+: ys)->YieldAt Fence.wide 3 P l (encs x) W1 fun e W' =>
   (e=.returned (.bool true)/\J T (pre ++ [x]) W'/\KeepT (fun k=>E k\/T k) W1 W')\/(e=.returned (.bool false)/\Jx T (pre ++ [x]) W'/\KeepT (fun k=>E k\/T k) W1 W')) ->
  J (fun _=>False) [] W ->
  CallsIn Fence.wide 3 P gf (#[.func (.yield l) #[] #[]] ++ lb) W fun e W'=>(∃ v,e=.returned v)/\((∃ xs,S xs/\∃ T,J T xs W')\/∃ pre T,Jx T pre W')

theorem callsIn_wide_any {n m:Nat} {P:Program} {f:FuncId} {args:Array Value} {w:World} {R:Ending->World->Prop} (h:CallsIn Fence.wide n P f args w R):CallsIn Fence.wide m P f args w R:=callsIn_wide.2 (callsIn_wide.1 h)
theorem roundIn_wide_any {n m:Nat} {P:Program} {l:Nat} {f:FuncId} {tmps:Array Value} {assign body:Code} {w:World} {R:Ending->World->Prop} (h:RoundIn Fence.wide n P l f tmps assign body w R):RoundIn Fence.wide m P l f tmps assign body w R:=⟨h.1,fun c cs _=>h.2 c cs (room_wide _)⟩
theorem roundIn_inRound {n:Nat} {P:Program} {l l':Nat} {f:FuncId} {tmps:Array Value} {assign body:Code} {w:World} {R:Ending->World->Prop} (h:RoundIn Fence.wide n P l f tmps assign body w R):RoundIn (Fence.wide.inRound l') n P l f tmps assign body w R:=h

def iterPost {α : Type} (E T:Nat->Prop) (I:(Nat->Prop)->List α->World->Prop) (Ix:Code->(Nat->Prop)->List α->World->Prop) (xs:List α) (W:World):Exit->Act->World->Prop
 | .normal,_,W'=>I T xs W'/\KeepT (fun k=>E k\/T k) W W'
 | .ret,_,W'=>Ix .ret T xs W'/\KeepT (fun k=>E k\/T k) W W'
 | .exit id,_,W'=>Ix (.exit id) T xs W'/\KeepT (fun k=>E k\/T k) W W'
 | .goto t,_,W'=>Ix (.goto t) T xs W'/\KeepT (fun k=>E k\/T k) W W'
 | .panic _,_,_=>False
 | .outgrown,_,_=>False

theorem chg_putObj {T:Nat->Prop} (W:World) (l:Nat) (o:Obj) (hl:T l):Chg T W (W.putObj l o) :=
 ⟨rfl,rfl,rfl,by simp[World.putObj],fun k _ hk=>World.putObj_heap_other (fun e=>hk (e ▸ hl))⟩
theorem keepT_putObj {E:Nat->Prop} (W:World) (l:Nat) (o:Obj) (hl:¬E l):KeepT E W (W.putObj l o) :=
 ⟨by simp[World.putObj],fun k hk=>World.putObj_heap_other (fun e=>hl (e ▸ hk))⟩
theorem size_putObj (W:World) (l:Nat) (o:Obj):(W.putObj l o).heap.size=W.heap.size:=by simp[World.putObj]

set_option maxHeartbeats 1000000 in
theorem range_iter {α : Type} {P:Program} {g:Operand} {ps:Array Tmp} {assign body:Code} {Q:Exit->Act->World->Prop} {a:Act} {w:World}
  {gf:Nat} {lb:Array Value} (hg:a.eval g=.func (.func gf) #[] lb) (eg:∀ args w,(callFunc gf args).run P w=.ok (.enter gf args) w)
  {encs:α->Array Value} {S:List α->Prop} {E:Nat->Prop} {w0:World} (hit:Iter P gf lb encs S E w0) (hE:KeepT E w0 w) (hElt:∀ k,E k->k<w.heap.size) (hps:∀ x,(encs x).size=ps.size)
  (I:(Nat->Prop)->List α->World->Prop) (Ix:Code->(Nat->Prop)->List α->World->Prop) (hI:Stab I) (hIx:∀ c,Stab (Ix c)) (h0:I (fun _=>False) [] w)
  (hround:∀ (l:Nat) (T:Nat->Prop) (pre:List α) (x:α) (W:World),T l->(∀ k,T k->w.heap.size<=k/\k<W.heap.size)->I T pre W->KeepT E w0 W->(∃ ys,S ys/\pre ++ [x] <+: ys) ->
   assign.wpIn (Fence.wide.inRound l) 3 P (Exit.then (fun a₁ W₁=>KeepT (fun k=>E k\/T k) W W₁/\∀ W₂,Chg T W₁ W₂->W₂.heap.size=W₁.heap.size->KeepT E w0 W₂->body.wpIn (Fence.wide.inRound l) 3 P (iterPost E T I Ix (pre ++ [x]) W₂) a₁ W₂) (fun _ _ _=>False))
    { tmps:=(ps.zip (encs x)).foldl (fun t (p,v)=>t.setIfInBounds p v) a.tmps,defers:=[] } W)
  (hdone:∀ (D:Nat) (T:Nat->Prop) (xs:List α) (W:World),w.heap.size<=D->T D->S xs->I T xs W->(∀ k,T k->w.heap.size<=k/\k<W.heap.size)->W.heap[D]? = some (.deferred (some []))->Q .normal { a with defers:={ target:=.collected D,args:=#[] } :: a.defers } W)
  (hstop:∀ (D:Nat) (T:Nat->Prop) (c:Code) (pre:List α) (W:World),w.heap.size<=D->T D->Ix c T pre W->(∀ k,T k->w.heap.size<=k/\k<W.heap.size)->W.heap[D]? = some (.deferred (some []))->c.wpIn Fence.wide 3 P Q { a with defers:={ target:=.collected D,args:=#[] } :: a.defers } W) :
  (Code.rangeFunc g ps assign body).wpIn Fence.wide 3 P Q a w:=by
 refine wpIn_rangeFunc ?_
 intro fn hfn
 show ∃ _ _ _ _ _ _ _ _,(Instr.enterLoop fn a.tmps ps assign body none).run P w=_/\_
 obtain ⟨rec,hrec⟩:∃ rec:LoopState->Option Code->Loop,rec=fun st pe=>{ state:=st,pending:=pe,fn,tmps:=a.tmps,params:=ps,assign,body,defers:=w.heap.size }:=⟨_,rfl⟩
 obtain ⟨W1,hW1⟩:∃ W1,(w.alloc (.deferred (some []))).alloc (.loop (rec .ready none))=W1:=⟨_,rfl⟩
 have hL1:W1.heap[w.heap.size+1]? = some (.loop (rec .ready none)):=by
  rw[<- hW1];have:=World.alloc_heap_new (w.alloc (.deferred (some []))) (.loop (rec .ready none));rwa [World.size_alloc] at this
 have hK1:W1.heap[w.heap.size]? = some (.deferred (some [])):=by
  rw[<- hW1];exact (Below.heap_alloc _ _ _ (by simp)).trans (World.alloc_heap_new w _)
 have hb1:Below w.heap.size w W1:=by rw[<- hW1];exact ((Below.refl _ w).alloc (Nat.le_refl _) _).alloc (by simp) _
 have hs1:W1.heap.size=w.heap.size+2:=by rw[<- hW1];simp
 obtain ⟨LD,hLD⟩:∃ LD:Nat->Prop,LD=fun k=>k=w.heap.size\/k=w.heap.size+1:=⟨_,rfl⟩
 have hI1:I LD [] W1:=hI _ _ _ _ _ h0 (Chg.of_below hb1) (fun k hk=>⟨Or.inr (by rw[hLD] at hk;omega),by rw[hLD] at hk;omega⟩)
 have hE1:KeepT E w0 W1:=hE.trans ⟨hb1.size,fun k hk=>hb1.block k (hElt k hk)⟩
 have hEn:∀ k,E k->k<w.heap.size:=hElt
 refine ⟨w.heap.size+1,[{ target:=.collected w.heap.size,args:=#[] }],W1,{ target:=.fn (.func gf) lb,args:=#[.func (.yield (w.heap.size+1)) #[] #[]] },W1,gf,
  #[.func (.yield (w.heap.size+1)) #[] #[]] ++ lb,W1, ?_, ?_, ?_, ?_,fun _=>by omega, ?_⟩
 ·rw[<- hW1,hrec];exact run_enterLoop_outer _ _ _ _ _
 ·simp only[resolve,hg]
  simp[go_sem]
 ·intro f' hf';exact trivial
 ·simp[invoke,go_sem,eg]
 ·
  obtain ⟨Bk,hBk⟩:∃ Bk:(Nat->Prop)->World->Prop,Bk=fun T W=>(∀ k,T k->w.heap.size+2<=k/\k<W.heap.size)/\w.heap.size+2<=W.heap.size/\KeepT E w0 W:=⟨_,rfl⟩
  have hstb:∀ (K:(Nat->Prop)->List α->World->Prop) (o:Obj),Stab K->Stab (fun T pre W=>K (fun k=>T k\/LD k) pre W/\W.heap[w.heap.size+1]? = some o/\W.heap[w.heap.size]? = some (.deferred (some []))/\Bk T W):=by
   intro K o hK T T' pre A B hs hc hT
   obtain ⟨h1,h2,h3,h4⟩:=hs
   rw[hBk] at h4
   obtain ⟨h4,h5,h6⟩:=h4
   have nT:∀ k,k<w.heap.size+2->¬T k:=fun k hk ht=>by have:=(h4 k ht).1;omega
   refine ⟨hK _ _ _ _ _ h1 (hc.mono (fun k _ hk=>Or.inl hk)) ?_,(hc.block _ (by omega) (nT _ (by omega))).trans h2,(hc.block _ (by omega) (nT _ (by omega))).trans h3, ?_⟩
   ·intro k hk
    rcases hk with hk | hk
    ·exact ⟨(hT k hk).1.elim (fun h=>Or.inl (Or.inl h)) Or.inr,(hT k hk).2⟩
    ·refine ⟨Or.inl (Or.inr hk), ?_⟩
     have:=hc.size
     rw[hLD] at hk
     omega
   ·rw[hBk]
    refine ⟨fun k hk=>⟨?_,(hT k hk).2⟩,Nat.le_trans h5 hc.size,h6.trans (KeepT.of_chg hc (fun k hk=>⟨by have:=hEn k hk;omega,nT k (by have:=hEn k hk;omega)⟩))⟩
    rcases (hT k hk).1 with h | h
    ·exact (h4 k h).1
    ·omega
  have hbk:∀ {T:Nat->Prop} {W:World},Bk T W->(∀ k,T k->w.heap.size+2<=k/\k<W.heap.size)/\w.heap.size+2<=W.heap.size/\KeepT E w0 W:=fun h=>by rw[hBk] at h;exact h
  have hTL:∀ {T:Nat->Prop} {W:World},Bk T W->∀ k,(T k\/LD k)->w.heap.size<=k/\k<W.heap.size:=by
   intro T W h k hk
   obtain ⟨h4,h5,_⟩:=hbk h
   rcases hk with hk | hk
   ·have:=h4 k hk;omega
   ·rw[hLD] at hk;omega
  refine (callsIn_wide_any (hit (w.heap.size+1)
   (fun T pre W=>I (fun k=>T k\/LD k) pre W/\W.heap[w.heap.size+1]? = some (.loop (rec .ready none))/\W.heap[w.heap.size]? = some (.deferred (some []))/\Bk T W)
   (fun T pre W=>∃ c,Ix c (fun k=>T k\/LD k) pre W/\W.heap[w.heap.size+1]? = some (.loop (rec .done (some c)))/\W.heap[w.heap.size]? = some (.deferred (some []))/\Bk T W)
   W1 hE1 (hstb I _ hI)
   (fun T T' pre A B hs hc hT=>by
    obtain ⟨c,hs⟩:=hs
    exact ⟨c,hstb (Ix c) _ (hIx c) T T' pre A B hs hc hT⟩)
   ?_ ⟨?_,hL1,hK1, ?_⟩)).mono ?_
  ·
   rintro T pre x W ⟨hi,hl,hk,hB⟩ hpre
   obtain ⟨h4,h5,h6⟩:=hbk hB
   have hlt:w.heap.size+1<W.heap.size:=by omega
   have hTl:(fun k=>T k\/LD k) (w.heap.size+1):=Or.inr (by rw[hLD];exact Or.inr rfl)
   have hTd:(fun k=>T k\/LD k) w.heap.size:=Or.inr (by rw[hLD];exact Or.inl rfl)
   have hEl:¬E (w.heap.size+1):=fun h=>by have:=hEn _ h;omega
   have hy:=run_yield (P:=P) (args:=encs x) hl (by rw[hrec];exact hps x)
   rw[hrec] at hy
   have hr:=hround (w.heap.size+1) (fun k=>T k\/LD k) pre x W hTl (hTL hB) hi h6 hpre
   refine ⟨fn,_,assign,body,hy,roundIn_wide_any (n:=3) (roundIn_of_wpIn hfn (wpIn_mono hr ?_))⟩
   rintro e a₁ W₁ hq
   cases e with
   | normal =>
    obtain ⟨hk1,hbody⟩:=hq
    have hl1:W₁.heap[w.heap.size+1]? = some (.loop (rec .ready none)):=(hk1.2 _ (Or.inr hTl)).trans hl
    have hd1:W₁.heap[w.heap.size]? = some (.deferred (some [])):=(hk1.2 _ (Or.inr hTd)).trans hk
    have hE1':KeepT E w0 W₁:=h6.trans (hk1.mono (fun k h=>Or.inl h))
    refine ⟨_,run_beginRound hl1 (by rw[hrec]), ?_⟩
    have hlt1:w.heap.size+1<W₁.heap.size:=by have:=hk1.1;omega
    have hl2:(W₁.putObj (w.heap.size+1) (.loop { rec .ready none with state:=.busy })).heap[w.heap.size+1]? = some (.loop { rec .ready none with state:=.busy }):=World.putObj_heap_same hlt1
    have hd2:(W₁.putObj (w.heap.size+1) (.loop { rec .ready none with state:=.busy })).heap[w.heap.size]? = some (.deferred (some [])):=(World.putObj_heap_other (by omega)).trans hd1
    have hE2':KeepT E w0 (W₁.putObj (w.heap.size+1) (.loop { rec .ready none with state:=.busy })):=hE1'.trans (keepT_putObj _ _ _ hEl)
    refine wpIn_mono (hbody _ (chg_putObj _ _ _ hTl) (size_putObj _ _ _) hE2') ?_
    have keepB:∀ (o:Obj) (W3 W4:World),KeepT (fun k=>E k\/(T k\/LD k)) (W₁.putObj (w.heap.size+1) (.loop { rec .ready none with state:=.busy })) W3->W4=W3.putObj (w.heap.size+1) o->KeepT (fun k=>E k\/T k) W W4/\Bk T W4/\W4.heap[w.heap.size+1]? = some o/\W4.heap[w.heap.size]? = some (.deferred (some [])):=by
     rintro o W3 W4 hk3 rfl
     have hnl:∀ k,E k\/T k->k≠w.heap.size+1:=fun k hk e=>hk.elim (fun h=>by have:=hEn k h;omega) (fun h=>by have:=(h4 k h).1;omega)
     have e1:KeepT (fun k=>E k\/T k) W W₁:=hk1.mono (fun k h=>h.imp id Or.inl)
     have e2:KeepT (fun k=>E k\/T k) W₁ (W₁.putObj (w.heap.size+1) (.loop { rec .ready none with state:=.busy })):=keepT_putObj _ _ _ (fun h=>hnl _ h rfl)
     have e3:KeepT (fun k=>E k\/T k) _ W3:=hk3.mono (fun k h=>h.imp id Or.inl)
     have e4:KeepT (fun k=>E k\/T k) W3 (W3.putObj (w.heap.size+1) o):=keepT_putObj _ _ _ (fun h=>hnl _ h rfl)
     have e5:=((e1.trans e2).trans e3).trans e4
     have hlt3:w.heap.size+1<W3.heap.size:=by have:=hk3.1;rw[size_putObj] at this;omega
     refine ⟨e5, ?_,World.putObj_heap_same hlt3, ?_⟩
     ·rw[hBk]
      exact ⟨fun k hk=>⟨(h4 k hk).1,Nat.lt_of_lt_of_le (h4 k hk).2 e5.1⟩,Nat.le_trans h5 e5.1,h6.trans (e5.mono (fun k h=>Or.inl h))⟩
     ·exact (World.putObj_heap_other (by omega)).trans ((hk3.2 _ (Or.inr hTd)).trans hd2)
    have fin:∀ (jump:Option Code) (W3:World),KeepT (fun k=>E k\/(T k\/LD k)) (W₁.putObj (w.heap.size+1) (.loop { rec .ready none with state:=.busy })) W3 ->
      (Instr.endRound (w.heap.size+1) jump).run P W3=.ok (.bool jump.isNone) (W3.putObj (w.heap.size+1) (.loop (rec (if jump.isNone then .ready else .done) jump))):=fun jump W3 hk3=>by
     have hl3:=(hk3.2 _ (Or.inr hTl)).trans hl2
     have:=run_endRound (P:=P) jump hl3
     rw[hrec] at this ⊢
     exact this
    have stI:∀ (K:(Nat->Prop)->List α->World->Prop) (ys:List α) (o:Obj) (W3:World),Stab K->K (fun k=>T k\/LD k) ys W3->Bk T (W3.putObj (w.heap.size+1) o)->K (fun k=>T k\/LD k) ys (W3.putObj (w.heap.size+1) o):=fun K ys o W3 hK h hb=>hK _ _ _ _ _ h (chg_putObj _ _ _ hTl) (fun k hk=>⟨Or.inl hk,(hTL hb k hk).2⟩)
    rintro e a3 W3 hp
    cases e with
    | normal =>
     obtain ⟨hi3,hk3⟩:=hp
     obtain ⟨k5,kB,kl,kd⟩:=keepB _ W3 _ hk3 rfl
     exact ⟨_,_,fin none W3 hk3,.inl ⟨rfl,⟨stI I _ _ _ hI hi3 kB,kl,kd,kB⟩,k5⟩⟩
    | ret =>
     obtain ⟨hi3,hk3⟩:=hp
     obtain ⟨k5,kB,kl,kd⟩:=keepB _ W3 _ hk3 rfl
     exact ⟨_,_,fin (some .ret) W3 hk3,.inr ⟨rfl,⟨.ret,stI _ _ _ _ (hIx _) hi3 kB,kl,kd,kB⟩,k5⟩⟩
    | exit id =>
     obtain ⟨hi3,hk3⟩:=hp
     obtain ⟨k5,kB,kl,kd⟩:=keepB _ W3 _ hk3 rfl
     exact ⟨_,_,fin (some (.exit id)) W3 hk3,.inr ⟨rfl,⟨.exit id,stI _ _ _ _ (hIx _) hi3 kB,kl,kd,kB⟩,k5⟩⟩
    | goto t =>
     obtain ⟨hi3,hk3⟩:=hp
     obtain ⟨k5,kB,kl,kd⟩:=keepB _ W3 _ hk3 rfl
     exact ⟨_,_,fin (some (.goto t)) W3 hk3,.inr ⟨rfl,⟨.goto t,stI _ _ _ _ (hIx _) hi3 kB,kl,kd,kB⟩,k5⟩⟩
    | panic ch=>exact hp.elim
    | outgrown=>exact hp.elim
   | ret=>exact hq.elim
   | exit id=>exact hq.elim
   | goto t=>exact hq.elim
   | panic ch=>exact hq.elim
   | outgrown=>exact hq.elim
  ·exact hI _ _ _ _ _ hI1 (Chg.refl _ _) (fun k hk=>⟨Or.inl (hk.resolve_left (fun h=>h)),by rcases hk with h | h;exact h.elim;rw[hLD] at h;omega⟩)
  ·rw[hBk];exact ⟨fun k h=>h.elim,by omega,hE1⟩
  ·
   have hDl:∀ (T:Nat->Prop),(fun k=>T k\/LD k) w.heap.size:=fun T=>Or.inr (by rw[hLD];exact Or.inl rfl)
   have hLl:∀ (T:Nat->Prop),(fun k=>T k\/LD k) (w.heap.size+1):=fun T=>Or.inr (by rw[hLD];exact Or.inr rfl)
   rintro e W2 ⟨⟨v,rfl⟩,(⟨xs,hS,T,hi,hl,hk,hB⟩ | ⟨pre,T,c,hi,hl,hk,hB⟩)⟩
   ·refine ⟨none,_,by have:=run_endLoop (P:=P) hl (by rw[hrec];simp);rw[hrec] at this;exact this, ?_⟩
    refine hdone _ _ xs _ (Nat.le_refl _) (hDl T) hS (hI _ (fun k=>T k\/LD k) _ _ _ hi (chg_putObj _ _ _ (hLl T)) (fun k hk=>⟨Or.inl hk,by rw[size_putObj];exact (hTL hB k hk).2⟩)) (fun k hk=>by rw[size_putObj];exact hTL hB k hk) ((World.putObj_heap_other (by omega)).trans hk)
   ·refine ⟨some c,_,by have:=run_endLoop (P:=P) hl (by rw[hrec];simp);rw[hrec] at this;exact this, ?_⟩
    refine hstop _ _ c pre _ (Nat.le_refl _) (hDl T) (hIx c _ (fun k=>T k\/LD k) _ _ _ hi (chg_putObj _ _ _ (hLl T)) (fun k hk=>⟨Or.inl hk,by rw[size_putObj];exact (hTL hB k hk).2⟩)) (fun k hk=>by rw[size_putObj];exact hTL hB k hk) ((World.putObj_heap_other (by omega)).trans hk)
end Go.Proofs.YtfmmllpjgkgeaaaGreatDoor
namespace Go.Proofs.YtfmmllpjgkgeaaaGreatDoor
open Go.RowKit Go.Maps Go.WideMaps Go.Shelf

section
variable {P:Program} {k:TypeId} {w:World} {v:Value} {r N cnt:Nat} {m:Value->Option Value} {left:Value->Prop}
variable {F:Fence} {nF:Nat} {ops:Array Oper} {rest:List Oper} {o:Oper} {a:Act} {Q:Exit->Act->World->Prop}
theorem RangeO.nextO (h:RangeO P k w v r N m left cnt) (K:Keyed P k) (ty:TypeId) :
  ((∀ key,¬left key)/\(Instr.next (.pointer (some ⟨r,0,none⟩)) false ty).run P w=.ok (.tuple #[.bool false]) w) \/
  ∃ key x w' cnt',left key/\m key=some x/\(Instr.next (.pointer (some ⟨r,0,none⟩)) false ty).run P w=.ok (.tuple #[.bool true,key,x]) w' /\
   RangeO P k w' v r N m (fun y=>left y/\y≠key) cnt'/\cnt'<cnt/\w.grownBy w' (some r)/\w'.heap.size=w.heap.size/\(Instr.entry (.pointer (some ⟨r,0,none⟩))).run P w'=.ok (.tuple #[key,x]) w':=by
 rcases h with ⟨h1,⟨s,seen,c,h2⟩,h3,h4,h5⟩ | ⟨b,h1,h2⟩
 ·exact Or.inl ⟨h5,run_next_nil h2⟩
 ·rcases h2.next K ty with ⟨_,hl,hrun⟩ | ⟨key,x,w',cnt',g1,g2,g3,g4,g5,g6,g7,g8⟩
  ·exact Or.inl ⟨hl,hrun⟩
  ·exact Or.inr ⟨key,x,w',cnt',g1,g2,g3,Or.inr ⟨b,h1,g4⟩,g5,g6,g7,g8⟩
theorem MapO.rangeO {t e:TypeId} (h:MapO P k w v N m) (K:Keyed P k) (ht:P.underlying t=some (.map k e)) :
  ∃ w',(Instr.range t v).run P w=.ok (.pointer (some ⟨w.heap.size,0,none⟩)) w'/\RangeO P k w' v w.heap.size N m (fun key=>(m key).isSome=true) N/\w.grownBy w' none/\w'.heap.size=w.heap.size+1:=by
 rcases h with ⟨rfl,rfl,rfl⟩ | ⟨b,rfl,h2⟩
 ·exact ⟨_,run_range_nilMap w t k e ht,Or.inl ⟨rfl,⟨0,#[],0,heap_alloc_new w _⟩,rfl,rfl,fun key h=>by cases h⟩,World.grownBy_alloc w _ none,by simp⟩
 ·obtain ⟨w',hrun,r1,r2,r3⟩:=h2.range K ht
  exact ⟨w',hrun,Or.inr ⟨b,rfl,r1⟩,r2,r3⟩

theorem wpListIn_rangeO (hg:o.guard=none) (mo:Operand) (t:TypeId) (hop:o.op=Op.range t mo) (e:TypeId) (K:Keyed P k) (ht:P.underlying t=some (.map k e))
  (hm:a.eval mo=v) (h:MapO P k w v N m)
  (hK:∀ w',RangeO P k w' v w.heap.size N m (fun key=>(m key).isSome=true) N->w.grownBy w' none->w'.heap.size=w.heap.size+1->wpListIn F nF P ops Q rest (a.put o.dst (.pointer (some ⟨w.heap.size,0,none⟩))) w'):wpListIn F nF P ops Q (o :: rest) a w:=by
 refine wpListIn_plain hg fun K' hK'=>?_
 obtain ⟨w',hrun,r1,r2,r3⟩:=h.rangeO K ht
 unfold Oper.wpIn
 refine ⟨by simp[Oper.about,hop], ?_⟩
 rw[Oper.semAt_plain F _ _ (by rw[hop];intro c hc';cases hc')]
 simp[execOp,hop,hm,hrun,Result.andThen]
 exact hK' _ _ (hK w' r1 r2 r3)
theorem wpListIn_nextO {α : Type} (hg:o.guard=none) (it:Operand) (hop:o.op=Op.next it false) (K:Keyed P k) (mk mv:α->Value) (hit:a.eval it=.pointer (some ⟨r,0,none⟩)) (h:RangeO P k w v r N m left cnt)
  (hsh:∀ key v,left key->m key=some v->∃ x,key=mk x/\v=mv x)
  (hDone:(∀ key,¬left key)->wpListIn F nF P ops Q rest (a.put o.dst (.tuple #[.bool false])) w)
  (hMore:∀ (x:α) (w':World) (cnt':Nat),left (mk x)->m (mk x)=some (mv x)->RangeO P k w' v r N m (fun y=>left y/\y≠mk x) cnt'->cnt'<cnt->w.grownBy w' (some r)->w'.heap.size=w.heap.size ->
   (Instr.entry (.pointer (some ⟨r,0,none⟩))).run P w'=.ok (.tuple #[mk x,mv x]) w'->wpListIn F nF P ops Q rest (a.put o.dst (.tuple #[.bool true,mk x,mv x])) w'):wpListIn F nF P ops Q (o :: rest) a w:=by
 refine wpListIn_plain hg fun K' hK'=>?_
 unfold Oper.wpIn
 refine ⟨by simp[Oper.about,hop], ?_⟩
 rw[Oper.semAt_plain F _ _ (by rw[hop];intro c hc';cases hc')]
 rcases h.nextO K o.type with ⟨hl,hrun⟩ | ⟨key,v,w',cnt',hlk,hv,hrun,hrg,hlt,hgr,hsz,hen⟩
 ·simp[execOp,hop,hit,hrun,Result.andThen]
  exact hK' _ _ (hDone hl)
 ·obtain ⟨x,rfl,rfl⟩:=hsh key v hlk hv
  simp[execOp,hop,hit,hrun,Result.andThen]
  exact hK' _ _ (hMore x w' cnt' hlk hv hrg hlt hgr hsz hen)
end

def leftO (v:Value) (r:Nat) (w:World):Nat:=match v with | .map (some b)=>w.rangeLeft b r | _=>0
theorem RangeO.leftO {P:Program} {k:TypeId} {w:World} {v:Value} {r N cnt:Nat} {m:Value->Option Value} {left:Value->Prop} (h:RangeO P k w v r N m left cnt):leftO v r w=cnt:=by
 rcases h with ⟨rfl,_,h3,_⟩ | ⟨b,rfl,h2⟩
 ·exact h3.symm
 ·exact h2.left_eq

set_option maxHeartbeats 1000000 in
theorem Keys_any (w:World) (io:Option Nat):Calls Tryz.prog 204 #[.map io] w fun e w'=>e=.returned (.func (.func 251) #[] #[.pointer (some ⟨w.heap.size,0,none⟩)])/\w'=w.alloc (.cells #[.map io] 96):=by
 go_enter Tryz.func204,Tryz.ntmps204
 go_wp2
 go_ret
 exact ⟨rfl,rfl⟩

attribute [local go_sem] Oper.semAt_some

def AllOf (It:Nat->Option Value) (ns:List Nat):Prop:=ns.Nodup/\∀ n,n∈ns↔It n≠none

theorem allOf_more {It:Nat->Option Value} {n:Nat} {left:Value->Prop} {pre:List Nat} (h501:∀ n,It n≠none->okD n) (hp:pre.Nodup) (h1:∀ k,k∈pre↔It k≠none/\¬left (dotE k)) (hn:left (dotE n)) (hI:It n≠none) :
  ∃ ys,AllOf It ys/\pre ++ [n] <+: ys:=by
 have dec:∀ k,Decidable (It k≠none/\left (dotE k)/\k≠n):=fun k=>Classical.propDecidable _
 refine ⟨pre ++ [n] ++ (List.range 3072).filter (fun k=>@decide _ (dec k)),⟨?_, ?_⟩,List.prefix_append _ _⟩
 ·rw[List.append_assoc,List.nodup_append]
  refine ⟨hp, ?_, ?_⟩
  ·rw[List.singleton_append,List.nodup_cons]
   refine ⟨fun h=>?_,List.Pairwise.filter _ List.nodup_range⟩
   simp only[List.mem_filter,decide_eq_true_eq] at h
   exact h.2.2.2 rfl
  ·intro x hx y hy e
   subst e
   simp only[List.singleton_append,List.mem_cons,List.mem_filter,decide_eq_true_eq] at hy
   rcases hy with rfl | hy
   ·exact ((h1 _).1 hx).2 hn
   ·exact ((h1 x).1 hx).2 hy.2.2.1
 ·intro k
  simp only[List.mem_append,List.mem_singleton,List.mem_filter,List.mem_range,decide_eq_true_eq]
  constructor
  ·rintro ((h | h) | h)
   ·exact ((h1 k).1 h).1
   ·subst h;exact hI
   ·exact h.2.1
  ·intro h
   by_cases e:k=n
   ·exact Or.inl (Or.inr e)
   ·by_cases hl:left (dotE k)
    ·exact Or.inr ⟨okD_lt (h501 k h),h,hl,e⟩
    ·exact Or.inl (Or.inl ((h1 k).2 ⟨h,hl⟩))

theorem RangeO.keep {P:Program} {k:TypeId} {w w':World} {v:Value} {r N cnt:Nat} {m:Value->Option Value} {left:Value->Prop} (h:RangeO P k w v r N m left cnt) (hb:∀ b,v=.map (some b)->w'.heap[b]? = w.heap[b]?) (hr:w'.heap[r]? = w.heap[r]?):RangeO P k w' v r N m left cnt:=by
 rcases h with ⟨h1,⟨s,seen,c,h2⟩,h3⟩ | ⟨b,h1,h2⟩
 ·exact Or.inl ⟨h1,⟨s,seen,c,hr.trans h2⟩,h3⟩
 ·exact Or.inr ⟨b,h1,h2.block (hb b h1) hr⟩

set_option maxRecDepth 100000 in
set_option maxHeartbeats 4000000 in
theorem Keys1_iter (w0:World) (kb:Nat) (io:Option Nat) (It:Nat->Option Value) (N:Nat) (hk:Blk w0 kb #[.map io] 96) (hM:MapO Tryz.prog 134 w0 (.map io) N (im It)) (h501:∀ n,It n≠none->okD n) :
  Iter Tryz.prog 251 #[.pointer (some ⟨kb,0,none⟩)] (fun n:Nat=>#[Value.agg #[.int .i64 (who n:Int),.int .i64 (nth n:Int)]]) (AllOf It) (fun k=>k=kb\/io=some k) w0:=by
 intro l J Jx W hE hJ hJx hY h0
 have hkb:Blk W kb #[.map io] 96:=(hE.2 kb (Or.inl rfl)).trans hk
 have c0:W.cell? ⟨kb,0,none⟩=some (.map io):=(hkb.cell 0).trans rfl
 have hMW:MapO Tryz.prog 134 W (.map io) N (im It):=by
  rcases hM with h | ⟨b,hb,h⟩
  ·exact Or.inl h
  ·exact Or.inr ⟨b,hb,h.block (hE.2 b (Or.inr (by cases hb;rfl)))⟩
 have hlt:∀ k,(k=kb\/io=some k)->k<W.heap.size:=by
  rintro k (rfl | h)
  ·exact hkb.lt
  ·exact hMW.lt k (by rw[h])
 clear hM hk
 refine callsIn_of_wp Tryz.func251 rfl trivial ?_ rfl
 simp only[Tryz.ntmps251,List.size_toArray,List.length_cons,List.length_nil,Nat.reduceAdd,Nat.reduceSub,Array.replicate_succ,Array.replicate_zero,List.push_toArray,List.append_toArray,List.nil_append,List.cons_append]
 gi_wp2_with (first | (gi_at_range;refine wpListIn_rangeO rfl (.tmp 4) 96 rfl 86 kDot Tryz.underlying96 rfl hMW ?_;intro w1 hr1 hg1 hs1;go_frame))
 obtain ⟨T,hT⟩:∃ T:Nat->Prop,T=fun k=>k=W.heap.size:=⟨_,rfl⟩
 have hJ1:J T [] w1:=hJ _ _ _ _ _ h0 ((Chg.refl _ W).grown hg1 (fun k e=>by cases e)) (fun k hk=>by rw[hT] at hk;subst hk;exact ⟨Or.inr (Nat.le_refl _),by omega⟩)
 gi_loopw [3] (fun _ wx=>∃ (left:Value->Prop) (q:Nat) (pre:List Nat),RangeO Tryz.prog 134 wx (.map io) W.heap.size N (im It) left q/\J T pre wx/\pre.Nodup/\∀ k,k∈pre↔It k≠none/\¬left (dotE k)) (fun _ wx=>leftO (.map io) W.heap.size wx)
 case atStart =>
  refine ⟨_,_,[],hr1,hJ1,List.Pairwise.nil,fun k=>?_⟩
  simp only[List.not_mem_nil,false_iff,im_dot]
  rintro ⟨h1,h2⟩
  exact h2 (Option.isSome_iff_ne_none.2 h1)
 case round =>
  obtain ⟨left,q,pre,hR,hJp,hnd,hmem⟩:=hrel
  clear hr1 hJ1
  have HR:Hid (RangeO Tryz.prog 134 wr (.map io) W.heap.size N (im It) left q):=hR
  have Hsh:Hid (∀ key v,left key->im It key=some v->∃ x:Nat × Value,key=(fun x:Nat × Value=>dotE x.1) x/\v=(fun x:Nat × Value=>x.2) x):=fun key v _ hk=>by obtain ⟨n,h1,h2⟩:=im_shape hk;exact ⟨(n,v),h1,rfl⟩
  have HJp:Hid (J T pre wr):=hJp
  have Hm:Hid (pre.Nodup/\∀ k,k∈pre↔It k≠none/\¬left (dotE k)):=⟨hnd,hmem⟩
  have hrl:W.heap.size<wr.heap.size:=hR.lt
  clear hR hJp hnd hmem
  gi_wp2_with (first | (gi_at_next;refine wpListIn_nextO rfl (.tmp 5) rfl kDot (fun x:Nat × Value=>dotE x.1) (fun x:Nat × Value=>x.2) rfl HR.out Hsh.out ?_ ?_))
  ·intro hl0
   gi_wp2
   go_end0
   refine ⟨⟨_,rfl⟩,Or.inl ⟨pre,⟨Hm.out.1,fun n=>?_⟩,T,HJp.out⟩⟩
   rw[Hm.out.2 n]
   exact ⟨fun h=>h.1,fun h=>⟨h,hl0 _⟩⟩
  ·intro n v w4 q4 hlk hmk hR4 hlt4 hg4 hs4 hen4
   have hIn:It n≠none:=by rw[<- im_dot It n];exact fun e=>by rw[show dotE n=_ from rfl] at e;rw[hmk] at e;cases e
   have hch:Chg T wr (w4.alloc (.cells #[.int .i64 (who n:Int),.int .i64 (nth n:Int)] 134)):=((Chg.refl T wr).grown hg4 (fun k e=>by cases e;left;rw[hT])).below ((Below.refl _ w4).alloc (Nat.le_refl _) _)
   have hJ5:J T pre (w4.alloc (.cells #[.int .i64 (who n:Int),.int .i64 (nth n:Int)] 134)):=hJ _ _ _ _ _ HJp.out hch (fun k hk=>⟨Or.inl hk,by rw[hT] at hk;subst hk;simp;omega⟩)
   obtain ⟨fn,tmps,assign,body,hy,hRd⟩:=hY T pre n _ hJ5 (allOf_more h501 Hm.out.1 Hm.out.2 hlk hIn)
   try dsimp only at hy
   gi_wp2
   refine (roundIn_wide_any hRd).mono ?_
   rintro e W3 (⟨rfl,hJ3,hk3⟩ | ⟨rfl,hJx3,_⟩)
   ·have hR3:RangeO Tryz.prog 134 W3 (.map io) W.heap.size N (im It) (fun y=>left y/\y≠dotE n) q4:=by
     have h5:=hR4.chg (M:=fun _=>False) (Chg.of_below ((Below.refl _ w4).alloc (Nat.le_refl _) (.cells #[.int .i64 (who n:Int),.int .i64 (nth n:Int)] 134))) (fun _ _ h=>h) (fun h=>h)
     exact h5.keep (fun b hb=>hk3.2 b (Or.inl (Or.inr (by cases hb;rfl)))) (hk3.2 _ (Or.inr (by rw[hT])))
    gi_wp2
    go_roundw
    case rel =>
     refine ⟨_,q4,pre ++ [n],hR3,hJ3, ?_,fun k=>?_⟩
     ·rw[List.nodup_append]
      exact ⟨Hm.out.1,by simp,fun x hx y hy e=>by simp at hy;subst hy;subst e;exact ((Hm.out.2 _).1 hx).2 hlk⟩
     ·rw[List.mem_append,List.mem_singleton,Hm.out.2 k]
      constructor
      ·rintro (⟨h1,h2⟩ | rfl)
       ·exact ⟨h1,fun h=>h2 h.1⟩
       ·exact ⟨hIn,fun h=>h.2 rfl⟩
      ·rintro ⟨h1,h2⟩
       by_cases e:k=n
       ·exact Or.inr e
       ·exact Or.inl ⟨h1,fun h=>h2 ⟨h,fun e2=>e (dotE_inj e2)⟩⟩
    case measure=>rw[hR3.leftO,HR.out.leftO];exact hlt4
   ·gi_wp2
    refine bodyPost_ret (results_none rfl _ _ _) rfl ?_
    exact ⟨⟨_,rfl⟩,Or.inr ⟨pre ++ [n],T,hJx3⟩⟩
end Go.Proofs.YtfmmllpjgkgeaaaGreatDoor
namespace Go.Proofs.YtfmmllpjgkgeaaaGreatDoor
open Go.RowKit

structure CollV (w:World) (B:Nat) (t e:TypeId) (size:Nat) (cells:List Value) (cnt:Nat) (T:Nat->Prop) (W:World) (v:Value):Prop where
 bx:Boxed W B t v
 row:W.ownsRow w.heap.size e size v cnt cells
 nB:¬T B
 nR:∀ g,v.ownBlock=some g->¬T g
 below:Below w.heap.size w W
 tnew:∀ k,T k->w.heap.size<=k
 bnew:w.heap.size<=B
def Coll (w:World) (B:Nat) (t e:TypeId) (size:Nat) (cells:List Value) (cnt:Nat) (T:Nat->Prop) (W:World):Prop:=∃ v,CollV w B t e size cells cnt T W v

theorem CollV.stab {w:World} {B:Nat} {t e:TypeId} {size:Nat} {cells:List Value} {cnt:Nat} {T T':Nat->Prop} {W W':World} {v:Value} (h:CollV w B t e size cells cnt T W v) (hc:Chg T W W') (hT:∀ k,T' k->(T k\/W.heap.size<=k)/\k<W'.heap.size):CollV w B t e size cells cnt T' W' v:=by
 refine ⟨(hc.block B h.bx.lt h.nB).trans h.bx,ownsRow_chg h.row hc h.nR,fun hk=>?_,fun g hg hk=>?_, ?_,fun k hk=>?_,h.bnew⟩
 ·rcases (hT B hk).1 with h1 | h1
  ·exact h.nB h1
  ·have:=h.bx.lt;omega
 ·rcases (hT g hk).1 with h1 | h1
  ·exact h.nR g hg h1
  ·have:=(h.row.lt g hg).2;omega
 ·exact h.below.trans ⟨hc.os,hc.tape,hc.output,hc.size,fun k hk=>hc.block k (Nat.lt_of_lt_of_le hk h.below.size) (fun ht=>by have:=h.tnew k ht;omega)⟩
 ·rcases (hT k hk).1 with h1 | h1
  ·exact h.tnew k h1
  ·exact Nat.le_trans h.below.size h1
theorem Coll.stab {w:World} {B:Nat} {t e:TypeId} {size:Nat} {cells:List Value} {cnt:Nat} {T T':Nat->Prop} {W W':World} (h:Coll w B t e size cells cnt T W) (hc:Chg T W W') (hT:∀ k,T' k->(T k\/W.heap.size<=k)/\k<W'.heap.size):Coll w B t e size cells cnt T' W':=by
 obtain ⟨v,h⟩:=h;exact ⟨v,h.stab hc hT⟩

theorem CollV.app2 {w:World} {B:Nat} {t e:TypeId} {size:Nat} {cells news:List Value} {cnt m:Nat} {T E:Nat->Prop} {W w1:World} {v v':Value} {tmp:Obj} (h:CollV w B t e size cells cnt T W v) (hte:t≠e)
  (hown:w1.ownsRow w.heap.size e size v' (cnt+m) (cells ++ news)) (hg:(W.alloc tmp).grownBy w1 v.ownBlock) (hloc:v'.ownBlock=v.ownBlock\/v'.ownBlock=some (W.alloc tmp).heap.size) (hTl:∀ k,T k->k<W.heap.size) (hE:∀ k,E k->k<W.heap.size/\k≠B/\v.ownBlock≠some k) :
  Boxed w1 B t v/\CollV w B t e size (cells ++ news) (cnt+m) T (w1.setCell ⟨B,0,none⟩ v') v'/\KeepT (fun k=>E k\/T k) W (w1.setCell ⟨B,0,none⟩ v'):=by
 have hnr:some B≠v.ownBlock:=h.bx.not_row hte h.row
 have hb1:Boxed w1 B t v:=(h.bx.alloc tmp).kept hg hnr
 have hs:W.heap.size<=w1.heap.size:=by have:=hg.size;simp at this;omega
 have hblk:∀ k,k<W.heap.size->some k≠v.ownBlock->w1.heap[k]? = W.heap[k]?:=fun k hk hne=>(hg.block k (by simp;omega) hne).trans (((Below.refl _ W).alloc (Nat.le_refl _) tmp).block k hk)
 have hnr':some B≠v'.ownBlock:=hb1.not_row hte hown
 have hrow2:(w1.setCell ⟨B,0,none⟩ v').ownsRow w.heap.size e size v' (cnt+m) (cells ++ news):=ownsRow_chg (M:=fun k=>k=B) hown ((Chg.refl (fun k=>k=B) w1).setCell (p:=⟨B,0,none⟩) rfl _) (fun g hg e=>hnr' (by rw[hg,e]))
 refine ⟨hb1,⟨hb1.set v',hrow2,h.nB,fun g hg hk=>?_, ?_,h.tnew,h.bnew⟩, ?_,fun k hk=>?_⟩
 ·rcases hloc with hl | hl
  ·exact h.nR g (hl ▸ hg) hk
  ·rw[hl] at hg;cases hg;have:=hTl _ hk;simp at this;omega
 ·have:Below w.heap.size w w1:=(h.below.alloc h.below.size tmp).grown hg (by simp;have:=h.below.size;omega) (fun k e=>(h.row.lt k e).1)
  exact this.setCell (p:=⟨B,0,none⟩) h.bnew _
 ·simpa[World.setCell] using hs
 ·have hkl:k<W.heap.size:=hk.elim (fun h2=>(hE k h2).1) (hTl k)
  have hkB:k≠B:=fun e=>by subst e;exact hk.elim (fun h2=>(hE _ h2).2.1 rfl) h.nB
  have hkr:some k≠v.ownBlock:=fun e=>hk.elim (fun h2=>(hE k h2).2.2 e.symm) (h.nR k e.symm)
  exact (Below.heap_setCell w1 ⟨B,0,none⟩ v' k hkB).trans (hblk k hkl hkr)
theorem CollV.app {w:World} {B:Nat} {t e:TypeId} {size:Nat} {cells news:List Value} {cnt m:Nat} {T E:Nat->Prop} {W w1:World} {v v':Value} {tmp:Obj} (h:CollV w B t e size cells cnt T W v) (hte:t≠e)
  (hown:w1.ownsRow w.heap.size e size v' (cnt+m) (cells ++ news)) (hg:(W.alloc tmp).grownBy w1 v.ownBlock) (hloc:v'.ownBlock=v.ownBlock\/v'.ownBlock=some (W.alloc tmp).heap.size) (hTl:∀ k,T k->k<W.heap.size) (hE:∀ k,E k->k<w.heap.size) :
  Boxed w1 B t v/\CollV w B t e size (cells ++ news) (cnt+m) T (w1.setCell ⟨B,0,none⟩ v') v'/\KeepT (fun k=>E k\/T k) W (w1.setCell ⟨B,0,none⟩ v') :=
 h.app2 hte hown hg hloc hTl (fun k hk=>⟨Nat.lt_of_lt_of_le (hE k hk) h.below.size,by have:=hE k hk;have:=h.bnew;omega,fun e=>by have:=hE k hk;have:=(h.row.lt k e).1;omega⟩)
theorem ownsRow_ne {w:World} {base:Nat} {e:TypeId} {size:Nat} {v:Value} {n:Nat} {xs:List Value} {k:Nat} (h:w.ownsRow base e size v n xs) (hk:∀ cur fz,w.heap[k]?≠some (.cells cur e fz)):v.ownBlock≠some k:=by
 intro e'
 obtain ⟨_,⟨h1,_⟩ | ⟨g,cap,cur,rfl,_,hh,_⟩⟩:=h
 ·rw[h1] at e';cases e'
 ·cases e';exact hk _ _ hh
end Go.Proofs.YtfmmllpjgkgeaaaGreatDoor
namespace Go.Proofs.YtfmmllpjgkgeaaaGreatDoor
open Go.RowKit Go.Maps Go.WideMaps Go.Shelf

attribute [local go_sem] Oper.semAt_some

theorem Tryz.infoDot:(Tryz.prog.info? 134).map (fun i=>(i.zero,i.size,i.bytes))=some (some (.agg #[.int .i64 0,.int .i64 0]),2,16):=by kernel_rfl
def dcells (ns:List Nat):List Value:=ns.flatMap fun n:Nat=>[.int .i64 (who n:Int),.int .i64 (nth n:Int)]
theorem dcells_snoc (ns:List Nat) (n:Nat):dcells (ns ++ [n])=dcells ns ++ [.int .i64 (who n:Int),.int .i64 (nth n:Int)]:=by simp[dcells]

set_option maxRecDepth 100000 in
set_option maxHeartbeats 4000000 in
theorem AppendSeq_any (w:World) (gf:Nat) (lb:Array Value) (S:List Nat->Prop) (E:Nat->Prop) (hit:Iter Tryz.prog gf lb (fun n:Nat=>#[Value.agg #[.int .i64 (who n:Int),.int .i64 (nth n:Int)]]) S E w) (eg:∀ args w,(callFunc gf args).run Tryz.prog w=.ok (.enter gf args) w) (hE:∀ k,E k->k<w.heap.size) (hS:∀ ns,S ns->ns.length<=4000) :
  Calls Tryz.prog 278 #[.slice none 0 0,.func (.func gf) #[] lb] w fun e w'=>∃ v ns,e=.returned v/\S ns/\w'.ownsRow w.heap.size 134 2 v ns.length (dcells ns)/\Below w.heap.size w w':=by
 obtain ⟨i0,hi,hz0,hz1,hz2⟩:=info_parts Tryz.infoDot
 refine (callsIn_wide (n:=3)).1 ?_
 refine callsIn_of_wp_marks Tryz.func278 rfl trivial ?_ rfl
 simp only[Tryz.ntmps278,List.size_toArray,List.length_cons,List.length_nil,Nat.reduceAdd,Nat.reduceSub,Array.replicate_succ,Array.replicate_zero,List.push_toArray,List.append_toArray,List.nil_append,List.cons_append]
 gi_wp2
 have hbw:Below w.heap.size w (w.alloc (.cells #[.slice none 0 0] 137)):=(Below.refl _ w).alloc (Nat.le_refl _) _
 refine range_iter (gf:=gf) (lb:=lb) rfl eg hit ⟨hbw.size,fun k hk=>hbw.block k (hE k hk)⟩ (fun k hk=>Nat.lt_of_lt_of_le (hE k hk) hbw.size) (fun _=>rfl)
  (fun T pre W=>Coll w w.heap.size 137 134 2 (dcells pre) pre.length T W) (fun _ _ _ _=>False)
  (fun T T' pre W W' h hc hT=>h.stab hc hT) (fun _ _ _ _ _ _ h _ _=>h)
  ⟨_,Boxed.new w _ _,World.ownsRow_nil _ _ _ _,fun h=>h,fun _ _ h=>h,hbw,fun _ h=>h.elim,Nat.le_refl _⟩ ?round ?done ?stop
 case round =>
  rintro l T pre n W hTl hT ⟨v,hC⟩ hEW ⟨ys,hys,hpre⟩
  have hlen:pre.length+1<=4000:=by have:=hS ys hys;have:=hpre.length_le;simp at this;omega
  gi_wp2
  refine ⟨⟨by simp,fun k hk=>?_⟩, ?_⟩
  ·exact ((Below.refl _ W).alloc (Nat.le_refl _) _).block k (hk.elim (fun h=>Nat.lt_of_lt_of_le (Nat.lt_of_lt_of_le (hE k h) hbw.size) (by have:=hC.bx.lt;have:=hC.below.size;simp;omega)) (fun h=>(hT k h).2))
  intro W2 hc2 hs2 hE2
  have hTs:∀ k,T k->k<W2.heap.size:=fun k hk=>by rw[hs2];have:=(hT k hk).2;simp;omega
  have hC2:CollV w w.heap.size 137 134 2 (dcells pre) pre.length T W2 v:=hC.stab ((Chg.of_below ((Below.refl _ W).alloc (Nat.le_refl _) _)).trans hc2) (fun k hk=>⟨Or.inl hk,hTs k hk⟩)
  have kd:Blk W2 W.heap.size #[.int .i64 (who n:Int),.int .i64 (nth n:Int)] 134:=(Blk.new W _ _).chg hc2 (fun hk=>by have:=(hT _ hk).2;omega)
  have c0:=hC2.bx.cell
  have d0:=(kd.cell 0).trans rfl
  have d1:=(kd.cell 1).trans rfl
  have HC2:Hid (CollV w w.heap.size 137 134 2 (dcells pre) pre.length T W2 v):=hC2
  have hb2:w.heap.size<=W2.heap.size:=hC2.below.size
  have hml:Hid (pre.length+1<=maxLen):=by unfold Hid maxLen;omega
  have hmb:Hid ((pre.length+1)*16<=140737488355328):=by unfold Hid;omega
  have Hcn:Hid (∀ j u,([.int .i64 (who n:Int),.int .i64 (nth n:Int)]:List Value)[j]? = some u->(W2.alloc (.cells #[.int .i64 (who n:Int),.int .i64 (nth n:Int)] 134)).cell? ((⟨W2.heap.size,0,none⟩:Addr).add j)=some u):=fun j u hj=>by
   match j,hj with
   | 0,hj=>cases hj;simp[Addr.add]
   | 1,hj=>cases hj;simp[Addr.add]
  clear hC hC2 kd hc2 hE2 hs2
  gi_wp2_with (first | (gi_at_builtin;refine wpListIn_append_own_at _ rfl (.tmp 8) (.tmp 10) 137 rfl w.heap.size 134 i0 (.agg #[.int .i64 0,.int .i64 0]) 2 16 Tryz.underlying137 hi hz0 hz1 hz2 rfl (by decide) v pre.length (dcells pre) rfl (HC2.out.row.alloc _) ⟨W2.heap.size,0,none⟩ 1 1 [.int .i64 (who n:Int),.int .i64 (nth n:Int)] rfl rfl Hcn.out (by simp[Value.oneCell']) hml.out hmb.out (by simp;omega) ?_;intro v' w1 hown' hg' _ hloc;have happ:=HC2.out.app (E:=E) (by decide) hown' hg' hloc hTs hE;obtain ⟨g',cap',rfl⟩:=ownsRow_succ hown';have hc1:=happ.1.cell;have hf1:=happ.1.frozen))
  refine ⟨?_,happ.2.2⟩
  have h2:=happ.2.1
  rw[<- dcells_snoc] at h2
  exact ⟨_,by rw[List.length_append];exact h2⟩
 case done =>
  rintro D T xs W hD hTD hS' ⟨v,hC⟩ hT hK
  have c0:=hC.bx.cell
  have HC:Hid (CollV w w.heap.size 137 134 2 (dcells xs) xs.length T W v):=hC
  clear hC
  gi_wp2
  refine ⟨by simp,.inl ⟨_,_,rfl,run_takeDeferred hK, ?_⟩⟩
  refine ⟨_,results_tmp rfl _ _ _,v,xs,rfl,hS', ?_, ?_⟩
  ·exact ownsRow_putObj HC.out.row _ hK rfl
  ·have:=(HC.out.stab (T':=T) (chg_putObj W D (.deferred none) hTD) (fun k hk=>⟨Or.inl hk,by rw[size_putObj];exact (hT k hk).2⟩)).below
   exact this
 case stop =>
  rintro D T c pre W _ _ h
  exact h.elim
end Go.Proofs.YtfmmllpjgkgeaaaGreatDoor
namespace Go.Proofs.YtfmmllpjgkgeaaaGreatDoor
open Go.RowKit Go.Maps Go.WideMaps Go.Shelf Go.Sort

theorem dcells_get:∀ (ns:List Nat) (i:Nat) (h:i<ns.length),(dcells ns)[i*2]? = some (.int .i64 (who ns[i]:Int))/\(dcells ns)[i*2+1]? = some (.int .i64 (nth ns[i]:Int)):=by
 intro ns
 induction ns with
 | nil=>intro i h;simp at h
 | cons n r ih =>
  intro i h
  have e:dcells (n :: r)=[.int .i64 (who n:Int),.int .i64 (nth n:Int)] ++ dcells r:=rfl
  rw[e]
  cases i with
  | zero=>exact ⟨rfl,rfl⟩
  | succ i =>
   have:=ih i (by simpa using h)
   rw[show (i+1)*2=i*2+2 by omega]
   exact ⟨by rw[List.getElem?_append_right (by simp)];simpa using this.1,by rw[List.getElem?_append_right (by simp)];simpa using this.2⟩

def encDot (n:Nat):List Value:=[.int .i64 (who n:Int),.int .i64 (nth n:Int)]
theorem ownsRow_holdsK {w:World} {base g cap:Nat} {ns:List Nat} (h:w.ownsRow base 134 2 (.slice (some ⟨g,0,none⟩) ns.length cap) ns.length (dcells ns)):HoldsK encDot 2 w g 0 ns.toArray:=by
 intro j hj
 rw[size_flatK] at hj
 simp at hj
 have hf:w.frozen? ⟨g,0+j,none⟩=false:=by
  obtain ⟨_,⟨h1,_⟩ | ⟨g',cap',cur,hv,_,hh,_⟩⟩:=h
  ·cases h1
  ·simp only[Value.slice.injEq,Option.some.injEq,Addr.mk.injEq,true_and,and_true] at hv
   obtain ⟨rfl,rfl⟩:=hv
   simp[World.frozen?,hh]
 refine ⟨?_,hf⟩
 rw[get_flatK _ _ _ _ (by simpa using hj),Nat.zero_add,h.cellAt j hj]
 have hi:j / 2<ns.length:=by omega
 have hg:=dcells_get ns (j / 2) hi
 have e1:ns.toArray[j / 2]! = ns[j / 2]:=by simp[hi]
 rw[e1]
 rcases Nat.mod_two_eq_zero_or_one j with h0 | h0
 ·have e:j=j / 2*2:=by omega
  rw[h0]
  conv=>lhs;rw[e]
  rw[hg.1];(first | done | rfl)
 ·have e:j=j / 2*2+1:=by omega
  rw[h0]
  conv=>lhs;rw[e]
  rw[hg.2];(first | done | rfl)

theorem ltDot (x y:Nat):ltOf (fun x y:Nat=>Lib.compareInt x y) x y=decide (x<y):=by
 unfold ltOf Lib.compareInt
 by_cases h1:(x:Int)<y
 ·have:x<y:=by omega
  simp[this]
 ·have h3:¬x<y:=by omega
  by_cases h2:(y:Int)<x
  ·have:y<x:=by omega
   simp[h3,this]
  ·have:¬y<x:=by omega
   simp[h3,this]
theorem swoDot:SWO (ltOf fun x y:Nat=>Lib.compareInt x y):={
 irrefl x:=by rw[ltDot];simp
 trans x y z h1 h2:=by rw[ltDot] at *;simp at *;omega
 ntrans x y z h1 h2:=by rw[ltDot] at *;simp at *;omega }
theorem cmpLaysDot (blk off size:Nat) (w:World):CmpLays Tryz.prog 205 #[] encDot 2 (fun x y:Nat=>Lib.compareInt x y) blk off size w :=
 fun _ _ _ _ x y=>compare_any _ x y
theorem Tryz.isAggDot (w:World):(isAgg 134).run Tryz.prog w=.ok true w:=by kernel_rfl
theorem Tryz.sizeOfDot (w:World):(Go.sizeOf 134).run Tryz.prog w=.ok 2 w:=by kernel_rfl

theorem heap_sortWorldK {α : Type} [Inhabited α] (enc:α->List Value) (k:Nat) (w:World) (blk off m:Nat) (dk:Array α) (os:Array Obj):Chg (fun b=>b=blk) w (sortWorldK enc k w blk off m dk os):=by
 refine ⟨rfl,rfl,rfl,size_sortWorldK_c enc k w blk off m dk os,fun b hb hne=>?_⟩
 unfold sortWorldK
 rw[heap_grow_old _ _ (by simp[putRowK,putRow,mapBlock,Sort.ahead];exact hb)]
 simp only[putRowK,putRow,mapBlock,Sort.ahead]
 rw[Array.getElem?_modify]
 rw[if_neg (fun e=>hne (Eq.symm e))]

set_option maxHeartbeats 1000000 in
theorem SortFunc_any (w:World) (base:Nat) (v:Value) (ns:List Nat) (h:w.ownsRow base 134 2 v ns.length (dcells ns)) (hl:ns.length<=4000) :
  Calls Tryz.prog 250 #[v,.func (.func 205) #[] #[]] w fun e w'=>e=.returned (.tuple #[])/\∃ ns',ns'.Perm ns/\SliceD w' v ns'/\Chg (fun k=>v.ownBlock=some k) w w':=by
 have h0:=h
 obtain ⟨hx,⟨rfl,hn⟩ | ⟨g,cap,cur,rfl,hg,hh,hnc,_⟩⟩:=h
 ·have hns:ns=[]:=List.eq_nil_of_length_eq_zero hn
  subst hns
  refine Calls.mono (AnyF.slices_SortFunc_none Tryz.sortDot none 0 _ w) ?_
  rintro e w' ⟨rfl,rfl⟩
  exact ⟨rfl,[],List.Perm.refl _,Or.inl ⟨rfl,rfl⟩,Chg.refl _ _⟩
 ·have hH:=ownsRow_holdsK h0
  have hblk:g<w.heap.size:=(h0.lt g rfl).2
  have hcon:=AnyQ.slices_SortFunc Tryz.sortDot 2 Tryz.isAggDot Tryz.sizeOfDot encDot (fun _=>rfl) (fun x v hv=>by simp[encDot] at hv;rcases hv with rfl | rfl <;> rfl) (fun x y:Nat=>Lib.compareInt x y) swoDot 205 #[] g 0 cap ns.toArray w (enters_of Tryz.func205 (by kernel_rfl) rfl) (cmpLaysDot g 0 _ w) hH hblk (by simp;omega)
  refine Calls.mono hcon ?_
  rintro e w' ⟨rfl,d',m,os,⟨hsz,_,hp⟩,_,rfl⟩
  have hH':=holdsK_sortWorldK encDot 2 w g 0 m ns.toArray d' os hblk hH hsz
  have hperm:d'.toList.Perm ns:=by
   have e1:(d'.extract 0 ns.toArray.size)=d':=by rw[<- hsz];exact Array.extract_size
   have e2:(ns.toArray.extract 0 ns.toArray.size)=ns.toArray:=Array.extract_size
   rw[e1,e2] at hp
   simpa using hp
  have hlen:d'.toList.length=ns.length:=hperm.length_eq
  refine ⟨rfl,d'.toList,hperm,Or.inr ⟨g,0,cap,by rw[hlen],by rw[hlen];exact hnc,lt_sortWorldK _ _ _ _ _ _ _ _ hblk,fun j hj=>?_⟩,(heap_sortWorldK encDot 2 w g 0 m d' os).mono (fun k _ hk=>by subst hk;rfl)⟩
  have hj':j<d'.size:=by simpa using hj
  have c0:=(hH'.cell hj' (c:=0) (by omega)).1
  have c1:=(hH'.cell hj' (c:=1) (by omega)).1
  have e:d'[j]! = d'.toList[j]:=by simp[hj']
  rw[e] at c0 c1
  exact ⟨c0,c1⟩

set_option maxHeartbeats 1000000 in
theorem Collect_any (w:World) (gf:Nat) (lb:Array Value) (S:List Nat->Prop) (E:Nat->Prop) (hit:Iter Tryz.prog gf lb (fun n:Nat=>#[Value.agg #[.int .i64 (who n:Int),.int .i64 (nth n:Int)]]) S E w) (eg:∀ args w,(callFunc gf args).run Tryz.prog w=.ok (.enter gf args) w) (hE:∀ k,E k->k<w.heap.size) (hS:∀ ns,S ns->ns.length<=4000) :
  Calls Tryz.prog 249 #[.func (.func gf) #[] lb] w fun e w'=>∃ v ns,e=.returned v/\S ns/\w'.ownsRow w.heap.size 134 2 v ns.length (dcells ns)/\Below w.heap.size w w':=by
 have Hc:Hid (_):=AppendSeq_any w gf lb S E hit eg hE hS
 clear hit eg hE hS
 go_enter Tryz.func249,Tryz.ntmps249
 go_wp2_with fail
 refine Calls.mono Hc.out ?_
 rintro e w1 ⟨v,ns,rfl,h1,h2,h3⟩
 have HF:Hid (S ns/\w1.ownsRow w.heap.size 134 2 v ns.length (dcells ns)/\Below w.heap.size w w1):=⟨h1,h2,h3⟩
 clear h1 h2 h3 Hc
 go_wp2
 go_ret
 exact ⟨v,ns,rfl,HF.out⟩

set_option maxHeartbeats 1000000 in
theorem SortedFunc_any (w:World) (gf:Nat) (lb:Array Value) (It:Nat->Option Value) (E:Nat->Prop) (hit:Iter Tryz.prog gf lb (fun n:Nat=>#[Value.agg #[.int .i64 (who n:Int),.int .i64 (nth n:Int)]]) (AllOf It) E w) (eg:∀ args w,(callFunc gf args).run Tryz.prog w=.ok (.enter gf args) w) (hE:∀ k,E k->k<w.heap.size) (h501:∀ n,It n≠none->okD n) :
  Calls Tryz.prog 203 #[.func (.func gf) #[] lb,.func (.func 205) #[] #[]] w fun e w'=>∃ v ns,e=.returned v/\AllOf It ns/\SliceD w' v ns/\(∀ b,v.ownBlock=some b->w.heap.size<=b)/\Below w.heap.size w w':=by
 have hS:∀ ns,AllOf It ns->ns.length<=4000:=fun ns h=>by
  have:=nodup_lt 3072 ns h.1 (fun n hn=>okD_lt (h501 n ((h.2 n).1 hn)))
  omega
 have HS:Hid (∀ ns,AllOf It ns->ns.length<=4000):=hS
 have Hc:Hid (_):=Collect_any w gf lb (AllOf It) E hit eg hE hS
 clear hit eg hE hS
 go_enter Tryz.func203,Tryz.ntmps203
 go_wp2_with fail
 refine Calls.mono Hc.out ?_
 rintro e w1 ⟨v,ns,rfl,h1,h2,h3⟩
 have HF:Hid (AllOf It ns/\w1.ownsRow w.heap.size 134 2 v ns.length (dcells ns)/\Below w.heap.size w w1):=⟨h1,h2,h3⟩
 clear h1 h2 h3 Hc
 go_wp2_with fail
 refine Calls.mono (SortFunc_any w1 _ v ns HF.out.2.1 (HS.out ns HF.out.1)) ?_
 rintro e w2 ⟨rfl,ns',hp,hsl,hch⟩
 have HG:Hid (AllOf It ns'/\SliceD w2 v ns'/\(∀ b,v.ownBlock=some b->w.heap.size<=b)/\Below w.heap.size w w2):=⟨⟨hp.nodup_iff.2 HF.out.1.1,fun n=>(hp.mem_iff).trans (HF.out.1.2 n)⟩,hsl,fun b hb=>(HF.out.2.1.lt b hb).1,HF.out.2.2.trans ⟨hch.os,hch.tape,hch.output,hch.size,fun k hk=>hch.block k (Nat.lt_of_lt_of_le hk HF.out.2.2.size) (fun e=>by have:=(HF.out.2.1.lt k e).1;omega)⟩⟩
 clear hp hsl hch HF
 go_wp2
 go_ret
 exact ⟨v,ns',rfl,HG.out⟩

set_option maxHeartbeats 1000000 in
theorem All_any (w:World) (io co lo:Option Nat):Calls Tryz.prog 148 #[.agg #[.map io,.map co,.map lo]] w fun e w'=>e=.returned (.func (.func 202) #[] #[.pointer (some ⟨w.heap.size,0,none⟩)])/\w'=w.alloc (.cells #[.map io,.map co,.map lo] 102):=by
 go_enter Tryz.func148,Tryz.ntmps148
 go_wp2
 go_ret
 exact ⟨rfl,rfl⟩
end Go.Proofs.YtfmmllpjgkgeaaaGreatDoor
namespace Go.Proofs.YtfmmllpjgkgeaaaGreatDoor
open Go.RowKit Go.Maps Go.WideMaps Go.Shelf

attribute [local go_sem] Oper.semAt_some

structure Itm where
 n:Nat
 p:ByteArray
 a:Int
 v:ByteArray
 m:Int
noncomputable def itm (It:Nat->Option Value) (n:Nat):Itm:=@dite _ (∃ x:Itm,x.n=n/\It n=some (.agg #[.string x.p,.int .u8 x.a,.string x.v,.int .i64 x.m])) (Classical.propDecidable _) (fun h=>Classical.choose h) (fun _=>⟨n,⟨#[]⟩,0,⟨#[]⟩,0⟩)
theorem itm_n (It:Nat->Option Value) (n:Nat):(itm It n).n=n:=by
 unfold itm
 split
 ·rename_i h;exact (Classical.choose_spec h).1
 ·rfl
theorem itm_at {It:Nat->Option Value} {n:Nat} {v:Value} (h:It n=some v) (hv:ItemV v):It n=some (.agg #[.string (itm It n).p,.int .u8 (itm It n).a,.string (itm It n).v,.int .i64 (itm It n).m]):=by
 obtain ⟨s0,x1,s2,x3,rfl⟩:=hv
 unfold itm
 have hh:∃ x:Itm,x.n=n/\It n=some (.agg #[.string x.p,.int .u8 x.a,.string x.v,.int .i64 x.m]):=⟨⟨n,s0,x1,s2,x3⟩,rfl,h⟩
 rw[dif_pos hh]
 exact (Classical.choose_spec hh).2

def SAll (It:Nat->Option Value) (xs:List Itm):Prop:=AllOf It (xs.map Itm.n)/\∀ x∈xs,It x.n=some (.agg #[.string x.p,.int .u8 x.a,.string x.v,.int .i64 x.m])

theorem sAll_of {It:Nat->Option Value} {ns:List Nat} (h:AllOf It ns) (hv:∀ n v,It n=some v->ItemV v):SAll It (ns.map (itm It)):=by
 refine ⟨?_,fun x hx=>?_⟩
 ·have e:(ns.map (itm It)).map Itm.n=ns:=by rw[List.map_map];exact (List.map_congr_left (fun n _=>itm_n It n)).trans (List.map_id _)
  rw[e];exact h
 ·obtain ⟨n,hn,rfl⟩:=List.mem_map.1 hx
  obtain ⟨v,hvv⟩:=Option.ne_none_iff_exists'.1 ((h.2 n).1 hn)
  rw[itm_n]
  exact itm_at hvv (hv n v hvv)

set_option maxRecDepth 100000 in
set_option maxHeartbeats 4000000 in
theorem All1_iter (w0:World) (sb:Nat) (io co lo:Option Nat) (It:Nat->Option Value) (N:Nat) (hk:Blk w0 sb #[.map io,.map co,.map lo] 102) (hM:MapO Tryz.prog 134 w0 (.map io) N (im It)) (h501:∀ n,It n≠none->okD n) (hv:∀ n v,It n=some v->ItemV v) :
  Iter Tryz.prog 202 #[.pointer (some ⟨sb,0,none⟩)] (fun x:Itm=>#[dotE x.n,Value.agg #[.string x.p,.int .u8 x.a,.string x.v,.int .i64 x.m]]) (SAll It) (fun k=>k=sb\/io=some k) w0:=by
 intro l J Jx W hE hJ hJx hY h0
 have hkb:Blk W sb #[.map io,.map co,.map lo] 102:=(hE.2 sb (Or.inl rfl)).trans hk
 have c0:W.cell? ⟨sb,0,none⟩=some (.map io):=(hkb.cell 0).trans rfl
 have hMW:MapO Tryz.prog 134 W (.map io) N (im It):=by
  rcases hM with h | ⟨b,hb,h⟩
  ·exact Or.inl h
  ·exact Or.inr ⟨b,hb,h.block (hE.2 b (Or.inr (by cases hb;rfl)))⟩
 have hlt:∀ k,(k=sb\/io=some k)->k<W.heap.size:=by
  rintro k (rfl | h)
  ·exact hkb.lt
  ·exact hMW.lt k (by rw[h])
 clear hM hk
 have HKe:Hid (_):=Keys_any W io
 have HSo:Hid (∀ wx,wx=W.alloc (.cells #[.map io] 96)->Calls Tryz.prog 203 #[.func (.func 251) #[] #[.pointer (some ⟨W.heap.size,0,none⟩)],.func (.func 205) #[] #[]] wx fun e w'=>∃ v ns,e=.returned v/\AllOf It ns/\SliceD w' v ns/\(∀ b,v.ownBlock=some b->W.heap.size<=b)/\Below W.heap.size W w'):=fun wx hx=>by
  subst hx
  have hb:Below W.heap.size W (W.alloc (.cells #[.map io] 96)):=(Below.refl _ W).alloc (Nat.le_refl _) _
  refine Calls.mono (SortedFunc_any _ _ _ It _ (Keys1_iter _ W.heap.size io It N (Blk.new W _ _) (hMW.below hb) h501) (enters_of Tryz.func251 (by kernel_rfl) rfl) ?_ h501) ?_
  ·rintro k (rfl | h)
   ·simp
   ·have:=hlt k (Or.inr h);simp;omega
  ·rintro e w' ⟨v,ns,rfl,h1,h2,h3,h4⟩
   exact ⟨v,ns,rfl,h1,h2,fun b hb'=>by have:=h3 b hb';simp at this;omega,hb.trans (h4.mono (by simp))⟩
 refine callsIn_of_wp Tryz.func202 rfl trivial ?_ rfl
 simp only[Tryz.ntmps202,List.size_toArray,List.length_cons,List.length_nil,Nat.reduceAdd,Nat.reduceSub,Array.replicate_succ,Array.replicate_zero,List.push_toArray,List.append_toArray,List.nil_append,List.cons_append]
 gi_wp2_with fail
 refine ⟨trivial,(callsIn_wide.2 HKe.out).mono ?_⟩
 rintro e w1 ⟨rfl,rfl⟩
 gi_wp2_with fail
 refine ⟨trivial,(callsIn_wide.2 (HSo.out _ rfl)).mono ?_⟩
 rintro e w2 ⟨v,ns,rfl,hns,hsl,hvb,hb2⟩
 obtain ⟨T,hT⟩:∃ T:Nat->Prop,T=fun k=>v.ownBlock=some k:=⟨_,rfl⟩
 have hTl:∀ k,T k->k<w2.heap.size:=fun k hk=>by
  rw[hT] at hk
  rcases hsl with ⟨rfl,_⟩ | ⟨b,off,cap,rfl,_,h3,_⟩
  ·cases hk
  ·cases hk;exact h3
 have hJ2:J T [] w2:=hJ _ _ _ _ _ h0 (Chg.of_below hb2) (fun k hk=>⟨Or.inr (by rw[hT] at hk;exact hvb k hk),hTl k hk⟩)
 have hshape:∃ ao cap,v=.slice ao ns.length cap/\ns.length<=cap:=by
  rcases hsl with ⟨rfl,rfl⟩ | ⟨b,off,cap,rfl,h2,_⟩
  ·exact ⟨none,0,rfl,Nat.le_refl _⟩
  ·exact ⟨_,cap,rfl,h2⟩
 obtain ⟨ao,cap,hveq,hcap⟩:=hshape
 have hl502:ns.length<=3072:=nodup_lt 3072 ns hns.1 (fun n hn=>okD_lt (h501 n ((hns.2 n).1 hn)))
 have HJ2:Hid (J T [] w2):=hJ2
 have HE2:Hid (Blk w2 sb #[.map io,.map co,.map lo] 102/\MapO Tryz.prog 134 w2 (.map io) N (im It)/\SliceD w2 v ns):=⟨hkb.below hb2,hMW.below hb2,hsl⟩
 clear hJ2 hsl hb2 HSo HKe hkb hMW c0
 subst hveq
 gi_wp2_with fail
 gi_loopg [10] ns.length (fun g v10 wx=>∃ i:Nat,i+g=ns.length/\v10=.int .i64 (i:Int)/\J T ((ns.take i).map (itm It)) wx/\Blk wx sb #[.map io,.map co,.map lo] 102/\MapO Tryz.prog 134 wx (.map io) N (im It)/\SliceD wx (.slice ao ns.length cap) ns/\w2.heap.size<=wx.heap.size)
 case atStart=>exact ⟨0,by omega,rfl,HJ2.out,HE2.out.1,HE2.out.2.1,HE2.out.2.2,Nat.le_refl _⟩
 case round =>
  obtain ⟨i,hig,rfl,hJi,hbk,hmo,hsl,hwsz⟩:=hrel
  have HJi:Hid (J T ((ns.take i).map (itm It)) wr):=hJi
  have HEi:Hid (Blk wr sb #[.map io,.map co,.map lo] 102/\MapO Tryz.prog 134 wr (.map io) N (im It)/\SliceD wr (.slice ao ns.length cap) ns):=⟨hbk,hmo,hsl⟩
  clear HJ2 HE2 hJi hbk hmo
  by_cases hi:i<ns.length
  ·obtain ⟨b,off,cap',hvv,_,hb,hcells⟩:=hsl.resolve_left (fun h=>by rw[h.2] at hi;simp at hi)
   simp only[Value.slice.injEq] at hvv
   obtain ⟨rfl,_,rfl⟩:=hvv
   have k0:=(hcells i hi).1
   have k1:=(hcells i hi).2
   clear hsl hcells
   have hmem:ns[i]∈ns:=List.getElem_mem hi
   have hall:ns.take (i+1)=ns.take i ++ [ns[i]]:=List.take_succ_eq_append_getElem hi
   obtain ⟨vi,hvi⟩:=Option.ne_none_iff_exists'.1 ((hns.2 _).1 hmem)
   have hIt:=itm_at hvi (hv _ _ hvi)
   have hin:=itm_n It ns[i]
   have hn501:=h501 _ ((hns.2 _).1 hmem)
   have hpre:∃ ys,SAll It ys/\(ns.take i).map (itm It) ++ [itm It ns[i]] <+: ys:=⟨ns.map (itm It),sAll_of hns hv,by rw[<- List.map_singleton,<- List.map_append,<- hall];exact (List.take_prefix _ _).map _⟩
   have Hall:Hid ((ns.take (i+1)).map (itm It)=(ns.take i).map (itm It) ++ [itm It ns[i]]):=by show _=_;rw[hall,List.map_append];(first | done | rfl)
   generalize ns[i]=n at *
   generalize itm It n=x at *
   obtain ⟨xn,s0,x1,s2,x3⟩:=x
   simp only at hin hIt
   subst hin
   gi_wp2_with fail
   have kd:Blk (wr.alloc (.cells #[.int .i64 (who xn:Int),.int .i64 (nth xn:Int)] 134)) wr.heap.size #[.int .i64 (who xn:Int),.int .i64 (nth xn:Int)] 134:=Blk.new wr _ _
   have hbw:Below wr.heap.size wr (wr.alloc (.cells #[.int .i64 (who xn:Int),.int .i64 (nth xn:Int)] 134)):=(Below.refl _ wr).alloc (Nat.le_refl _) _
   generalize wr.alloc (.cells #[.int .i64 (who xn:Int),.int .i64 (nth xn:Int)] 134)=w5 at *
   have d0:w5.cell? ⟨wr.heap.size,0,none⟩=some (.int .i64 (who xn:Int)):=(kd.cell 0).trans rfl
   have d1:w5.cell? ⟨wr.heap.size,1,none⟩=some (.int .i64 (nth xn:Int)):=(kd.cell 1).trans rfl
   have s0':w5.cell? ⟨sb,0,none⟩=some (.map io):=((HEi.out.1.below hbw).cell 0).trans rfl
   obtain ⟨kl,hkl⟩:=keyE xn (by have:=hn501.1;omega)
   have hlk:(Instr.lookup 96 (.map io) (.agg #[.int .i64 (who xn:Int),.int .i64 (nth xn:Int)]) false).run Tryz.prog w5.drew=.ok (.agg #[.string s0,.int .u8 x1,.string s2,.int .i64 x3]) w5.drew:=by
    have h1:=((HEi.out.2.1.below hbw).below (Below.refl _ w5).drew).look kDot Tryz.underlying96 (zCh _) hkl
    rw[im_dot,hIt] at h1
    exact h1
   have hJ6:J T ((ns.take i).map (itm It)) w5.drew:=hJ _ _ _ _ _ HJi.out (Chg.of_below (hbw.drew)) (fun k hk=>⟨Or.inl hk,by have:=hTl k hk;have:=hbw.size;show k<w5.heap.size;omega⟩)
   obtain ⟨fn,tmps,assign,body,hy,hRd⟩:=hY T _ ⟨xn,s0,x1,s2,x3⟩ _ hJ6 hpre
   try dsimp only at hy
   have hRd2:RoundIn Fence.wide 3 Tryz.prog l fn tmps assign body w5.drew fun e W'=>∃ bb:Bool,e=.returned (.bool bb)/\(bb=true->J T ((ns.take i).map (itm It) ++ [⟨xn,s0,x1,s2,x3⟩]) W'/\KeepT (fun k=>(k=sb\/io=some k)\/T k) w5.drew W')/\(bb=false->Jx T ((ns.take i).map (itm It) ++ [⟨xn,s0,x1,s2,x3⟩]) W'):=hRd.mono (by
    rintro e W' (⟨rfl,h1,h2⟩ | ⟨rfl,h1,_⟩)
    ·exact ⟨true,rfl,fun _=>⟨h1,h2⟩,fun h=>by cases h⟩
    ·exact ⟨false,rfl,(fun h=>by cases h),fun _=>h1⟩)
   have HK:Hid (∀ W3,KeepT (fun k=>(k=sb\/io=some k)\/T k) w5.drew W3->Blk W3 sb #[.map io,.map co,.map lo] 102/\MapO Tryz.prog 134 W3 (.map io) N (im It)/\SliceD W3 (.slice (some ⟨b,off,none⟩) ns.length cap) ns/\w2.heap.size<=W3.heap.size):=fun W3 hk=>by
    have e1:=HEi.out.1.below hbw
    have e2:=HEi.out.2.1.below hbw
    have e3:=HEi.out.2.2.below hbw
    refine ⟨(hk.2 sb (Or.inl (Or.inl rfl))).trans e1, ?_, ?_,by have:=hk.1;have:=hbw.size;simp only[World.drew] at *;omega⟩
    ·rcases e2 with h | ⟨b',hb',h⟩
     ·exact Or.inl h
     ·exact Or.inr ⟨b',hb',h.block (hk.2 b' (Or.inl (Or.inr (by cases hb';rfl))))⟩
    ·rcases e3 with ⟨h,_⟩ | ⟨b',off',cap'',h1,h2,h3,h4⟩
     ·cases h
     ·have hbb:b'=b:=by cases h1;rfl
      have e:∀ i,W3.cell? ⟨b',i,none⟩=w5.cell? ⟨b',i,none⟩:=fun i=>World.cell?_of_block (w:=w5) (hk.2 b' (Or.inr (by rw[hT,hbb];rfl)))
      exact Or.inr ⟨b',off',cap'',h1,h2,Nat.lt_of_lt_of_le h3 hk.1,fun j hj=>⟨(e _).trans (h4 j hj).1,(e _).trans (h4 j hj).2⟩⟩
   gi_region_with (first | (refine RoundIn.mono (roundIn_wide_any hRd2) ?_;rintro e W3 ⟨bb,rfl,h3,h4⟩))
   all_goals
    cases bb with
    | true =>
     have H3:Hid (_):=h3 rfl
     clear h3 h4 hRd2 hy hlk d0 d1 s0' kd
     gi_wp2_with fail
     gi_roundg (ns.length-(i+1))
     case measure=>omega
     case rel=>exact ⟨i+1,by omega,by go_num,by rw[Hall.out];exact H3.out.1,HK.out _ H3.out.2⟩
    | false =>
     have H4:Hid (_):=h4 rfl
     clear h3 h4 hRd2 hy hlk d0 d1 s0' kd
     gi_wp2_with fail
     refine bodyPost_ret (results_none rfl _ _ _) rfl ?_
     exact ⟨⟨_,rfl⟩,Or.inr ⟨_,T,H4.out⟩⟩
  ·clear hsl
   gi_wp2_with fail
   go_end0
   refine ⟨⟨_,rfl⟩,Or.inl ⟨ns.map (itm It),sAll_of hns hv,T, ?_⟩⟩
   have:=HJi.out
   rw[List.take_of_length_le (by omega)] at this
   exact this
end Go.Proofs.YtfmmllpjgkgeaaaGreatDoor
namespace Go.Proofs.YtfmmllpjgkgeaaaGreatDoor
open Go.RowKit

def Thk.isAln (c:UInt8):Bool:=Thk.isLow c || Thk.isDig c
def Thk.word (p:UInt8->Bool) (m:Nat) (l:Thk.Bs):Bool:=decide (1<=l.length) && decide (l.length<=m) && l.all p

set_option maxHeartbeats 400000 in
theorem isLetter_any (c:UInt8) (w:World) :
  Calls Tryz.prog 155 #[.int .u8 (c.toNat:Int)] w fun e w'=>e=.returned (.bool (Thk.isLow c))/\w'=w:=by
 go_enter Tryz.func155,Tryz.ntmps155
 go_wp2
 all_goals
  go_ret
  refine ⟨ret_bool ?_,rfl⟩
  unfold Thk.isLow
  rw[Bool.eq_iff_iff]
  simp
  try omega

set_option maxHeartbeats 400000 in
theorem isLetterOrDigit_any (c:UInt8) (w:World) :
  Calls Tryz.prog 144 #[.int .u8 (c.toNat:Int)] w fun e w'=>e=.returned (.bool (Thk.isLow c || Thk.isDig c))/\w'=w:=by
 cases hl:Thk.isLow c
 ·have Hl:Hid (_):=hl
  have hl2:¬(97<=c.toNat/\c.toNat<=122):=by unfold Thk.isLow at hl;simp at hl;omega
  clear hl
  go_enter Tryz.func144,Tryz.ntmps144
  go_wp2_with (go_at_call 155;refine (isLetter_any _ _).mono ?_;rintro e w' ⟨rfl,rfl⟩;rw[Hl.out])
  all_goals
   go_ret
   refine ⟨ret_bool ?_,rfl⟩
   unfold Thk.isDig
   rw[Bool.eq_iff_iff]
   simp
   try omega
 ·have Hl:Hid (_):=hl
  clear hl
  go_enter Tryz.func144,Tryz.ntmps144
  go_wp2_with (go_at_call 155;refine (isLetter_any _ _).mono ?_;rintro e w' ⟨rfl,rfl⟩;rw[Hl.out])
  go_ret
  exact ⟨ret_bool rfl,rfl⟩

theorem isAln_any (c:UInt8) (w:World):Calls Tryz.prog 144 #[.int .u8 (c.toNat:Int)] w fun e w'=>e=.returned (.bool (Thk.isAln c))/\w'=w:=isLetterOrDigit_any c w
theorem word_false_len (p:UInt8->Bool) (l:Thk.Bs) (m:Nat) (h:l.length<1\/m<l.length):Thk.word p m l=false:=by
 unfold Thk.word
 rcases h with h | h
 ·have:decide (1<=l.length)=false:=by rw[decide_eq_false_iff_not];omega
  rw[this];(first | done | rfl)
 ·have:decide (l.length<=m)=false:=by rw[decide_eq_false_iff_not];omega
  rw[this];simp
theorem word_false_at (p:UInt8->Bool) (s:ByteArray) (m k:Nat) (hk:k<s.size) (h:p s[k]=false):Thk.word p m (toL s)=false:=by
 have:(toL s).all p=false:=by
  rw[List.all_eq_false];refine ⟨(toL s)[k]'(by rw[toL_length];exact hk),List.getElem_mem _, ?_⟩
  rw[toL_get s k hk,h];simp
 unfold Thk.word;rw[this];simp
theorem word_true (p:UInt8->Bool) (s:ByteArray) (m:Nat) (h1:1<=s.size) (h2:s.size<=m) (h:∀ j (hj:j<s.size),p s[j]=true):Thk.word p m (toL s)=true:=by
 have:(toL s).all p=true:=by
  rw[List.all_eq_true];intro x hx
  obtain ⟨i,hi,rfl⟩:=List.getElem_of_mem hx
  rw[toL_length] at hi
  rw[toL_get s i hi];exact h i hi
 unfold Thk.word;rw[this,toL_length];simp[h1,h2]

set_option maxHeartbeats 400000 in
theorem isWord_letters (s:ByteArray) (m:Nat) (w:World) (hs:s.size<=1048576) (hm:m<=100) :
  Calls Tryz.prog 143 #[.string s,.int .i64 (m:Int),.func (.func 155) #[] #[]] w fun e w'=>e=.returned (.bool (Thk.word Thk.isLow m (toL s)))/\w'=w:=by
 by_cases hl:s.size<1\/m<s.size
 ·have hfin:Hid (Thk.word Thk.isLow m (toL s)=false):=word_false_len _ _ _ (by rw[toL_length];exact hl)
  rcases hl with hl | hl
  all_goals
   go_enter Tryz.func143,Tryz.ntmps143
   go_wp2
   all_goals first | (go_ret;exact ⟨ret_bool hfin.out.symm,rfl⟩) | (exfalso;omega)
 ·have h1:¬s.size<1:=by omega
  have h2:¬m<s.size:=by omega
  clear hl
  go_enter Tryz.func143,Tryz.ntmps143
  go_wp2
  go_loop [19] (fun i=>∃ k:Nat,k<=s.size/\i=.int .i64 k/\Hid (∀ j (hj:j<s.size),j<k->Thk.isLow s[j]=true)) (fun i=>s.size-(intOf i).toNat)
  case atStart=>exact ⟨0,by omega,rfl,fun j _ h=>by omega⟩
  case round =>
   obtain ⟨k,hk,rfl,Hall⟩:=hrel
   by_cases hlt:k<s.size
   ·cases hp:Thk.isLow s[k]
    ·have hfin:Hid (Thk.word Thk.isLow m (toL s)=false):=word_false_at _ s m k hlt hp
     have Hp:Hid (_):=hp
     clear hp Hall
     go_wp2_with (go_at_call 155;refine (isLetter_any _ _).mono ?_;rintro e w' ⟨rfl,rfl⟩;rw[Hp.out])
     go_ret
     exact ⟨ret_bool hfin.out.symm,rfl⟩
    ·have Hn:Hid (∀ j (hj:j<s.size),j<k+1->Thk.isLow s[j]=true):=by
      intro j hj h
      by_cases e:j=k
      ·subst e;exact hp
      ·exact Hall.out j hj (by omega)
     have Hp:Hid (_):=hp
     clear hp Hall
     go_wp2_with (go_at_call 155;refine (isLetter_any _ _).mono ?_;rintro e w' ⟨rfl,rfl⟩;rw[Hp.out])
     go_round
     case rel=>exact ⟨k+1,by omega,by go_num,Hn⟩
     case measure=>simp[intOf];omega
   ·have hfin:Hid (Thk.word Thk.isLow m (toL s)=true):=word_true _ s m (by omega) (by omega) (fun j hj=>Hall.out j hj (by omega))
    clear Hall
    go_wp2
    go_ret
    exact ⟨ret_bool hfin.out.symm,rfl⟩

set_option maxHeartbeats 400000 in
theorem isWord_alnum (s:ByteArray) (m:Nat) (w:World) (hs:s.size<=1048576) (hm:m<=100) :
  Calls Tryz.prog 143 #[.string s,.int .i64 (m:Int),.func (.func 144) #[] #[]] w fun e w'=>e=.returned (.bool (Thk.word Thk.isAln m (toL s)))/\w'=w:=by
 by_cases hl:s.size<1\/m<s.size
 ·have hfin:Hid (Thk.word Thk.isAln m (toL s)=false):=word_false_len _ _ _ (by rw[toL_length];exact hl)
  rcases hl with hl | hl
  all_goals
   go_enter Tryz.func143,Tryz.ntmps143
   go_wp2
   all_goals first | (go_ret;exact ⟨ret_bool hfin.out.symm,rfl⟩) | (exfalso;omega)
 ·have h1:¬s.size<1:=by omega
  have h2:¬m<s.size:=by omega
  clear hl
  go_enter Tryz.func143,Tryz.ntmps143
  go_wp2
  go_loop [19] (fun i=>∃ k:Nat,k<=s.size/\i=.int .i64 k/\Hid (∀ j (hj:j<s.size),j<k->Thk.isAln s[j]=true)) (fun i=>s.size-(intOf i).toNat)
  case atStart=>exact ⟨0,by omega,rfl,fun j _ h=>by omega⟩
  case round =>
   obtain ⟨k,hk,rfl,Hall⟩:=hrel
   by_cases hlt:k<s.size
   ·cases hp:Thk.isAln s[k]
    ·have hfin:Hid (Thk.word Thk.isAln m (toL s)=false):=word_false_at _ s m k hlt hp
     have Hp:Hid (_):=hp
     clear hp Hall
     go_wp2_with (go_at_call 144;refine (isAln_any _ _).mono ?_;rintro e w' ⟨rfl,rfl⟩;rw[Hp.out])
     go_ret
     exact ⟨ret_bool hfin.out.symm,rfl⟩
    ·have Hn:Hid (∀ j (hj:j<s.size),j<k+1->Thk.isAln s[j]=true):=by
      intro j hj h
      by_cases e:j=k
      ·subst e;exact hp
      ·exact Hall.out j hj (by omega)
     have Hp:Hid (_):=hp
     clear hp Hall
     go_wp2_with (go_at_call 144;refine (isAln_any _ _).mono ?_;rintro e w' ⟨rfl,rfl⟩;rw[Hp.out])
     go_round
     case rel=>exact ⟨k+1,by omega,by go_num,Hn⟩
     case measure=>simp[intOf];omega
   ·have hfin:Hid (Thk.word Thk.isAln m (toL s)=true):=word_true _ s m (by omega) (by omega) (fun j hj=>Hall.out j hj (by omega))
    clear Hall
    go_wp2
    go_ret
    exact ⟨ret_bool hfin.out.symm,rfl⟩


theorem index_ge (l:Thk.Bs) (c:UInt8):-1<=Lib.indexByte l c:=by
 induction l with
 | nil=>simp[Lib.indexByte]
 | cons b r ih=>unfold Lib.indexByte;split;omega;split;omega;omega
theorem index_mem (l:Thk.Bs) (c:UInt8):(0<=Lib.indexByte l c)↔c∈l:=by
 induction l with
 | nil=>simp[Lib.indexByte]
 | cons b r ih =>
  have hge:=index_ge r c
  unfold Lib.indexByte
  by_cases h:b=c
  ·simp[h]
  ·rw[if_neg (by simpa using h)]
   by_cases h2:Lib.indexByte r c = -1
   ·rw[if_pos (by simpa using h2)]
    have:¬c∈r:=fun hm=>by have:=ih.2 hm;omega
    simp[this,Ne.symm h]
   ·rw[if_neg (by simpa using h2)]
    have:c∈r:=ih.1 (by omega)
    simp[this];omega
theorem byte_back (c:UInt8):((c.toNat:Int).toNat.toUInt8)=c:=by simp
theorem kinds_mem (c:UInt8):c∈([115,102,114,99,109]:Thk.Bs)↔Thk.isKind c=true:=by
 have key:∀ n:Nat,n<256->(c=UInt8.ofNat n↔c.toNat=n):=fun n hn=>by
  constructor
  ·intro h;rw[h];simp;omega
  ·intro h;rw[<- h];simp
 unfold Thk.isKind
 simp only[List.mem_cons,List.mem_nil_iff,or_false,Bool.or_eq_true,beq_iff_eq]
 have a1:=key 115 (by omega);have a2:=key 102 (by omega);have a3:=key 114 (by omega);have a4:=key 99 (by omega);have a5:=key 109 (by omega)
 constructor
 ·rintro (h | h | h | h | h)
  ·left;left;left;left;exact a1.1 h
  ·left;left;left;right;exact a2.1 h
  ·left;left;right;exact a3.1 h
  ·left;right;exact a4.1 h
  ·right;exact a5.1 h
 ·rintro ((((h | h) | h) | h) | h)
  ·left;exact a1.2 h
  ·right;left;exact a2.2 h
  ·right;right;left;exact a3.2 h
  ·right;right;right;left;exact a4.2 h
  ·right;right;right;right;exact a5.2 h

theorem seg_word (s:ByteArray) (h:0<s.size):Thk.seg (toL s)=(Thk.isKind s[0] && Thk.word Thk.isLow 4 (toL (s.extract 1 s.size))):=by
 have e:toL (s.extract 1 s.size)=(toL s).tail:=by rw[toL_extract,<- toL_length s,List.take_length,List.drop_one]
 unfold Thk.seg Thk.word
 rw[e,head_toL s h]
 rw[Bool.eq_iff_iff]
 simp only[Bool.and_eq_true,decide_eq_true_eq,List.length_tail,Option.map_some,Option.getD_some]
 constructor
 ·rintro ⟨⟨⟨a,b⟩,c⟩,d⟩;exact ⟨d,⟨by omega,by omega⟩,c⟩
 ·rintro ⟨d,⟨a,b⟩,c⟩;exact ⟨⟨⟨by omega,by omega⟩,c⟩,d⟩

set_option maxHeartbeats 400000 in
theorem isSegment_any (s:ByteArray) (w:World) (hs:s.size<=1048576) :
  Calls Tryz.prog 94 #[.string s] w fun e w'=>e=.returned (.bool (Thk.seg (toL s)))/\w'=w:=by
 by_cases h0:s.size=0
 ·have hfin:Hid (Thk.seg (toL s)=false):=Thk.seg_false_len _ (by rw[toL_length];omega)
  have hem:s.toList.isEmpty=true:=by rw[toList_eq];rw[List.isEmpty_iff];apply List.eq_nil_of_length_eq_zero;simpa using h0
  go_enter Tryz.func94,Tryz.ntmps94
  go_wp2
  go_ret
  exact ⟨ret_bool hfin.out.symm,rfl⟩
 ·have hp:0<s.size:=by omega
  have hem:s.toList.isEmpty=false:=by
   rw[toList_eq,List.isEmpty_eq_false_iff];intro h;apply h0;have:=congrArg List.length h;simpa using this
  have Hsw:Hid (_):=seg_word s hp
  have hix:Hid ((0<=Lib.indexByte [115,102,114,99,109] s[0])↔Thk.isKind s[0]=true):=(index_mem _ _).trans (kinds_mem _)
  have Hcall:Hid (∀ wx,Calls Tryz.prog 81 #[.string ⟨#[115,102,114,99,109]⟩,.int .u8 (s[0].toNat:Int)] wx fun e w'=>e=.returned (.int .i64 (Lib.indexByte [115,102,114,99,109] s[0]))/\w'=wx):=by
   intro wx
   refine (Tryz.strings_IndexByte ⟨#[115,102,114,99,109]⟩ (s[0].toNat:Int) wx).mono ?_
   rintro e w' ⟨rfl,rfl⟩
   rw[byte_back];exact ⟨rfl,rfl⟩
  cases hk:Thk.isKind s[0]
  ·have hfin:Hid (Thk.seg (toL s)=false):=by unfold Hid;rw[Hsw.out,hk];(first | done | rfl)
   have hneg:¬0<=Lib.indexByte [115,102,114,99,109] s[0]:=fun h=>by have:=hix.out.1 h;rw[hk] at this;cases this
   generalize Lib.indexByte [115,102,114,99,109] s[0]=ix at *
   clear hk Hsw
   go_enter Tryz.func94,Tryz.ntmps94
   go_wp2_with (go_at_call 81;refine (Hcall.out _).mono ?_;rintro e w' ⟨rfl,rfl⟩)
   all_goals
    go_ret
    exact ⟨ret_bool hfin.out.symm,rfl⟩
  ·have hpos:0<=Lib.indexByte [115,102,114,99,109] s[0]:=hix.out.2 hk
   have hfin:Hid (Thk.seg (toL s)=Thk.word Thk.isLow 4 (toL (s.extract 1 s.size))):=by unfold Hid;rw[Hsw.out,hk];(first | done | rfl)
   generalize Lib.indexByte [115,102,114,99,109] s[0]=ix at *
   clear hk Hsw
   go_enter Tryz.func94,Tryz.ntmps94
   go_wp2_with (first | (go_at_call 81;refine (Hcall.out _).mono ?_;rintro e w' ⟨rfl,rfl⟩) | (go_at_call 143;refine (isWord_letters (s.extract 1 s.size) 4 _ (by simp[ByteArray.size_extract];omega) (by omega)).mono ?_;rintro e w' ⟨rfl,rfl⟩))
   all_goals
    go_ret
    exact ⟨ret_bool hfin.out.symm,rfl⟩


theorem ix_cons (b:UInt8) (l:Thk.Bs) (c:UInt8):Lib.indexByte (b :: l) c=if b == c then 0 else if Lib.indexByte l c == -1 then -1 else Lib.indexByte l c+1:=rfl
theorem splitAcc_index (c:UInt8):∀ (l cur:Thk.Bs),Thk.splitAcc c cur l=if Lib.indexByte l c = -1 then [cur ++ l] else (cur ++ l.take (Lib.indexByte l c).toNat) :: Thk.split c (l.drop ((Lib.indexByte l c).toNat+1)):=by
 intro l
 induction l with
 | nil=>intro cur;simp[Thk.splitAcc,Lib.indexByte]
 | cons x r ih =>
  intro cur
  have hge:=index_ge r c
  by_cases h:x=c
  ·subst h
   rw[Thk.splitAcc_eq]
   have e:Lib.indexByte (x :: r) x=0:=by rw[ix_cons];simp
   rw[e];simp[Thk.split]
  ·rw[Thk.splitAcc_ne _ _ _ _ h,ih (cur ++ [x])]
   by_cases h2:Lib.indexByte r c = -1
   ·have e:Lib.indexByte (x :: r) c = -1:=by rw[ix_cons,if_neg (by simpa using h),if_pos (by simpa using h2)]
    rw[if_pos h2,if_pos e];simp
   ·have e:Lib.indexByte (x :: r) c=Lib.indexByte r c+1:=by rw[ix_cons,if_neg (by simpa using h),if_neg (by simpa using h2)]
    rw[if_neg h2,if_neg (by rw[e];omega),e]
    have e2:(Lib.indexByte r c+1).toNat=(Lib.indexByte r c).toNat+1:=by omega
    rw[e2];simp
theorem split_index (c:UInt8) (l:Thk.Bs):Thk.split c l=if Lib.indexByte l c = -1 then [l] else l.take (Lib.indexByte l c).toNat :: Thk.split c (l.drop ((Lib.indexByte l c).toNat+1)):=by
 have:=splitAcc_index c l [];simpa[Thk.split] using this
theorem splitK_split (c:UInt8):∀ (k:Nat) (l:Thk.Bs),((Thk.split c l).length<=k+1->Lib.splitK [c] 0 k l=Thk.split c l)/\(k+1<(Thk.split c l).length->(Lib.splitK [c] 0 k l).length=k+1):=by
 intro k
 induction k with
 | zero =>
  intro l
  refine ⟨fun h=>?_,fun _=>rfl⟩
  rw[split_index] at h ⊢
  by_cases h2:Lib.indexByte l c = -1
  ·rw[if_pos h2];(first | done | rfl)
  ·rw[if_neg h2] at h
   have:=List.length_pos_iff.2 (Thk.split_ne_nil c (l.drop ((Lib.indexByte l c).toNat+1)))
   simp only[List.length_cons] at h;omega
 | succ k ih =>
  intro l
  obtain ⟨a,b⟩:=ih (l.drop ((Lib.indexByte l c).toNat+1))
  unfold Lib.splitK
  rw[Lib.index_one,split_index]
  by_cases h2:Lib.indexByte l c = -1
  ·rw[if_pos h2,if_pos (by simpa using h2)];exact ⟨fun _=>rfl,fun h=>by simp at h⟩
  ·rw[if_neg h2,if_neg (by simpa using h2)]
   simp only[List.length_cons,Nat.add_zero,List.length_nil,Nat.zero_add]
   exact ⟨fun h=>by rw[a (by omega)],fun h=>by rw[b (by omega)]⟩

theorem splitN_path (s:ByteArray) (ps:List ByteArray) (hps:ps=Lib.splitB ⟨#[47]⟩ 0 (min 4 (s.size+1)-1) s) :
  (ps.length<=3->ps.map toL=Thk.split 47 (toL s))/\(3<ps.length->Thk.path (toL s)=false)/\ps.length<=4/\ps≠[]:=by
 have hd:ps.map toL=Lib.splitK [47] 0 (min 4 (s.size+1)-1) (toL s):=by rw[hps];exact Lib.splitB_data ⟨#[47]⟩ 0 _ s
 have hl:(Thk.split 47 (toL s)).length<=s.size+1:=by
  have:=Thk.splitAcc_len 47 (toL s) []
  rw[toL_length] at this
  unfold Thk.split;simp at this;omega
 obtain ⟨a,b⟩:=splitK_split 47 (min 4 (s.size+1)-1) (toL s)
 have hle:ps.length<=min 4 (s.size+1)-1+1:=by rw[hps];exact Lib.splitB_length_le _ _ _ _
 have hlen:ps.length=(Lib.splitK [47] 0 (min 4 (s.size+1)-1) (toL s)).length:=by rw[<- hd,List.length_map]
 have hbig:∀ l:Thk.Bs,3<(Thk.split 47 l).length->Thk.path l=false:=by
  intro l h
  unfold Thk.path Thk.pathL
  have:decide ((Thk.split 47 l).length<=3)=false:=by rw[decide_eq_false_iff_not];omega
  rw[this];(first | done | rfl)
 by_cases hS:(Thk.split 47 (toL s)).length<=min 4 (s.size+1)-1+1
 ·have e:=a hS
  rw[e] at hd hlen
  refine ⟨fun _=>hd,fun h=>hbig _ (by omega),by omega, ?_⟩
  intro h;rw[h] at hd;exact Thk.split_ne_nil 47 (toL s) hd.symm
 ·have e:=b (by omega)
  rw[e] at hlen
  refine ⟨fun h=>by omega,fun _=>hbig _ (by omega),by omega, ?_⟩
  intro h;rw[h] at hlen;simp at hlen

def okStr (b:Bool) (s:ByteArray):ByteArray:=match b with | true=>s | false=>⟨#[]⟩
theorem splitB_size' (sep:ByteArray) (save:Nat):∀ (k:Nat) (s:ByteArray),∀ p∈_root_.Go.Lib.splitB sep save k s,p.size<=s.size:=by
 intro k
 induction k with
 | zero=>intro s p hp;simp[_root_.Go.Lib.splitB] at hp;rw[hp];exact Nat.le_refl _
 | succ k ih =>
  intro s p hp
  unfold _root_.Go.Lib.splitB at hp
  split at hp
  ·simp at hp;rw[hp];exact Nat.le_refl _
  ·rcases List.mem_cons.1 hp with h | h
   ·rw[h];simp[ByteArray.size_extract];omega
   ·have:=ih _ p h;simp[ByteArray.size_extract] at this;omega

set_option maxHeartbeats 2000000 in
theorem ReadPath_any (s:ByteArray) (m:Int) (w:World) (hs:s.size<=1048576) (hm:w.cell? ⟨0,0,none⟩=some (.int .i64 m)) :
  Calls Tryz.prog 50 #[.string s] w fun e w'=>e=.returned (.tuple #[.string (okStr (Thk.path (toL s)) s),.bool (Thk.path (toL s))])/\Below w.heap.size w w':=by
 have Hcall:Hid (_):=Tryz.strings_SplitN s ⟨#[47]⟩ 4 m w (by omega) hm (by decide) (by omega) (by omega)
 obtain ⟨ps,hps⟩:∃ ps,ps=Lib.splitB ⟨#[47]⟩ 0 (min 4 (s.size+1)-1) s:=⟨_,rfl⟩
 obtain ⟨p1,p2,p3,p4⟩:=splitN_path s ps hps
 clear hm
 go_enter Tryz.func50,Tryz.ntmps50
 go_wp2_with fail
 refine Calls.mono Hcall.out ?_
 rw[<- hps]
 rintro e w1 ⟨rfl,rfl⟩
 have hb1:Below w.heap.size w (w.alloc (.cells (Lib.cellsOf ps (min 4 (s.size+1))) 9)):=(Below.refl _ _).alloc (Nat.le_refl _) _
 have Hcell:Hid (∀ j (h:j<ps.length),(w.alloc (.cells (Lib.cellsOf ps (min 4 (s.size+1))) 9)).cell? ⟨w.heap.size,j,none⟩=some (.string ps[j])):=by
  intro j h
  have:(Lib.cellsOf ps (min 4 (s.size+1)))[j]? = some (.string ps[j]):=by
   unfold Lib.cellsOf
   simp only[List.getElem?_toArray]
   rw[List.getElem?_append_left (by simpa using h),List.getElem?_map,List.getElem?_eq_getElem h];(first | done | rfl)
  simpa using this
 have Hsz:Hid (∀ p∈ps,p.size<=1048576):=by
  intro p hp
  have h1:=splitB_size' ⟨#[47]⟩ 0 (min 4 (s.size+1)-1) s p (by rw[<- hps];exact hp)
  omega
 have hcap:ps.length<=min 4 (s.size+1):=by
  have:=Lib.splitB_length_le ⟨#[47]⟩ 0 (min 4 (s.size+1)-1) s;rw[<- hps] at this;omega
 clear Hcall hps
 generalize w.alloc (.cells (Lib.cellsOf ps (min 4 (s.size+1))) 9)=w1 at *
 generalize min 4 (s.size+1)=cp at *
 by_cases h3:3<ps.length
 ·have hfin:Hid (Thk.path (toL s)=false):=p2 h3
  clear p1 p2
  go_wp2
  go_ret2
  exact ⟨by rw[hfin.out];rfl,hb1⟩
 ·have Hpath:Hid (Thk.path (toL s)=Thk.pathL (ps.map toL)):=by unfold Hid Thk.path;rw[p1 (by omega)]
  have hpos:0<ps.length:=List.length_pos_iff.2 p4
  clear p1 p2 p3 p4
  go_wp2
  go_loop [18] (fun i=>∃ k:Nat,k<=ps.length/\i=.int .i64 k/\Hid (∀ j (h:j<ps.length),j<k->Thk.seg (toL ps[j])=true/\(j+1<ps.length->(toL ps[j]).head? = some 109))) (fun i=>ps.length-(intOf i).toNat)
  case atStart=>exact ⟨0,by omega,rfl,fun j _ b=>by omega⟩
  case round =>
   obtain ⟨k,hk,rfl,hall⟩:=hrel
   by_cases hlt:k<ps.length
   ·have hck:=Hcell.out k hlt
    have hqz:=Hsz.out _ (List.getElem_mem hlt)
    have Hnext:Hid (Thk.seg (toL ps[k])=true->(k+1<ps.length->(toL ps[k]).head? = some 109)->∀ j (h:j<ps.length),j<k+1->Thk.seg (toL ps[j])=true/\(j+1<ps.length->(toL ps[j]).head? = some 109)):=by
     intro h1 h2 j h b
     by_cases e:j=k
     ·subst e;exact ⟨h1,h2⟩
     ·exact hall.out j h (by omega)
    have Hf1:Hid (Thk.seg (toL ps[k])=false->Thk.pathL (ps.map toL)=false):=fun h=>Thk.pathL_false_seg _ k (by simpa using hlt) (by simpa using h)
    have Hf2:Hid (k+1<ps.length->((toL ps[k]).head? == some 109)=false->Thk.pathL (ps.map toL)=false):=fun h1 h=>Thk.pathL_false_map _ k (by simpa using h1) (by simpa using h)
    clear hall
    generalize ps[k]=q at *
    cases hseg:Thk.seg (toL q)
    ·have hfin:Hid (Thk.path (toL s)=false):=Hpath.out.trans (Hf1.out hseg)
     have Hs2:Hid (_):=hseg
     clear hseg Hnext Hf1 Hf2
     go_wp2_with (go_at_call 94;refine (isSegment_any q _ (by omega)).mono ?_;rintro e w' ⟨rfl,rfl⟩;rw[Hs2.out])
     go_ret2
     exact ⟨by rw[hfin.out];rfl,hb1⟩
    ·have hq2:2<=q.size:=by have:=Thk.seg_pos _ hseg;rwa [toL_length] at this
     have Hs2:Hid (_):=hseg
     have Hn1:Hid (_):=Hnext.out hseg
     clear hseg Hnext Hf1
     have hh:=head_toL q (by omega)
     by_cases hl:k+1<ps.length
     ·by_cases hm:q[0]=109
      ·have Hn2:Hid (_):=Hn1.out (fun _=>by rw[hh,hm])
       have hd:((q[0].toNat:Int) != 109)=false:=by rw[hm];(first | done | rfl)
       clear Hf2 Hn1 hh hm
       go_wp2_with (go_at_call 94;refine (isSegment_any q _ (by omega)).mono ?_;rintro e w' ⟨rfl,rfl⟩;rw[Hs2.out])
       go_round
       case rel=>exact ⟨k+1,by omega,by go_num,Hn2⟩
       case measure=>simp[intOf];omega
      ·have hfin:Hid (Thk.path (toL s)=false):=Hpath.out.trans (Hf2.out hl (by rw[hh];simpa using hm))
       have hd:((q[0].toNat:Int) != 109)=true:=by
        rw[bne_iff_ne];intro h;apply hm;apply UInt8.toNat_inj.1;have:(109:UInt8).toNat=109:=rfl;omega
       clear Hf2 Hn1 hh hm
       go_wp2_with (go_at_call 94;refine (isSegment_any q _ (by omega)).mono ?_;rintro e w' ⟨rfl,rfl⟩;rw[Hs2.out])
       go_ret2
       exact ⟨by rw[hfin.out];rfl,hb1⟩
     ·have Hn2:Hid (_):=Hn1.out (fun h=>absurd h hl)
      clear Hf2 Hn1 hh
      go_wp2_with (go_at_call 94;refine (isSegment_any q _ (by omega)).mono ?_;rintro e w' ⟨rfl,rfl⟩;rw[Hs2.out])
      go_round
      case rel=>exact ⟨k+1,by omega,by go_num,Hn2⟩
      case measure=>simp[intOf];omega
   ·have hfin:Hid (Thk.path (toL s)=true):=by
     refine Hpath.out.trans ((Thk.pathL_eq _ (fun j h=>?_) (fun j h h2=>?_)).trans (by simp;omega))
     ·simp only[List.getElem_map];exact (hall.out j (by simpa using h) (by simp at h;omega)).1
     ·simp only[List.getElem_map];exact (hall.out j (by simpa using h) (by simp at h;omega)).2 (by simpa using h2)
    clear hall
    go_wp2
    go_ret2
    exact ⟨by rw[hfin.out];rfl,hb1⟩

end Go.Proofs.YtfmmllpjgkgeaaaGreatDoor

