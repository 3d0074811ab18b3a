import Derived.Test.YtfmmllpjgkgeaaaGreatDoorPartS29
import Derived.Test.YtfmmllpjgkgeaaaGreatDoorPartS30
set_option linter.unusedVariables false
set_option linter.unusedSimpArgs false
set_option maxHeartbeats 16000000
set_option maxRecDepth 100000
namespace Go.Proofs.YtfmmllpjgkgeaaaGreatDoor
open Go.Proofs.Tryz Go.RowKit Go.Maps Go.WideMaps Go.Shelf
variable{fr:Nat}{r:RD}{w:World}
def gV(w w':World)(r:RD)(fr:Nat)(K:Nat->Nat)(C:Nat->Option Thk.Ch):Prop :=
 ((∀d,1<=nth d->¬dB r K C d)/\bH w' r/\Below w.heap.size w w')\/((∃d,1<=nth d/\dB r K C d)/\∃r',qO w w' r fr K C r')
theorem gV.keep{w':World}{K:Nat->Nat}{C:Nat->Option Thk.Ch}(h:gV w w' r fr K C):Chg r.own w w':=by
 rcases h with⟨_,_,h⟩|⟨_,a,h⟩
 .exact Chg.of_below h
 .exact h.chg
theorem NC{g:World}(x:Glob w)(hF:bH w r)(hcut:r.cut=false)(A:fr<=5)(d:Below w.heap.size w g){b:Nat}{c:List StD}(F:dL g b 0 c)(C:1<=c.length/\c.length<=10){a:Nat->Nat}{e:Nat->Option Thk.Ch}(y:oK (c++[r.known]) a e)(v:StoB (fst a) e)(n:∀M,a M<=500)(h:(∃j,1<=nth j/\dB r a e j)->sizeK r.K+1<=sizeK a):Calls prog 92 #[.pointer (some (z r.rb)),.int .i64 fr,.slice (some (z b)) c.length c.length] g λl w'=>l=.returned (.bool true)/\gV w w' r fr a e/\Chg r.own g w':=by
 refine ψ (yt g (x.mono d) r (hF.below d) hcut fr A b c F C a e y v n h (by have:=Dn n;omega)) ?_;rintro l Q⟨rfl,⟨D,i⟩|⟨E,G,p,H,L,K,q,s,N,t,f,u,m⟩⟩
 .have o:=d.trans (i.mono d.size);exact⟨rfl,τ ⟨D,hF.below o,o⟩,Chg.of_below i⟩
 .have h:=d.size;refine⟨rfl,υ ⟨E,_,⟨G,p,H,L,K,rfl,q,s,V,λk B=>ς h (t k B), ?_⟩,u,Chg.pre d m⟩,m⟩;rcases f with f|⟨k,f,P⟩
  .exact τ f
  .exact υ ⟨k,f,V⟩
theorem gV.chg{w1 h:World}{K:Nat->Nat}{C:Nat->Option Thk.Ch}{M:Nat->Prop}(i:gV w w1 r fr K C)(hF:bH w r)(a:Chg M w1 h)(f:∀k,M k->w.heap.size<=k)(j:∀d,qO w w1 r fr K C d->∀k,d.own k->¬M k):gV w h r fr K C:=by
 rcases i with⟨e,b,g⟩|⟨e,d,b⟩
 .refine τ ⟨e,b.chg a (λk c m=>by have:=f k m;have:=hF.lt c;omega),g.trans ⟨a.os,a.tape,a.output,a.size,λk c=>a.block k (ο c g.size) (λm=>by have:=f k m;omega)⟩⟩
 .refine υ ⟨e,d,b.eq,b.rep.chg a (j d b), ?_⟩;exact⟨a.os.trans b.chg.os,a.tape.trans b.chg.tape,a.output.trans b.chg.output,ς b.chg.size a.size,λk c l=>(a.block k (ο c b.chg.size) (λm=>by have:=f k m;omega)).trans (b.chg.block k c l)⟩
theorem bH.iL(h:bH w r){b:Nat}{cs:Array Value}{t:TypeId}(c:ah w b cs t)(d:t≠125)(f:t≠220)(g:t≠222)(i:t≠229):¬r.own b:=λa=>by
 rcases a with rfl|a|a|rfl
 .exact jD h.blk c (λe=>d e.symm) rfl
 .exact h.st.r.eu a c
 .rcases a with rfl|a|rfl|⟨p,m,a⟩
  .exact jD h.kept.blk c (λe=>f e.symm) rfl
  .exact row_ne c h.kept.row g a
  .obtain⟨N,l⟩:=h.kept.ack;exact l.jH c
  .exact(h.kept.st p m).eu a c
 .obtain⟨q,o,j,_⟩:=h.Ub;obtain⟨n,k⟩:=j.blk;exact jD k c (λe=>i e.symm) rfl
theorem Dq(w:World)(H:Glob w)(r:RD)(hF:bH w r)(hcut:r.cut=false)(fr m:Nat)(a1:fr<=5)(gi gc gl:Nat)(x:Nat->Prop)(t:Nat->Option Thk.Ch)(N:ay w gi gc gl x (itOf t))(c:Nat->Nat)(C':Nat->Option Thk.Ch)(K:oK ([⟨some gi,some gc,some gl,x,itOf t⟩]++[r.known]) c C')(G:StoB (fst c) C')(a0:∀T,c T<=500)(R:(∃E,1<=nth E/\dB r c C' E)->sizeK r.K+1<=sizeK c):Calls prog 103 #[.pointer (some (z r.rb)),.agg #[.int .i64 fr,.int .i64 m,.bool false,.map (some gi),.map (some gc),.map (some gl)]] w λe b=>e=.returned (.tuple #[.agg #[.int .i64 r.a,.int .i64 m,.bool true,.map none,.map none,.map none],.bool true])/\gV w b r fr c C':=by
 have a4:=hF.blk.lt;obtain⟨W0,f⟩:∃W0,W0=(w.alloc (.cells #[.int .i64 fr,.int .i64 m,.bool false,.map (some gi),.map (some gc),.map (some gl)] 104)).alloc (.cells #[.int .i64 0,.int .i64 0,.bool false,.map none,.map none,.map none] 104):=⟨_,rfl⟩;have y:Below w.heap.size w W0:=by rw[f];exact((φ _ w).alloc (χ _) _).alloc Ω _
 have g:ah W0 w.heap.size #[.int .i64 fr,.int .i64 m,.bool false,.map (some gi),.map (some gc),.map (some gl)] 104:=by rw[f];exact(ah.new w _ _).alloc _
 have S:ah W0 (w.heap.size+1) #[.int .i64 0,.int .i64 0,.bool false,.map none,.map none,.map none] 104:=by rw[f];have:=ah.new (w.alloc (.cells #[.int .i64 fr,.int .i64 m,.bool false,.map (some gi),.map (some gc),.map (some gl)] 104)) #[.int .i64 0,.int .i64 0,.bool false,.map none,.map none,.map none] 104;rwa [ϊ]at this
 have C:W0.heap.size=w.heap.size+2:=by rw[f];simp
 have z0:=(g.cell 0).trans rfl;have z3:=(g.cell 3).trans rfl;have z4:=(g.cell 4).trans rfl;have z5:=(g.cell 5).trans rfl;have D:J<|∀wx,wx=W0.alloc (.cells #[.map (some gi),.map (some gc),.map (some gl)] 102)->Calls prog 92 #[.pointer (some (z r.rb)),.int .i64 fr,.slice (some (z (w.heap.size+2))) 1 1] wx λe b=>e=.returned (.bool true)/\(gV w b r fr c C'/\ah b w.heap.size #[.int .i64 fr,.int .i64 m,.bool false,.map (some gi),.map (some gc),.map (some gl)] 104/\ah b (w.heap.size+1) #[.int .i64 0,.int .i64 0,.bool false,.map none,.map none,.map none] 104/\ah b r.rb #[.int .i64 r.a,.map none,.map none,.map none] 125=ah b r.rb #[.int .i64 r.a,.map none,.map none,.map none] 125/\b.cell? (z r.rb)=some (.int .i64 r.a)):=λwx q=>by
  have A:Below W0.heap.size W0 wx:=by rw[q];exact(φ _ W0).alloc (χ _) _
  have L:=y.trans (A.mono y.size);have a5:ah wx (w.heap.size+2) #[.map (some gi),.map (some gc),.map (some gl)] 102:=by rw[q,<- C];exact ah.new W0 _ _
  have a3:dL wx (w.heap.size+2) 0 [⟨some gi,some gc,some gl,x,itOf t⟩]:=by
   refine⟨a5.lt, ?_, ?_, ?_, ?_⟩
   .intro l j
    match l,j with
    | 0,_=>rw[a5.cell];(first|done|rfl)
   .intro l j
    match l,j with
    | 0,_=>rw[a5.cell];(first|done|rfl)
   .intro l j
    match l,j with
    | 0,_=>rw[a5.cell];(first|done|rfl)
   .intro s Q;rw[List.mem_singleton]at Q;subst Q;exact⟨(N.below L).toR,λn T q=>gK q⟩
  refine ψ (NC H hF hcut a1 L a3 Ω K G a0 R) ?_;rintro e b⟨rfl,F,o⟩;have P:∀k,w.heap.size<=k->¬r.own k:=λk B ho=>by have:=hF.lt ho;omega
  refine⟨rfl,F,(g.below A).chg o (P _ (χ _)),(S.below A).chg o (P _ V),rfl, ?_⟩;rcases F with⟨_,a,_⟩|⟨_,r',a⟩
  .exact(a.blk.cell 0).trans rfl
  .obtain⟨io,co,lo,st,pv,he,_⟩:=a.eq;have:=a.rep.blk;rw[he]at this;exact(this.cell 0).trans rfl
 have W:J<|W0=(w.alloc (.cells #[.int .i64 fr,.int .i64 m,.bool false,.map (some gi),.map (some gc),.map (some gl)] 104)).alloc (.cells #[.int .i64 0,.int .i64 0,.bool false,.map none,.map none,.map none] 104):=f;have U:J<|bH w r:=hF;have Yk:J<|W0.heap.size=w.heap.size+2:=C;clear hF N K G R g S y f H C;go_enter func103,ntmps103;go_wp2_with fail;have u:=D.o;rw[W.o]at u;refine ψ (u _ rfl) ?_;rintro e d⟨rfl,a⟩;clear u D;have a6:J<|gV w d r fr c C'/\ah d (w.heap.size+1) #[.int .i64 0,.int .i64 0,.bool false,.map none,.map none,.map none] 104:=⟨a.1,a.2.2.1⟩;have y1:d.cell? (O w.heap.size 1)=some (.int .i64 m):=(a.2.1.cell 1).trans rfl;have x0:=a.2.2.2.2;have X:=(a.2.2.1.cell 0).trans rfl;have Y:=(a.2.2.1.cell 1).trans rfl;have Z:=(a.2.2.1.cell 2).trans rfl;have e3:=(a.2.2.1.cell 3).trans rfl;have e4:=(a.2.2.1.cell 4).trans rfl;have e5:=(a.2.2.1.cell 5).trans rfl;have ef:=a.2.2.1.frozen;clear a z0 z3 z4 z5;go_wp2_with fail
 go_region
 all_goals
  go_wp2_with fail;have h:ah ((((((d.setCell (z (w.heap.size+1)) (.int .i64 r.a)).setCell (O (w.heap.size+1) 1) (.int .i64 m)).setCell (O (w.heap.size+1) 2) (.bool true)).setCell (O (w.heap.size+1) 3) (.map none)).setCell (O (w.heap.size+1) 4) (.map none)).setCell (O (w.heap.size+1) 5) (.map none)) (w.heap.size+1) #[.int .i64 r.a,.int .i64 m,.bool true,.map none,.map none,.map none] 104:=by have:=a6.o.2;unfold ah at this⊢;simp[World.setCell,μ,this]
  have M:Chg (λk=>k=w.heap.size+1) d ((((((d.setCell (z (w.heap.size+1)) (.int .i64 r.a)).setCell (O (w.heap.size+1) 1) (.int .i64 m)).setCell (O (w.heap.size+1) 2) (.bool true)).setCell (O (w.heap.size+1) 3) (.map none)).setCell (O (w.heap.size+1) 4) (.map none)).setCell (O (w.heap.size+1) 5) (.map none)):=((((((Chg.refl (λk=>k=w.heap.size+1) d).setCell (p:=(z (w.heap.size+1))) rfl _).setCell (p:=(O (w.heap.size+1) 1)) rfl _).setCell (p:=(O (w.heap.size+1) 2)) rfl _).setCell (p:=(O (w.heap.size+1) 3)) rfl _).setCell (p:=(O (w.heap.size+1) 4)) rfl _).setCell (p:=(O (w.heap.size+1) 5)) rfl _;have a2:=a6.o.1.chg U.o (M.trans (Chg.of_below (φ _ _).drew)) (λk B=>V) (λr' o k B e=>o.rep.iL a6.o.2 Ψ Ψ Ψ Ψ (e▸B));clear X Y Z e3 e4 e5 ef y1 x0 a6 M;generalize ((((((d.setCell (z (w.heap.size+1)) (.int .i64 r.a)).setCell (O (w.heap.size+1) 1) (.int .i64 m)).setCell (O (w.heap.size+1) 2) (.bool true)).setCell (O (w.heap.size+1) 3) (.map none)).setCell (O (w.heap.size+1) 4) (.map none)).setCell (O (w.heap.size+1) 5) (.map none))=i at *;have d0:i.drew.cell? (z (w.heap.size+1))=some (.int .i64 r.a):=(h.cell 0).trans rfl;have d1:i.drew.cell? (O (w.heap.size+1) 1)=some (.int .i64 m):=(h.cell 1).trans rfl;have d2:i.drew.cell? (O (w.heap.size+1) 2)=some (.bool true):=(h.cell 2).trans rfl;have d3:i.drew.cell? (O (w.heap.size+1) 3)=some (.map none):=(h.cell 3).trans rfl;have d4:i.drew.cell? (O (w.heap.size+1) 4)=some (.map none):=(h.cell 4).trans rfl;have d5:i.drew.cell? (O (w.heap.size+1) 5)=some (.map none):=(h.cell 5).trans rfl;exact ϐ (v:=.tuple #[.agg #[.int .i64 r.a,.int .i64 m,.bool true,.map none,.map none,.map none],.bool true]) (by simp[results,Tryz.results103,go_sem,d0,d1,d2,d3,d4,d5]) rfl ⟨rfl,a2⟩
