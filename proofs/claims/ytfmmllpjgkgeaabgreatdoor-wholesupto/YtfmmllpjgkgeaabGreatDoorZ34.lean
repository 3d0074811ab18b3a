import Derived.Test.YtfmmllpjgkgeaabGreatDoorZ33
set_option linter.all false
set_option maxHeartbeats 0
set_option maxRecDepth 100000
namespace Go.Proofs.YtfmmllpjgkgeaabGreatDoor
section
open Go.Proofs.Tryz Go.RowKit Go.Maps Go.WideMaps Go.Shelf
variable{r:RD}{w:World}
def lM{a:Type}(f:a->Thk.Bs)(b:Nat):∀(l:List a),(∀x∈l,(f x).length<=b)->(l.flatMap f).length<=l.length*b
 | [],_=>Ω
 | x::r,h=>by have d:=lM f b r (λy c=>h y (by simp[c]));have e:=h x Ω;rw[List.flatMap_cons,ρ,δ,Nat.add_mul];omega
def dW.len{S:Nat->Prop}{C:Nat->Option Thk.Ch}{rs:List (Nat×Nat)}{a:List (Nat×Thk.Bs)}(h:dW S C rs a):(encS rs a).length<=10000000:=by have e:=aO rs.length;have f:=aO a.length;have g:=lM encR 6 rs (λr _=>by unfold encR ku;have:=aO (who r.1);have:=aO (nth r.1);have:=aO r.2;simp only[ρ];omega);have i:=lM encI 16400 a (λx b=>by unfold encI ku;have:=aO (who x.1);have:=aO (nth x.1);have:=aO x.2.length;have:=(h.io x b).2.1;simp only[ρ];omega);have:=h.r505;have:=h.XD;have c:rs.length*6<=505*6:=Nat.mul_le_mul_right _ h.r505;have d:a.length*16400<=505*16400:=Nat.mul_le_mul_right _ h.XD;unfold encS;simp only[ρ];omega
def MR(w:World):Q7 w none none none (fst (λ_=>0)) (λ_=>none):=by
 have a:cm (λ_=>0)=λ_=>none:=(OC (λi=>rfl) (λkey _=>rfl)).symm;have e:lm (λ_=>false)=λ_=>none:=by funext key;simp[lm]
 have b:aU (λ_=>none)=λ_=>none:=rfl;refine⟨⟨⟨λ_=>0,λ_=>false,⟨⟨0,τ ⟨rfl,rfl,a⟩⟩,⟨0,τ ⟨rfl,rfl,e⟩⟩,λ_=>V,λ_ h=>absurd rfl h,λn h=>(by cases h)⟩,λ_=>rfl,λn _=>by simp[oW,fst]⟩,⟨0,τ ⟨rfl,rfl,by rw[b,yh]⟩⟩,λn h=>absurd rfl h⟩,⟨λg j f=>?_,λk h=>absurd rfl h,λk c h=>(by cases h),λk c h=>(by cases h)⟩⟩;cases g with
 | nil=>simp
 | cons d l=>have:=f d Ω;unfold fst at this;dsimp only at this;omega
def Qc(w:World)(a6:Glob w)(a g:Nat)(T:Value)(f:List Nat)(y:lg w T f)(X:a<=5)(hr:g<=50)(M:∀j∈f,j<=5)(Z:f.length<=6):Calls prog 28 #[I a,I g,T] w λe w'=>∃B c L ab,e=.returned (.pointer (some (z B)))/\cO w' ⟨B,a,none,none,none,c,L,g,.slice none 0 0,0,ab,f,λ_=>0,[],λ_=>0,λ_=>none,0,false,0,none⟩/\(w.heap.size<=B/\w.heap.size<=c/\w.heap.size<=L/\w.heap.size<=ab)/\Below w.heap.size w w':=by
 obtain⟨ao,a0,r⟩:=y.shape;subst r;have G:J<|_:=Xl w g _ f y hr M Z;have U:=ω a6;clear y M a6;go_enter func28,ntmps28;go_wp2_with fail;refine ψ G.o ?_;rintro e b⟨c,ab,rfl,P,a2,a1,v⟩;obtain⟨w2,s⟩:∃w2,w2=b.alloc (.cells #[I a,.map none,.map none,.map none,.pointer (some (z c)),.pointer none,.bool false] 129):=⟨_,rfl⟩;have u:Below b.heap.size b w2:=by rw[s];exact(φ _ b).alloc (χ _) _
 have x:=v.trans (u.mono v.size);have n:aC w2 b.heap.size #[I a,.map none,.map none,.map none,.pointer (some (z c)),.pointer none,.bool false] 129:=by rw[s];exact aC.new b _ _
 have a4:=v.size;have q1:=(n.cell 1).trans rfl;have q2:=(n.cell 2).trans rfl;have q3:=(n.cell 3).trans rfl;have l:J<|dP w2 c g (.slice none 0 0) 0 ab f (λ_=>0) []/\aC w2 b.heap.size #[I a,.map none,.map none,.map none,.pointer (some (z c)),.pointer none,.bool false] 129/\Below w.heap.size w w2:=⟨P.below u,n,x⟩;have H:J<|_:=Au w2 (U.o.mono x) none none none _ _ (MR w2);have K:=ω s;clear G P u x n s;go_wp2_with fail;rw[<- K.o];refine ψ H.o ?_;rintro e h⟨D,C,A,rfl,r,S,hz,o⟩;have E:J<|_:=ZE h D V;have k:J<|dP h c g (.slice none 0 0) 0 ab f (λ_=>0) []/\aC h b.heap.size #[I a,.map none,.map none,.map none,.pointer (some (z c)),.pointer none,.bool false] 129/\Below w.heap.size w h:=⟨l.o.1.below o,l.o.2.1.below o,l.o.2.2.trans (o.mono l.o.2.2.size)⟩;have a5:=k.o.2.1.lt;have F:J<|ay D=encS C A/\dW (fst (λ_=>0)) (λ_=>none) C A:=⟨r,S⟩;clear H l K o q1 q2 q3 r S;go_wp2_with fail;refine ψ E.o ?_;rintro e i⟨rfl,R,q⟩;have t:=k.o.2.1.below q;have c5:=(t.cell 5).trans rfl;have cf:=t.frozen;have d:J<|dP i c g (.slice none 0 0) 0 ab f (λ_=>0) []/\aC i b.heap.size #[I a,.map none,.map none,.map none,.pointer (some (z c)),.pointer none,.bool false] 129/\Below w.heap.size w i/\gy i h.heap.size 0 (ay D) false 0:=⟨k.o.1.below q,t,k.o.2.2.trans (q.mono k.o.2.2.size),R⟩;clear E k R q t;go_wp2_with fail;go_ret;have Q:aA (λm=>m=b.heap.size) i (i.setCell (O b.heap.size 5) (.pointer (some (z h.heap.size)))):=(aA.refl (λm=>m=b.heap.size) i).setCell (p:=(O b.heap.size 5)) rfl _;have a3:ab<b.heap.size\/b.heap.size<=ab:=Nat.lt_or_ge _ _;refine⟨b.heap.size,c,h.heap.size,ab,rfl,cO.mkU rfl ?_ (MR _) ?_ ⟨C,A, ?_,F.o.2⟩ Ω (λ_=>Nat.zero_le _) X (Nat.zero_le _),V,d.o.2.2.1.setCell (p:=(O b.heap.size 5)) (by show w.heap.size<=b.heap.size;omega) _⟩
 .have:=d.o.2.1;unfold aC at this⊢;simp[World.setCell,μ,this]
 .refine d.o.1.Uo Q (λe=>?_) (λm Y=>by cases Y) (λe=>?_) (λm e _=>by subst e;exact⟨_,_,_,d.o.2.1⟩)
  .exact jU d.o.1.blk d.o.2.1 Ψ e
  .obtain⟨N,W⟩:=d.o.1.ack;exact W.l7 (e▸d.o.2.1)
 .have:=d.o.2.2.2.aJ Q V;rw[F.o.1]at this;exact this
structure MS(w:World)(r:RD):Prop where
 blk:aC w r.rb #[I r.a,.map r.io,.map r.co,.map r.lo,.pointer (some (z r.kb)),.pointer (some (z r.db)),.bool r.dd.isSome] 129
 kept:dP w r.kb r.room r.pv r.dr r.ab r.nb r.A r.ps
 xH:∃rs its,gy w r.db r.n (encS rs its) r.cut r.k/\dW (fst r.K) r.C rs its
 b:jT (fst r.K) r.C
 nI:∀x,r.K x<=500
 a5:r.a<=5
 n:r.n<=aF r.K
 up:r.dd=none
def cO.mem(h:cO w r)(a:r.dd=none):MS w r:=⟨h.blk,h.kept,(h.XG a).1,h.st.b,h.nI,h.a5,(h.XG a).2,a⟩
def MS.below{b:World}(h:MS w r)(a:Below w.heap.size w b):MS b r:=by obtain⟨f,e,c,d⟩:=h.xH;exact⟨h.blk.below a,h.kept.below a,⟨f,e,c.aJ (M:=λ_=>False) (aA.of_below a) (λh=>h),d⟩,h.b,h.nI,h.a5,h.n,h.up⟩
def MS.D7(h:MS w r):r.db≠r.rb/\r.db≠r.kb/\r.pv.ownBlock≠some r.db/\r.db≠r.ab/\r.rb≠r.kb/\r.pv.ownBlock≠some r.rb/\r.rb≠r.ab:=by obtain⟨g,f,c,_⟩:=h.xH;obtain⟨d,a⟩:=c.blk;obtain⟨N,b⟩:=h.kept.ack;exact⟨jU a h.blk Ψ,jU a h.kept.blk Ψ,row_ne a h.kept.row Ψ,λe=>b.l7 (e▸a),jU h.blk h.kept.blk Ψ,row_ne h.blk h.kept.row Ψ,λe=>b.l7 (e▸h.blk)⟩
def Gz(w:World)(S:Glob w)(r:RD)(hF:MS w r):Calls prog 103 #[.pointer (some (z r.rb))] w λe w'=>e=.returned (.tuple #[])/\∃io co lo:Nat,cO w' { r with io:=some io,co:=some co,lo:=some lo,pv:=.slice none 0 0,dr:=aF r.K,A:=λ_=>0,ps:=[] }/\(w.heap.size<=io/\w.heap.size<=co/\w.heap.size<=lo)/\aA r.own w w':=by
 obtain⟨rs,Z,x,C⟩:=hF.xH;have q5:=(hF.blk.cell 5).trans rfl;have ad:=hF.blk.lt;have af:=ω hF;have M:=ω S;have l:=ω C;have N:J<|_:=Xc w r.db r.n _ r.cut r.k x;have ac:=C.len;clear hF S x C;go_enter func103,ntmps103;go_wp2_with fail;refine ψ N.o ?_;rintro e m⟨u,rfl,H,U⟩;have a7:u.size<=1000000000:=by rw[<- aB,H];omega
 have Hu:J<|ay u=encS rs Z++[]:=ω<|by rw[H,List.append_nil]
 have L:=ω U;clear N H;go_wp2_with fail;refine ψ (jG _ u) ?_;rintro e w2⟨rfl,rfl⟩;have Y:=L.o.size;have a9:=M.o.size;have P:J<|∀wx,wx=m.alloc (.cells #[.string u,.bool false] 277)->Calls prog 161 #[.pointer (some (z m.heap.size))] wx λe w'=>∃b a c,e=.returned (.agg #[.map (some b),.map (some a),.map (some c)])/\(aP w' b a c (fst r.K) (aU r.C)/\(w.heap.size<=b/\w.heap.size<=a/\w.heap.size<=c)/\Below w.heap.size w w'):=λwx i=>by
  have g:Below m.heap.size m wx:=by rw[i];exact(φ _ m).alloc (χ _) _
  have W:=L.o.trans (g.mono Y);have ae:=g.size;refine ψ (Dy wx (M.o.mono W) m.heap.size V u rs Z [] (by rw[i];exact aC.new m _ _) Hu.o a7 l.o.r505 l.o.ro l.o.XD l.o.io) ?_;rintro e w'⟨b,a,c,s',rfl,f,_,_,ag,h3⟩;rw[l.o.it]at f;refine⟨b,a,c,rfl,⟨f.ctx.iff (λd x=>by have:=l.o.dots d x;rw[l.o.it]at this;exact this.symm),f.its,f.ne,λn X=>⟨(f.ok n X).1, ?_⟩⟩,V,MH W h3 Y⟩;exact(af.o.b.ok n (dO.1 X)).2
 clear U;go_wp2_with fail;refine ψ (P.o _ rfl) ?_;rintro e q⟨b,a,c,rfl,s⟩;have o:=af.o.below s.2.2;have c1:=(o.blk.cell 1).trans rfl;have c2:=(o.blk.cell 2).trans rfl;have c3:=(o.blk.cell 3).trans rfl;have cf:=o.blk.frozen;have h:J<|aP q b a c (fst r.K) (aU r.C)/\(w.heap.size<=b/\w.heap.size<=a/\w.heap.size<=c)/\Below w.heap.size w q/\MS q r:=⟨s.1,s.2.1,s.2.2,o⟩;clear P s o;go_wp2_with fail;obtain⟨w4,B⟩:∃w4,w4=((q.setCell (O r.rb 1) (.map (some b))).setCell (O r.rb 2) (.map (some a))).setCell (O r.rb 3) (.map (some c)):=⟨_,rfl⟩;have t:aA (λk=>k=r.rb) q w4:=by rw[B];exact(((aA.refl (λk=>k=r.rb) q).setCell (p:=(O r.rb 1)) rfl _).setCell (p:=(O r.rb 2)) rfl _).setCell (p:=(O r.rb 3)) rfl _
 have y:=af.o.D7;have a6:=h.o.2.1;have ab:=af.o.kept.lt (υ (υ (τ rfl)));have K:cO w4 { r with io:=some b,co:=some a,lo:=some c }:=by
  obtain⟨a8,kP,a4,a5⟩:=h.o.2.2.2.xH;refine cO.mkU af.o.up (by rw[B];exact D6 h.o.2.2.2.blk) ⟨(h.o.1.aJ t V V V).toR,af.o.b⟩ ?_ ⟨a8,kP,a4.aJ t y.1,a5⟩ ?_ af.o.nI af.o.a5 af.o.n
  .exact h.o.2.2.2.kept.Uo t (λe=>y.2.2.2.2.1 e.symm) (λk D e=>y.2.2.2.2.2.1 (e▸D)) (λe=>y.2.2.2.2.2.2 e.symm) (λk e _=>by subst e;exact⟨_,_,_,h.o.2.2.2.blk⟩)
  .intro e;rcases e with e|e|e<;>(simp only[ϑb]at e;omega)
 have Q:aA r.own w w4:=(aA.of_below h.o.2.2.1).trans (t.mono (λk _ e=>τ e));have f4:w4.cell? (O r.rb 4)=some (.pointer (some (z r.kb))):=(K.blk.cell 4).trans rfl;have v:J<|cO w4 { r with io:=some b,co:=some a,lo:=some c }/\aA r.own w w4:=⟨K,Q⟩;have aa:=tY af.o.nI;have a0:J<|∀wx,wx.heap=w4.heap->wx.os=w4.os->wx.tape=w4.tape->wx.output=w4.output->Calls prog 38 #[.pointer (some (z r.rb))] wx λe w'=>e=.returned (I (aF r.K))/\Below w4.heap.size w4 w'/\w'.cell? (O r.rb 4)=some (.pointer (some (z r.kb))):=λwx i E G F=>by have g:Below w4.heap.size w4 wx:=⟨E,G,F,by rw[i];exact χ _,λk _=>by rw[i]⟩;refine ψ (mP wx r.rb r.a (some b) (some a) (some c) r.K r.C (v.o.1.below g).rep) ?_;rintro e w'⟨rfl,f⟩;have ag:=g.trans (f.mono g.size);exact⟨rfl,ag,((v.o.1.blk.below ag).cell 4).trans rfl⟩
 have a1:J<|∀wx j,Below w4.heap.size w4 j->wx.heap=j.heap->wx.os=j.os->wx.tape=j.tape->wx.output=j.output->Calls prog 171 #[.pointer (some (z r.kb)),I (aF r.K)] wx λe w'=>e=.returned (.tuple #[])/\(cO w' { r with io:=some b,co:=some a,lo:=some c,pv:=.slice none 0 0,dr:=aF r.K,A:=λ_=>0,ps:=[] }/\aA r.own w w'):=λwx j a3 i E G F=>by have g:Below w4.heap.size w4 wx:=a3.trans ⟨E,G,F,by rw[i];exact χ _,λk _=>by rw[i]⟩;have T:=v.o.1.below g;refine ψ (Xk wx r.kb r.room r.pv r.dr r.ab r.nb r.A r.ps (aF r.K) T.kept V) ?_;rintro e w'⟨rfl,f,ag⟩;exact⟨rfl,T.kept' ag (λk D=>by rcases D with e|e;exact τ e;exact υ (υ e)) f,(v.o.2.below g).trans (ag.mono (λk _ e=>υ (υ (τ (by rcases e with e|e;exact τ e;exact υ (υ (τ e)))))))⟩
 have a2:=ω B;rw[<- a2.o];clear B t K Q c1 c2 c3 cf h q5;go_region_with (first|(go_at_call 171;refine ψ (a1.o _ j h5 rfl rfl rfl rfl) ?_;rintro e w6⟨rfl,R⟩)|(go_at_call 38;refine ψ (a0.o _ rfl rfl rfl rfl) ?_;rintro e j⟨rfl,h5,g4⟩));all_goals
  go_wp2_with fail;exact bodyPost_end (results_none rfl _ _ _) rfl ⟨rfl,b,a,c,R.1,a6,R.2⟩
end
section
open Go.Proofs.Tryz Go.RowKit Go.Maps Go.WideMaps
def jJ(K1 K2:Nat->Nat):Nat->Nat:=λx=>max (K1 x) (K2 x)
open Classical in
noncomputable def jC(K1:Nat->Nat)(C1:Nat->Option Thk.Ch)(K2:Nat->Nat)(C2:Nat->Option Thk.Ch):Nat->Option Thk.Ch:=λd =>
 if(C1 d=none/\nth d<=K1 (who d))\/(C2 d=none/\nth d<=K2 (who d))then none else(C1 d).or (C2 d)
