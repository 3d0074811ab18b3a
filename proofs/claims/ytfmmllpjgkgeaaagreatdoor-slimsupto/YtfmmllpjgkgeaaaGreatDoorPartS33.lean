import Derived.Test.YtfmmllpjgkgeaaaGreatDoorPartS32
set_option linter.unusedVariables false
set_option linter.unusedSimpArgs false
set_option maxHeartbeats 16000000
set_option maxRecDepth 100000
namespace Go.Proofs.YtfmmllpjgkgeaaaGreatDoor
section
open Go.RowKit Go.Maps Go.WideMaps Go.Shelf
theorem flatMap_le'{a:Type}(f:a->Thk.Bs)(b:Nat):∀(l:List a),(∀x∈l,(f x).length<=b)->(l.flatMap f).length<=l.length*b
 | [],_=>Ω
 | x::r,h=>by have d:=flatMap_le' f b r (λy c=>h y (by simp[c]));have e:=h x Ω;rw[List.flatMap_cons,ρ,δ,Nat.add_mul];omega
theorem Du(w:World):GU w none none none (fst (λ_=>0)) (λ_=>none):=by
 have a:cm (λ_=>0)=λ_=>none:=(EC (λi=>rfl) (λkey _=>rfl)).symm;have e:lm (λ_=>false)=λ_=>none:=by funext key;simp[lm]
 have b:itOf (λ_=>none)=λ_=>none:=rfl;refine⟨⟨⟨λ_=>0,λ_=>false,⟨⟨0,τ ⟨rfl,rfl,a⟩⟩,⟨0,τ ⟨rfl,rfl,e⟩⟩,λ_=>V,λ_ h=>absurd rfl h,λn h=>(by cases h)⟩,λ_=>rfl,λn _=>by simp[iP,fst]⟩,⟨0,τ ⟨rfl,rfl,by rw[b,oZ]⟩⟩,λn h=>absurd rfl h⟩,⟨λg j f=>?_,λk h=>absurd rfl h,λk c h=>(by cases h),λk c h=>(by cases h)⟩⟩;cases g with
 | nil=>simp
 | cons d l=>have:=f d Ω;unfold fst at this;dsimp only at this;omega
theorem FV(w:World)(a6:Glob w)(a h:Nat)(T:Value)(f:List Nat)(y:gq w T f)(X:a<=5)(hr:h<=50)(M:∀j∈f,j<=5)(Z:f.length<=6):Calls Tryz.prog 74 #[.int .i64 a,.int .i64 h,T] w λe w'=>∃B c L ab,e=.returned (.pointer (some (z B)))/\bH w' ⟨B,a,none,none,none,c,L,h,.slice none 0 0,0,ab,f,λ_=>0,[],λ_=>0,λ_=>none,0,false,0⟩/\(w.heap.size<=B/\w.heap.size<=c/\w.heap.size<=L/\w.heap.size<=ab)/\Below w.heap.size w w':=by
 obtain⟨ao,a0,r⟩:=y.shape;subst r;have G:J<|_:=MJ w h _ f y hr M Z;have U:J<|Glob w:=a6;clear y M a6;go_enter Tryz.func74,Tryz.ntmps74;go_wp2_with fail;refine ψ G.o ?_;rintro e b⟨c,ab,rfl,P,a2,a1,v⟩;obtain⟨w2,s⟩:∃w2,w2=b.alloc (.cells #[.int .i64 a,.map none,.map none,.map none,.pointer (some (z c)),.pointer none,.bool false] 125):=⟨_,rfl⟩;have u:Below b.heap.size b w2:=by rw[s];exact(φ _ b).alloc (χ _) _
 have x:Below w.heap.size w w2:=v.trans (u.mono v.size);have n:ah w2 b.heap.size #[.int .i64 a,.map none,.map none,.map none,.pointer (some (z c)),.pointer none,.bool false] 125:=by rw[s];exact ah.new b _ _
 have a4:=v.size;have q1:=(n.cell 1).trans rfl;have q2:=(n.cell 2).trans rfl;have q3:=(n.cell 3).trans rfl;have l:J<|aQ w2 c h (.slice none 0 0) 0 ab f (λ_=>0) []/\ah w2 b.heap.size #[.int .i64 a,.map none,.map none,.map none,.pointer (some (z c)),.pointer none,.bool false] 125/\Below w.heap.size w w2:=⟨P.below u,n,x⟩;have H:J<|_:=rM w2 (U.o.mono x) none none none _ _ (Du w2);have K:J<|w2=b.alloc (.cells #[.int .i64 a,.map none,.map none,.map none,.pointer (some (z c)),.pointer none,.bool false] 125):=s;clear G P u x n s;go_wp2_with fail;rw[<- K.o];refine ψ H.o ?_;rintro e g⟨D,C,A,rfl,r,S,hz,o⟩;have E:J<|_:=PY g D V;have k:J<|aQ g c h (.slice none 0 0) 0 ab f (λ_=>0) []/\ah g b.heap.size #[.int .i64 a,.map none,.map none,.map none,.pointer (some (z c)),.pointer none,.bool false] 125/\Below w.heap.size w g:=⟨l.o.1.below o,l.o.2.1.below o,l.o.2.2.trans (o.mono l.o.2.2.size)⟩;have a5:b.heap.size<g.heap.size:=k.o.2.1.lt;have F:J<|toL D=encS C A/\EncOf (fst (λ_=>0)) (λ_=>none) C A:=⟨r,S⟩;clear H l K o q1 q2 q3 r S;go_wp2_with fail;refine ψ E.o ?_;rintro e i⟨rfl,R,q⟩;have t:=k.o.2.1.below q;have c5:=(t.cell 5).trans rfl;have cf:=t.frozen;have d:J<|aQ i c h (.slice none 0 0) 0 ab f (λ_=>0) []/\ah i b.heap.size #[.int .i64 a,.map none,.map none,.map none,.pointer (some (z c)),.pointer none,.bool false] 125/\Below w.heap.size w i/\fZ i g.heap.size 0 (toL D) false 0:=⟨k.o.1.below q,t,k.o.2.2.trans (q.mono k.o.2.2.size),R⟩;clear E k R q t;go_wp2_with fail;go_ret;have Q:Chg (λm=>m=b.heap.size) i (i.setCell (O b.heap.size 5) (.pointer (some (z g.heap.size)))):=(Chg.refl (λm=>m=b.heap.size) i).setCell (p:=(O b.heap.size 5)) rfl _;have a3:ab<b.heap.size\/b.heap.size<=ab:=Nat.lt_or_ge _ _;refine⟨b.heap.size,c,g.heap.size,ab,rfl,⟨?_,Du _, ?_,⟨C,A, ?_,F.o.2⟩,Ω,λ_=>Nat.zero_le _,X,Nat.zero_le _⟩,V,d.o.2.2.1.setCell (p:=(O b.heap.size 5)) (by show w.heap.size<=b.heap.size;omega) _⟩
 .have:=d.o.2.1;unfold ah at this⊢;simp[World.setCell,μ,this]
 .refine d.o.1.Xn Q (λe=>?_) (λm Y=>by cases Y) (λe=>?_) (λm e _=>by subst e;exact⟨_,_,_,d.o.2.1⟩)
  .exact jD d.o.1.blk d.o.2.1 Ψ e
  .obtain⟨N,W⟩:=d.o.1.ack;exact W.jH (e▸d.o.2.1)
 .have:=d.o.2.2.2.chg Q V;rw[F.o.1]at this;exact this
end
section
open Go.RowKit Go.Maps Go.WideMaps
def gu(K1 K2:Nat->Nat):Nat->Nat:=λx=>max (K1 x) (K2 x)
open Classical in
noncomputable def fD(K1:Nat->Nat)(C1:Nat->Option Thk.Ch)(K2:Nat->Nat)(C2:Nat->Option Thk.Ch):Nat->Option Thk.Ch:=λd =>
 if(C1 d=none/\nth d<=K1 (who d))\/(C2 d=none/\nth d<=K2 (who d))then none else(C1 d).or (C2 d)
