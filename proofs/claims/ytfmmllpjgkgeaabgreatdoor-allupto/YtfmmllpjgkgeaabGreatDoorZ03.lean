import Derived.Deep.RegionLawGrows
import Derived.Laws.AppendOwnNone
import Derived.Laws.CopyOwn
import Derived.Lib.ParseIntB
import Derived.Deep.OwnRows
import Derived.Test.YtfmmllpjgkgeaabGreatDoorZ02
set_option linter.all false
set_option maxHeartbeats 0
set_option maxRecDepth 100000
namespace Go.Proofs.YtfmmllpjgkgeaabGreatDoor
section
open Go.Proofs.Tryz Go.RowKit
variable{xs:List Value}{B b g n:Nat}{E:Prop}{e t:TypeId}{v v0 v1 v2 v3 v4:Value}{w:World}
abbrev mY:Value:=.agg #[.string ⟨#[]⟩,.int .u8 0,.string ⟨#[]⟩,I 0,.slice none 0 0]
def Y0(r:Nat ⊕ Thk.Ch)(e:Ending):Prop :=
 match r with
 | .inl k=>e=.returned (.tuple #[mY,I k])
 | .inr c=>∃p v,e=.returned (.tuple #[.agg #[.string p,.int .u8 (c.act.toNat:Int),.string v,I c.n,.slice none 0 0],I 0])/\ay p=c.path/\ay v=c.val
structure qR(b:Nat)(v0 v1 v2 v3 v4:Value)(w:World):Prop where
 c0:w.cell? (z b)=some v0
 c1:w.cell? (O b 1)=some v1
 c2:w.cell? (O b 2)=some v2
 c3:w.cell? (O b 3)=some v3
 c4:w.cell? (O b 4)=some v4
 f:∀j,w.frozen? (O b j)=false
def qR.below{w':World}(h:qR b v0 v1 v2 v3 v4 w)(c:Below B w w')(a:b<B):qR b v0 v1 v2 v3 v4 w' :=
 ⟨(c.cell (p:=(z b)) a).trans h.c0,(c.cell (p:=(O b 1)) a).trans h.c1,(c.cell (p:=(O b 2)) a).trans h.c2,(c.cell (p:=(O b 3)) a).trans h.c3,(c.cell (p:=(O b 4)) a).trans h.c4,λj=>(c.frozen (p:=(O b j)) a).trans (h.f j)⟩
def Si{w1:World}(b:Below B (w.alloc (.cells #[v0,v1,v2,v3,v4] t)) w1)(a:w.heap.size<B):qR w.heap.size v0 v1 v2 v3 v4 w1:=by have c:∀j,w1.cell? (O w.heap.size j)=_:=λj=>b.cell (p:=(O w.heap.size j)) a;have d:∀j,w1.frozen? (O w.heap.size j)=_:=λj=>b.frozen (p:=(O w.heap.size j)) a;refine⟨?_, ?_, ?_, ?_, ?_,λj=>?_⟩;all_goals first|(rw[c];simp;done)|(rw[d];simp;done)
def fJ{w1:World}(h:Below B w w1)(a:B<=b)(v0 v1 v2 v3 v4:Value):Below B w (((((w1.setCell (z b) v0).setCell (O b 1) v1).setCell (O b 2) v2).setCell (O b 3) v3).setCell (O b 4) v4) :=
 ((((h.setCell a _).setCell a _).setCell a _).setCell a _).setCell a _
def VJ(s:ByteArray)(w:World)(hs:s.size<=1048576):Calls prog 100 #[.string s] w λe w'=>Y0 (Thk.read (ay s)) e/\ϒ w w':=by
 go_enter func100,ntmps100;go_wp2
 go_loop [4,5] (λH _=>∃k:Nat,k<=s.size/\H=I k/\J (∀l(u:l<(ay s).length),l<k->Thk.eP (ay s)[l]=false)) (λH _=>s.size-(intOf H).toNat)
 case atStart=>exact⟨0,V,rfl,λl _ b=>V⟩
 case round =>
  obtain⟨k,hk,rfl,t⟩:=hrel;by_cases Y:k<s.size
  .have R:=aB s;have x:(ay s)[k]'V=s[k]:=kE s k Y;cases hact:Thk.eP s[k]
   .have T:J<|∀l(u:l<(ay s).length),l<k+1->Thk.eP (ay s)[l]=false:=by
     intro l u b;by_cases e:l=k
     .subst e;rw[x];exact hact
     .exact t.o l u V
    have D:=ω hact;clear hact t x R;go_wp2_with (go_at_call 165;refine(BK _ _).mono ?_;rintro e w'⟨rfl,rfl⟩;rw[D.o])
    go_round
    case rel=>exact⟨k+1,V,Λ,T⟩
    case measure=>simp[intOf];omega
   .have y:J<|Thk.read (ay s)=Thk.jf (ay s) k:=Thk.RY _ k V t.o (by rw[x];exact hact);have D:=ω hact;have A:J<|(ay s).getD k 0=s[k]:=ω<|by rw[ξ,σ V,x];(first|done|rfl)
    clear hact t x R;go_wp2_with (go_at_call 165;refine(BK _ _).mono ?_;rintro e w'⟨rfl,rfl⟩;rw[D.o]);refine(JQ (s.extract 0 k) _ (by simp[ϑo];omega)).mono ?_;rintro e w1⟨rfl,r⟩;have q:J<|ay (s.extract 0 k)=(ay s).take k:=ω<|by rw[fU];simp
    cases hp:Thk.path (ay (s.extract 0 k))
    .have a:J<|Thk.read (ay s)=.inl 4:=by rw[q.o]at hp;unfold J;rw[y.o];unfold Thk.jf;rw[ώ hp]
     have j:ϒ w w1:=((φ _ _).alloc (χ _) _).trans (r.mono Ω);obtain⟨d,f,g,h,i,hf⟩:=Si r Ω;clear r;go_wp2;refine ϐ (v:=(.tuple #[mY,I 4])) (by simp[results,Tryz.results100,go_sem,d,f,g,h,i]) rfl ⟨?_,fJ j (χ _) _ _ _ _ _⟩;rw[a.o];(first|done|rfl)
    .have P:ϒ w w1:=((φ _ _).alloc (χ _) _).trans (r.mono Ω);have K:J<|qR w.heap.size (.string ⟨#[]⟩) (.int .u8 0) (.string ⟨#[]⟩) (I 0) (.slice none 0 0) w1:=Si r Ω;have Z:w.heap.size<w1.heap.size:=by have:=r.size;simp at this;omega
     clear r;go_wp2
     go_region
     go_wp2_with fail;have N:J<|∀p:World,Calls prog 112 #[.string (s.extract 0 k)] p λe w'=>e=.returned (.int .u8 ((Thk.kindOf (ay (s.extract 0 k))).toNat:Int))/\ϒ p w':=λp=>JO _ p (by simp[ϑo];omega) hp;have M:J<|_:=hp;have L:J<|(ay s).drop (k+1)=ay (s.extract (k+1) s.size):=ω<|by rw[fU,<- aB s,ϑm]
     clear hp;go_cut [6]from 42 to 47 (λok p=>ok=.bool (JZ (Thk.kindOf (ay (s.extract 0 k))) s[k])/\ϒ w1 p/\qR w1.heap.size (.string (s.extract 0 k)) (.int .u8 (s[k].toNat:Int)) (.string (s.extract (k+1) s.size)) (I 0) (.slice none 0 0) p)
     case first =>
      go_region_with (first|(go_at_call 112;refine(N.o _).mono ?_;rintro e w2⟨rfl,W⟩;have E:Below (w1.heap.size+1) (w1.alloc (.cells #[.string (s.extract 0 k),.int .u8 (s[k].toNat:Int),.string (s.extract (k+1) s.size),I 0,.slice none 0 0] 124)) w2:=Below.trans Γ (W.mono Ω);obtain⟨d0,d1,d2,d3,d4,U⟩:=Si E V)|(go_at_call 166;refine(fits_any _ _ _).mono ?_;rintro e w3⟨rfl,rfl⟩));all_goals
       go_wp2_with fail;go_meet;exact⟨rfl,((φ _ _).alloc (χ _) _).trans (E.mono V),Si E V⟩
     case rest =>
     obtain⟨rfl,F,X⟩:=hcut;obtain⟨d,f,g,h,i,bf⟩:=K.o.below F Z;obtain⟨d0,d1,d2,d3,d4,U⟩:=X;have j:ϒ w wc:=P.trans (F.mono V);clear F K N P;cases hft:JZ (Thk.kindOf (ay (s.extract 0 k))) s[k]
     .have a:J<|Thk.read (ay s)=.inl 6:=ω<|by rw[y.o];unfold Thk.jf;rw[ύ (by rw[<- q.o,M.o];simp),ώ (by rw[A.o,<- q.o];exact hft)]
      clear hft;go_wp2;refine ϐ (v:=(.tuple #[mY,I 6])) (by simp[results,Tryz.results100,go_sem,d,f,g,h,i]) rfl ⟨?_,fJ j (χ _) _ _ _ _ _⟩;rw[a.o];(first|done|rfl)
     .have m:J<|Thk.read (ay s)=Thk.operand (ay (s.extract 0 k)) s[k] (ay (s.extract (k+1) s.size)):=ω<|by rw[y.o];unfold Thk.jf;rw[ύ (by rw[<- q.o,M.o];simp),ύ (by rw[A.o,<- q.o];unfold JZ at hft;unfold Thk.fits;rw[hft];simp),A.o,q.o,L.o]
      clear hft y A q L;have C:w.heap.size≠w1.heap.size:=V
      cases h43:((s[k].toNat:Int)==43)
      .cases h45:((s[k].toNat:Int)==45)
       .cases h61:((s[k].toNat:Int)==61)
        .cases h62:((s[k].toNat:Int)==62)
         .have c:¬(s[k].toNat=43\/s[k].toNat=45\/s[k].toNat=61)/\¬s[k].toNat=62:=by simp only[ό]at *;omega
          cases hv:(s.extract (k+1) s.size).toList.isEmpty
          .have a:J<|Thk.read (ay s)=.inl 5:=ω<|by rw[m.o];unfold Thk.operand;rw[ύ c.1,ύ c.2,ύ (by rw[toList_eq]at hv;simp only[ay];intro u;rw[u]at hv;cases hv)]
           clear c m;go_wp2;refine ϐ (v:=(.tuple #[mY,I 5])) (by simp[results,Tryz.results100,go_sem,d,f,g,h,i]) rfl ⟨?_,fJ j (χ _) _ _ _ _ _⟩;rw[a.o];(first|done|rfl)
          .have a:J<|Thk.read (ay s)=.inr ⟨ay (s.extract 0 k),s[k],ay (s.extract (k+1) s.size),0⟩:=ω<|by rw[m.o];unfold Thk.operand;rw[ύ c.1,ύ c.2,ώ (by rw[toList_eq]at hv;exact List.isEmpty_iff.1 hv)]
           clear c m;go_wp2;refine ϐ (v:=(.tuple #[.agg #[.string (s.extract 0 k),.int .u8 (s[k].toNat:Int),.string (s.extract (k+1) s.size),I 0,.slice none 0 0],I 0])) (by simp[results,Tryz.results100,go_sem,d,f,g,h,i]) rfl ⟨?_,fJ j (χ _) _ _ _ _ _⟩;rw[a.o];exact⟨_,_,rfl,rfl,rfl⟩
         .have c:s[k].toNat=62:=by simp only[ϑt]at h62;omega
          have B:J<|Thk.read (ay s)=match Thk.num (ay (s.extract (k+1) s.size)) with|some n=>.inr ⟨ay (s.extract 0 k),s[k],ay (s.extract (k+1) s.size),n⟩|none=>.inl 5:=ω<|by rw[m.o];unfold Thk.operand;rw[ύ V,ώ c];(first|done|rfl)
          clear c m;go_wp2_with fail;refine(Oe _ _ (by simp[ϑo];omega)).mono ?_;rintro e w'⟨⟨S,rfl,G⟩,rfl⟩;cases hn:Thk.num (ay (s.extract (k+1) s.size)) with
          | none =>
           have a:J<|Thk.read (ay s)=.inl 5:=ω<|by rw[B.o,hn]
           clear G hn B;go_wp2;refine ϐ (v:=.tuple #[mY,I 5]) (by simp[results,Tryz.results100,go_sem,d,f,g,h,i,C,C.symm]) rfl ⟨?_,fJ (j.setCell (by show w.heap.size<=w1.heap.size;omega) _) (χ _) _ _ _ _ _⟩;rw[a.o];(first|done|rfl)
          | some n =>
           have a:J<|Thk.read (ay s)=.inr ⟨ay (s.extract 0 k),s[k],ay (s.extract (k+1) s.size),S⟩:=ω<|by rw[B.o,hn,G n hn]
           clear G hn B;go_wp2;refine ϐ (v:=(.tuple #[.agg #[.string (s.extract 0 k),.int .u8 (s[k].toNat:Int),.string (s.extract (k+1) s.size),I S,.slice none 0 0],I 0])) (by simp[results,Tryz.results100,go_sem,d,f,g,h,i,C,C.symm]) rfl ⟨?_,fJ (j.setCell (by show w.heap.size<=w1.heap.size;omega) _) (χ _) _ _ _ _ _⟩;rw[a.o];exact⟨_,_,rfl,rfl,rfl⟩
        .have c:s[k].toNat=43\/s[k].toNat=45\/s[k].toNat=61:=by simp only[ϑt,ό]at *;omega
         cases hv:Thk.val (s.extract (k+1) s.size).data.toList
         .have a:J<|Thk.read (ay s)=.inl 5:=ω<|by rw[m.o];unfold Thk.operand;rw[ώ c,(show Thk.val (ay (s.extract (k+1) s.size))=_ from hv)];(first|done|rfl)
          have o:J<|_:=hv;clear hv c;go_wp2_with (go_at_call 167;refine(mW _ _ (by simp[ϑo];omega)).mono ?_;rintro e w'⟨rfl,rfl⟩;rw[o.o]);refine ϐ (v:=(.tuple #[mY,I 5])) (by simp[results,Tryz.results100,go_sem,d,f,g,h,i]) rfl ⟨?_,fJ j (χ _) _ _ _ _ _⟩;rw[a.o];(first|done|rfl)
         .have a:J<|Thk.read (ay s)=.inr ⟨ay (s.extract 0 k),s[k],ay (s.extract (k+1) s.size),0⟩:=ω<|by rw[m.o];unfold Thk.operand;rw[ώ c,(show Thk.val (ay (s.extract (k+1) s.size))=_ from hv)];(first|done|rfl)
          have o:J<|_:=hv;clear hv c;go_wp2_with (go_at_call 167;refine(mW _ _ (by simp[ϑo];omega)).mono ?_;rintro e w'⟨rfl,rfl⟩;rw[o.o]);refine ϐ (v:=(.tuple #[.agg #[.string (s.extract 0 k),.int .u8 (s[k].toNat:Int),.string (s.extract (k+1) s.size),I 0,.slice none 0 0],I 0])) (by simp[results,Tryz.results100,go_sem,d,f,g,h,i]) rfl ⟨?_,fJ j (χ _) _ _ _ _ _⟩;rw[a.o];exact⟨_,_,rfl,rfl,rfl⟩
       .have c:s[k].toNat=43\/s[k].toNat=45\/s[k].toNat=61:=by simp only[ϑt,ό]at *;omega
        cases hv:Thk.val (s.extract (k+1) s.size).data.toList
        .have a:J<|Thk.read (ay s)=.inl 5:=ω<|by rw[m.o];unfold Thk.operand;rw[ώ c,(show Thk.val (ay (s.extract (k+1) s.size))=_ from hv)];(first|done|rfl)
         have o:J<|_:=hv;clear hv c;go_wp2_with (go_at_call 167;refine(mW _ _ (by simp[ϑo];omega)).mono ?_;rintro e w'⟨rfl,rfl⟩;rw[o.o]);refine ϐ (v:=(.tuple #[mY,I 5])) (by simp[results,Tryz.results100,go_sem,d,f,g,h,i]) rfl ⟨?_,fJ j (χ _) _ _ _ _ _⟩;rw[a.o];(first|done|rfl)
        .have a:J<|Thk.read (ay s)=.inr ⟨ay (s.extract 0 k),s[k],ay (s.extract (k+1) s.size),0⟩:=ω<|by rw[m.o];unfold Thk.operand;rw[ώ c,(show Thk.val (ay (s.extract (k+1) s.size))=_ from hv)];(first|done|rfl)
         have o:J<|_:=hv;clear hv c;go_wp2_with (go_at_call 167;refine(mW _ _ (by simp[ϑo];omega)).mono ?_;rintro e w'⟨rfl,rfl⟩;rw[o.o]);refine ϐ (v:=(.tuple #[.agg #[.string (s.extract 0 k),.int .u8 (s[k].toNat:Int),.string (s.extract (k+1) s.size),I 0,.slice none 0 0],I 0])) (by simp[results,Tryz.results100,go_sem,d,f,g,h,i]) rfl ⟨?_,fJ j (χ _) _ _ _ _ _⟩;rw[a.o];exact⟨_,_,rfl,rfl,rfl⟩
      .have c:s[k].toNat=43\/s[k].toNat=45\/s[k].toNat=61:=by simp only[ϑt,ό]at *;omega
       cases hv:Thk.val (s.extract (k+1) s.size).data.toList
       .have a:J<|Thk.read (ay s)=.inl 5:=ω<|by rw[m.o];unfold Thk.operand;rw[ώ c,(show Thk.val (ay (s.extract (k+1) s.size))=_ from hv)];(first|done|rfl)
        have o:J<|_:=hv;clear hv c;go_wp2_with (go_at_call 167;refine(mW _ _ (by simp[ϑo];omega)).mono ?_;rintro e w'⟨rfl,rfl⟩;rw[o.o]);refine ϐ (v:=(.tuple #[mY,I 5])) (by simp[results,Tryz.results100,go_sem,d,f,g,h,i]) rfl ⟨?_,fJ j (χ _) _ _ _ _ _⟩;rw[a.o];(first|done|rfl)
       .have a:J<|Thk.read (ay s)=.inr ⟨ay (s.extract 0 k),s[k],ay (s.extract (k+1) s.size),0⟩:=ω<|by rw[m.o];unfold Thk.operand;rw[ώ c,(show Thk.val (ay (s.extract (k+1) s.size))=_ from hv)];(first|done|rfl)
        have o:J<|_:=hv;clear hv c;go_wp2_with (go_at_call 167;refine(mW _ _ (by simp[ϑo];omega)).mono ?_;rintro e w'⟨rfl,rfl⟩;rw[o.o]);refine ϐ (v:=(.tuple #[.agg #[.string (s.extract 0 k),.int .u8 (s[k].toNat:Int),.string (s.extract (k+1) s.size),I 0,.slice none 0 0],I 0])) (by simp[results,Tryz.results100,go_sem,d,f,g,h,i]) rfl ⟨?_,fJ j (χ _) _ _ _ _ _⟩;rw[a.o];exact⟨_,_,rfl,rfl,rfl⟩
  .have a:J<|Thk.read (ay s)=.inl 4:=Thk.RX _ (λl Q=>t.o l Q (by rw[aB]at Q;omega));clear t;go_wp2
   go_returns
   refine⟨by rw[a.o];rfl,Γ⟩
def Ik(e:Ev)(a:List Ev)(v:Value)(vs:List Value):fA (e::a) (v::vs)=[.string e.p,.int .u8 (e.a.toNat:Int),.string e.v,I e.n,v]++fA a vs:=rfl
def J3:∀(a:List Ev)(c:List Value),c.length=a.length->∀j(h:j<a.length)(d:j<c.length),(fA a c)[j*5]?=some (.string a[j].p)/\(fA a c)[j*5+1]?=some (.int .u8 (a[j].a.toNat:Int))/\(fA a c)[j*5+2]?=some (.string a[j].v)/\(fA a c)[j*5+3]?=some (I a[j].n)/\(fA a c)[j*5+4]?=some c[j]:=by
 intro a;induction a with
 | nil=>intro c _ j h;simp at h
 | cons e a ih =>
  intro c f j h d;cases c with
  | nil=>simp at f
  | cons v vs =>
   rw[Ik];cases j with
   | zero=>simp
   | succ j =>
    have o:vs.length=a.length:=by simpa using f
    obtain⟨k,b,l,m,n⟩:=ih vs o j (by simpa using h) (by simpa using d);have s:∀i,([.string e.p,.int .u8 (e.a.toNat:Int),.string e.v,I e.n,v]++fA a vs)[(j+1)*5+i]?=(fA a vs)[j*5+i]?:=by intro i;rw[ϋ Θ];congr 1;simp;omega
    have g:=s 0;simp only[Nat.add_zero]at g;exact⟨g.trans k,(s 1).trans b,(s 2).trans l,(s 3).trans m,(s 4).trans n⟩
def Il:∀(a:List Ev)(b:List Value),b.length=a.length->∀e v,fA (a++[e]) (b++[v])=fA a b++[.string e.p,.int .u8 (e.a.toNat:Int),.string e.v,I e.n,v]:=by intro a b c e v;unfold fA;rw[List.zip_append c.symm,List.flatMap_append];(first|done|rfl)
def zh(f:Value)(a:List Ev)(d:Value)(known:List Bool)(w:World)(m:a.length<=1048576)(hkn:known.length<=1048576)(h:qZ w.heap.size w f a)(j:eu w.heap.size w d (bools known))(c:∀e∈a,RV e):Calls prog 61 #[f,d] w λe w'=>∃v,e=.returned v/\w'.ownsRow w.heap.size 3 1 v (aH a known a.length).length (xI (aH a known a.length))/\ϒ w w':=by
 have i:=h;rcases h with⟨rfl,rfl⟩|⟨b,n,k,rfl,l,o,p⟩
 .clear c j i;go_enter func61,ntmps61;go_wp2
  go_rounds 1
  go_ret;exact⟨_,rfl,ϑj _ _ _ _,φ _ _⟩
 .exact N9 w.heap.size b n k a d known w (χ _) l m hkn i j (λe g=>⟨by have:=(c e g).p;omega,(c e g).s⟩)
def qZ.mono{a:Nat}{es:List Ev}(h:qZ B w v es)(n:B<=a):qZ a w v es:=by
 rcases h with h|⟨b,q,j,k,l,s,m⟩
 .exact τ h
 .refine υ ⟨b,q,j,k,l,V,λp o=>?_⟩;obtain⟨r,c,d,e,f,g,i⟩:=m p o;exact⟨r,c,d,e,f,g,i.mono n⟩
def Og(b:List Ev)(known:List Bool)(n:Nat):∀j∈aH b known n,j<n:=by intro j a;unfold aH at a;have:=(ϑf.1 a).1;simpa using this
def jL{P:Program}{l:Array Oper}{o:Oper}{a:Act}{K:Act->World->Prop}{Q:Exit->Act->World->Prop}(N:o.guard=none)(s x:Operand)(t:TypeId)(S:o.op=Op.call { callee:=Callee.builtin Builtin.append,args:=#[s,x],argTypes:=#[t,t] })(d:Nat)(e:TypeId)(i:TypeInfo)(h:Value)(size bytes:Nat)(r:P.underlying t=some (.slice e))(A:P.info? e=some i)(B:i.zero=some h)(C:i.size=size)(D:i.bytes=bytes)(F:h.cells.size=size)(G:0<size)(v:Value)(n:Nat)(xs:List Value)(W:a.eval s=v)(T:w.ownsRow d e size v n xs)(g:Addr)(m j:Nat)(b:List Value)(Y:a.eval x=.slice (some g) m j)(R:b.length=m*size)(M:∀k u,b[k]?=some u->w.cell? (g.add k)=some u)(y:∀u∈b,u.oneCell'=true)(p:n+m<=maxLen)(q:(n+m)*bytes<=140737488355328)(L:d<=w.heap.size)(H:∀f c,c.ownsRow d e size f (n+m) (xs++b)->w.grownBy c v.ownBlock->K (a.put o.dst f) c):if Region.wanted o (yielded l a.tmps)=true then Oper.wp P o a w K Q else E:=by
 have X:Region.wanted o (yielded l a.tmps)=true:=by simp[Region.wanted,N]
 rw[ώ X];obtain⟨f,c,U,Z,r2,_⟩:=run_append_own (P:=P) w d t o.type e i h size bytes r A B C D F G v n xs T g m j b R M y p q L;unfold Oper.wp;simp[execOp,S,resolve,invoke,builtin,W,Y,U,Result.andThen];exact H f c Z r2
def rE{P:Program}{c:Array Oper}{o:Oper}{a:Act}{K:Act->World->Prop}{Q:Exit->Act->World->Prop}(h:o.guard=none)(s x:Operand)(t:TypeId)(j:o.op=Op.call { callee:=Callee.builtin Builtin.append,args:=#[s,x],argTypes:=#[t,t] })(b:Nat)(e:TypeId)(i:TypeInfo)(size:Nat)(d:P.underlying t=some (.slice e))(f:P.info? e=some i)(v:Value)(n:Nat)(xs:List Value)(m:a.eval s=v)(k:w.ownsRow b e size v n xs)(q:a.eval x=.slice none 0 0)(g:K (a.put o.dst v) w):if Region.wanted o (yielded c a.tmps)=true then Oper.wp P o a w K Q else E:=by
 have p:Region.wanted o (yielded c a.tmps)=true:=by simp[Region.wanted,h]
 rw[ώ p];have l:=run_append_owned_none (P:=P) (w:=w) b t o.type e i size d f v n xs k;unfold Oper.wp;simp[execOp,j,resolve,invoke,builtin,m,q,l,Result.andThen];exact g
def qK{P:Program}{a2:Array Oper}{o:Oper}{a:Act}{K:Act->World->Prop}{Q:Exit->Act->World->Prop}(W:o.guard=none)(s x:Operand)(t:TypeId)(a1:o.op=Op.call { callee:=Callee.builtin Builtin.append,args:=#[s,x],argTypes:=#[t,t] })(b:Nat)(e:TypeId)(i:TypeInfo)(a5:Value)(size bytes:Nat)(D:P.underlying t=some (.slice e))(G:P.info? e=some i)(H:i.zero=some a5)(L:i.size=size)(M:i.bytes=bytes)(N:a5.cells.size=size)(R:0<size)(v:Value)(n:Nat)(xs:List Value)(hs:a.eval s=v)(y:w.ownsRow b e size v n xs)(j:Addr)(m l:Nat)(c:List Value)(hx:a.eval x=.slice (some j) m l)(Z:c.length=m*size)(U:∀A u,c[A]?=some u->w.cell? (j.add A)=some u)(F:∀u∈c,u.oneCell'=true)(B:n+m<=maxLen)(C:(n+m)*bytes<=140737488355328)(a4:0<n+m)(a6:World)(p:Below b a6 w)(T:b<=a6.heap.size)(S:∀g f d,d.ownsRow b e size (.slice (some (z g)) (n+m) f) (n+m) (xs++c)->Below b a6 d->K (a.put o.dst (.slice (some (z g)) (n+m) f)) d):if Region.wanted o (yielded a2 a.tmps)=true then Oper.wp P o a w K Q else E:=by
 have q:=ς T p.size;refine jL W s x t a1 b e i a5 size bytes D G H L M N R v n xs hs y j m l c hx Z U F B C q ?_;intro v' d r X;have a0:=r;obtain⟨_,h|⟨g,f,a3,rfl,_⟩⟩:=a0
 .omega
 .exact S g f d r (p.grown X q (λk Y=>(y.lt k Y).1))
def xO{P:Program}{a2:Array Oper}{o:Oper}{a:Act}{K:Act->World->Prop}{Q:Exit->Act->World->Prop}(Y:o.guard=none)(s x:Operand)(t:TypeId)(a1:o.op=Op.call { callee:=Callee.builtin Builtin.append,args:=#[s,x],argTypes:=#[t,t] })(c:Nat)(e:TypeId)(i:TypeInfo)(p:Value)(size bytes:Nat)(F:P.underlying t=some (.slice e))(H:P.info? e=some i)(L:i.zero=some p)(M:i.size=size)(N:i.bytes=bytes)(R:p.cells.size=size)(S:0<size)(v:Value)(n:Nat)(xs:List Value)(hs:a.eval s=v)(y:w.ownsRow c e size v n xs)(j:Addr)(m q:Nat)(f:List Value)(hx:a.eval x=.slice (some j) m q)(hn:f.length=m*size)(G:∀u∈f,u.oneCell'=true)(C:n+m<=maxLen)(D:(n+m)*bytes<=140737488355328)(g:World)(a3:Below c g w)(W:c<=g.heap.size)(X:∀B,Below c g B->∀A u,f[A]?=some u->B.cell? (j.add A)=some u)(T:∀h d,d.ownsRow c e size h (n+m) (xs++f)->Below c g d->w.heap.size<=d.heap.size->(∀b o,b<w.heap.size->v.ownBlock≠some b->d.cell? (O b o)=w.cell? (O b o))->K (a.put o.dst h) d):if Region.wanted o (yielded a2 a.tmps)=true then Oper.wp P o a w K Q else E:=by have r:=ς W a3.size;refine jL Y s x t a1 c e i p size bytes F H L M N R S v n xs hs y j m q f hx hn (X w a3) G C D r ?_;intro h d ho l;exact T h d ho (a3.grown l r (λk Z=>(y.lt k Z).1)) l.size (λb o U a0=>η (w:=w) (l.block b U (λe=>a0 e.symm)))
def ownsRow_base{base a:Nat}{size:Nat}(h:w.ownsRow base e size v n xs)(i:a<=base):w.ownsRow a e size v n xs:=by
 obtain⟨b,f|⟨g,c,d,k,j,r⟩⟩:=h
 .exact⟨b,τ f⟩
 .exact⟨b,υ ⟨g,c,d,k,ς i j,r⟩⟩
def iU{P:Program}{a2:Array Oper}{o:Oper}{a:Act}{K:Act->World->Prop}{Q:Exit->Act->World->Prop}(D:o.guard=none)(s x:Operand)(t:TypeId)(G:o.op=Op.call { callee:=Callee.builtin Builtin.append,args:=#[s,x],argTypes:=#[t,t] })(e:TypeId)(i:TypeInfo)(p:Value)(size bytes:Nat)(q:P.underlying t=some (.slice e))(y:P.info? e=some i)(W:i.zero=some p)(A:i.size=size)(X:i.bytes=bytes)(Y:p.cells.size=size)(Z:0<size)(v:Value)(n:Nat)(xs:List Value)(L:a.eval s=v)(H:w.ownsRow 0 e size v n xs)(f:Addr)(m j:Nat)(d:List Value)(N:a.eval x=.slice (some f) m j)(F:d.length=m*size)(C:∀l u,d[l]?=some u->w.cell? (f.add l)=some u)(r:∀u∈d,u.oneCell'=true)(S:n+m<=maxLen)(T:(n+m)*bytes<=140737488355328)(ae:0<n+m)(hK:∀g c w',w'.ownsRow 0 e size (.slice (some (z g)) (n+m) c) (n+m) (xs++d)->w.grownBy w' v.ownBlock->(v.ownBlock=some g\/w.heap.size<=g)->K (a.put o.dst (.slice (some (z g)) (n+m) c)) w'):if Region.wanted o (yielded a2 a.tmps)=true then Oper.wp P o a w K Q else E:=by
 have wide:∀w',w.grownBy w' none->w.grownBy w' v.ownBlock:=λw' h=>⟨h.os,h.tape,h.output,h.size,λk hk _=>h.block k hk Ω⟩;have U:∀R w',w'.ownsRow w.heap.size e size R (n+m) (xs++d)->w.grownBy w' none->K (a.put o.dst R) w':=by
  intro R w' ag a4;have a6:=ag;obtain⟨_,h|⟨g,c,a3,rfl,a0,_⟩⟩:=a6
  .omega
  .exact hK g c w' (ownsRow_base ag (Nat.zero_le _)) (wide w' a4) (υ a0)
 have ag:=H;obtain⟨a1,⟨M,a5⟩|⟨g,c,a3,M,a0,hh,ac,aa,ab,af⟩⟩:=ag
 .subst M;subst a5;have a9:xs=[]:=ϑr (by rw[a1];simp);subst a9;exact step_append_grows D s x t G e i p size bytes q y W A X Y Z none 0 0 [] L (λ_=>⟨rfl,rfl⟩) Ω (λb B=>by cases B) f m j d N F C r V S T U
 .subst M;by_cases a7:n+m<=c
  .have hw:Region.wanted o (yielded a2 a.tmps)=true:=by simp[Region.wanted,D]
   rw[ώ hw];obtain⟨w',a8,r1,r2⟩:=run_append_fits (P:=P) w 0 t o.type e i size q y A g n c xs H f m j d F C r a7;unfold Oper.wp;simp[execOp,G,resolve,invoke,builtin,L,N,a8,Result.andThen];exact hK g c w' r1 r2 (τ rfl)
  .refine step_append_grows D s x t G e i p size bytes q y W A X Y Z (some (z g)) n c xs L (λh=>by cases h) a1 ?_ f m j d N F C r V S T U;intro b B l u hj;cases B
   exact H.cells rfl l u hj
def aI.vk{s:TypeId}{a:World}(h:aI t w v xs)(d:aA (· = b) w a)(c:Tagged w b s)(g:t≠s):aI t a v xs :=
 h.aJ d λi f e=>(f.ne c g) e
def gq{base:Nat}(w:World)(g:Nat)(b:g=w.heap.size)(a:base<=w.heap.size):(w.alloc (.cells #[] e)).ownsRow base e 1 (.slice (some (z g)) 0 0) 0 []:=by subst b;exact World.ownsRow_lit w #[] 0 a Ψ rfl
def aI.al3{c o:Nat}{a:Option Addr}(h:aI t w (.slice (some (z g)) o c) xs)(n e:Nat)(d:xs.length=n+1)(m:(a=some (z g)/\n=0)\/a=some (O g 1))(r:n<=e):aI t w (.slice a n e) xs.tail:=by
 rcases h with⟨h,_⟩|⟨b,s,p,i,q,k,l⟩
 .cases h
 .simp only[ϑa,ϑb,ϑz]at i;obtain⟨⟨rfl,rfl,_⟩,rfl,rfl⟩:=i;right;rcases m with⟨rfl,rfl⟩|rfl
  .exact⟨g,0,e,by simp[d],by simp[d],k,λj f=>by simp[d]at f⟩
  .refine⟨g,1,e,by simp[d],by simp[d];omega,k,λj f=>?_⟩;simp only[List.length_tail]at f;rw[List.getElem_tail,show 1+j=0+(j+1)by omega];exact l (j+1) V
def Tagged.drewN(h:Tagged w b t)(n:Nat):Tagged (w.drewN n) b t:=h
def aA.drewN{M:Nat->Prop}{a:World}(h:aA M a w)(n:Nat):aA M a (w.drewN n):=h.below (below_drewN (φ _ _) n)
def dK{size:Nat}(h:w.ownsRow B e size v n xs)(d:0<n):∃g cap,v=.slice (some (z g)) n cap:=by
 obtain⟨_,c|⟨g,cap,b,a,_⟩⟩:=h
 .omega
 .exact⟨g,cap,a⟩
def Tryz.info4:(prog.info? 4).map (λi=>(i.zero,i.size,i.bytes))=some (some (.bool false),1,1):=by kernel_rfl
def Tryz.infoEv:(prog.info? 124).map (λi=>(i.zero,i.size,i.bytes))=some (some mY,5,72):=by kernel_rfl
def qR.aw8(h:qR b v0 v1 v2 v3 v4 w)(u:Value)(a:∀j,(w.setCell (O b 4) u).frozen? (O b j)=false):qR b v0 v1 v2 v3 u (w.setCell (O b 4) u) :=
 ⟨(aT (υ V)).trans h.c0,(aT (υ V)).trans h.c1,(aT (υ V)).trans h.c2,(aT (υ V)).trans h.c3,bV h.c4,a⟩
def aA.trans'{M N:Nat->Prop}{a b c:World}(h:aA M a b)(k:aA N b c)(f:∀x,x<a.heap.size->N x->M x):aA M a c :=
 ⟨k.os.trans h.os,k.tape.trans h.tape,k.output.trans h.output,ς h.size k.size,λi d e=>(k.block i (ο d h.size) (λg=>e (f i d g))).trans (h.block i d e)⟩
def al4{b d:World}{a:Nat}(f:qR a v0 v1 v2 v3 v4 b)(e:Tagged b a t)(c:ϒ b d)(u:Value):qR a v0 v1 v2 v3 u (d.setCell (O a 4) u)/\aA (λx=>x=a) b (d.setCell (O a 4) u) :=
 ⟨(f.below c e.lt).aw8 u (λj=>((e.below c).setCell _ _).frozen j),(aA.of_below (M:=λx=>x=a) c).setCell (p:=(O a 4)) rfl _⟩
def VK(h:w.ownsRow B e 1 (.slice (some (z g)) n n) n xs):w.heap[g]?=some (.cells xs.toArray e (0,0)):=by
 obtain⟨l,⟨c,_⟩|⟨k,j,b,a,_,d,_,_,f,i⟩⟩:=h
 .cases c
 .simp only[ϑa,ϑb,ϑz,ϑM,ϑN]at a;obtain⟨rfl,rfl⟩:=a;have:b.toList=xs:=by rw[<- i,ϑg (by rw[Array.length_toList,f];exact χ _)]
  rw[d,<- this]
def cell_of_heap(h:w.heap[g]?=some (.cells xs.toArray e (0,0)))(j:Nat):w.cell? (O g j)=xs[j]?:=by simp[World.cell?,h]
def Oh{b:World}{known:List Bool}(d:known.length<=n)(c:b.heap[g]?=some (.cells (splice (List.replicate (n+1) (.bool false)) 0 (bools known)).toArray 4 (0,0))):aI 4 (b.setCell (O g n) (.bool true)) (.slice (some (z g)) (n+1) (n+1)) (bools (dw known n))/\b.cell? (O g n)=some (.bool false):=by
 have i:∀j,(splice (List.replicate (n+1) (.bool false)) 0 (bools known))[j]?=if j<known.length then(bools known)[j]? else if j<n+1 then some (.bool false)else none:=by
  intro j;unfold splice;simp only[List.take_zero,List.nil_append,Nat.zero_add];have m:(bools known).length=known.length:=by simp[bools]
  by_cases h:j<known.length
  .rw[ώ h,ε V]
  .rw[ύ h,ϋ V,List.getElem?_drop,List.getElem?_replicate,m];by_cases a:j<n+1
   .rw[ώ a,ώ V]
   .rw[ύ a,ύ V]
 have e:b.cell? (O g n)=some (.bool false):=by rw[cell_of_heap c,i,ύ V,ώ V]
 refine⟨υ ⟨g,0,n+1, ?_, ?_,Tagged.setCell ⟨_,c⟩ _ _, ?_⟩,e⟩
 .simp[bools,jD _ _ d]
 .simp[bools,jD _ _ d]
 .intro j f;have l:j<n+1:=by simpa[bools,jD _ _ d]using f
  rw[Nat.zero_add];have k:(bools (dw known n))[j]=.bool ((dw known n)[j]'(by simpa[bools]using f)):=by simp[bools]
  rw[k];by_cases h:j=n
  .subst h;rw[bV e];congr 2;unfold dw;rw[ϑu Θ];simp
  .rw[aT (υ V),cell_of_heap c,i];by_cases a:j<known.length
   .rw[ώ a,σ (by simpa[bools]using a)];congr 1;simp only[bools,ϑI];congr 1;unfold dw;rw[ϑk Θ,ϑk a]
   .rw[ύ a,ώ l];congr 2;unfold dw;rw[ϑk Θ,ϑu V];simp
def FV(m:Nat):(madeCells (Value.bool false).cells m).toList=List.replicate m (.bool false):=by
 apply List.ext_getElem
 .simp[madeCells]
 .intro i a b;simp[madeCells,Value.cells,Nat.mod_one]
end
section
open Go.Proofs.Tryz
namespace Thk
open Go
def J4(r:Bs):∀n,n<=r.foldl (λn c=>10*n+xE c) n:=by
 induction r with
 | nil=>intro n;exact χ _
 | cons x r a=>intro n;simp only[List.foldl_cons];have:=a (10*n+xE x);omega
def J5(M:Nat)(g:1000000000<=M):∀(r:Bs)(a:Nat),r.all dR=true->r.foldl (λn c=>10*n+xE c) a<=1000000000 -> Lib.parseUintM M a r=.ok (r.foldl (λn c=>10*n+xE c) a):=by
 intro r;induction r with
 | nil=>intro a _ _;rfl
 | cons x r ih =>
  intro a b f;simp only[List.all_cons,γ]at b;simp only[List.foldl_cons]at f⊢;have h:=J4 r (10*a+xE x);have d:=b.1;unfold dR at d;simp only[γ,ϑs]at d;have e:a*10+(x.toNat-48)=10*a+xE x:=by unfold xE;omega
  rw[Lib.parseUintM,ώ d,ύ V,e,ύ V];exact ih _ b.2 f
def J6(l:Bs)(c:l≠[])(a:l.all dR=true)(e:l.head?≠some 48):1<=fE l:=by
 cases l with
 | nil=>exact absurd rfl c
 | cons x r =>
  unfold fE;simp only[List.foldl_cons];have d:=J4 r (10*0+xE x);simp only[List.all_cons,γ]at a;have b:=a.1;unfold dR at b;simp only[γ,ϑs]at b;have f:x.toNat≠48:=by intro h;apply e;simp only[List.head?_cons,ϑb];exact UInt8.toNat_inj.1 h
  unfold xE at d⊢;omega
def FW(c:UInt8)(h:dR c=true):UInt8.ofNat (48+xE c)=c:=by unfold dR at h;simp only[γ,ϑs]at h;apply UInt8.toNat_inj.1;unfold xE;rw[(V:48+(c.toNat-48)=c.toNat)];simp
def ae8(c:UInt8)(h:dR c=true):xE c<=9:=by unfold dR at h;simp only[γ,ϑs]at h;unfold xE;omega
def J7:∀(n:Nat)(l:Bs),l.length=n->l≠[]->l.all dR=true->(l.head?≠some 48\/l.length=1)->Lib.decDigits (fE l)=l:=by
 intro n;induction n with
 | zero=>intro l g e;cases l with
  | nil=>exact absurd rfl e
  | cons=>simp at g
 | succ n ih =>
  intro l h e a b;obtain⟨i,c,rfl⟩:∃i c,l=i++[c]:=⟨l.dropLast,l.getLast e,(List.dropLast_concat_getLast e).symm⟩;simp only[List.all_append,List.all_cons,List.all_nil,Bool.and_true,γ]at a;simp only[ρ,δ,List.length_nil]at h b;have j:=ae8 c a.2;rw[oO];by_cases d:i=[]
  .subst d;have:fE []=0:=rfl;rw[this,Lib.decDigits,dif_pos V,(V:48+(10*0+xE c)=48+xE c),FW c a.2];(first|done|rfl)
  .have k:=List.length_pos_iff.2 d;have f:i.head?≠some 48:=by
    rcases b with b|b
    .cases i with
     | nil=>exact absurd rfl d
     | cons=>simpa using b
    .omega
   have m:=J6 i d a.1 f;rw[Lib.decDigits,dif_neg V,show(10*fE i+xE c) / 10=fE i by omega,show(10*fE i+xE c) % 10=xE c by omega,FW c a.2,
    ih i V d a.1 (.inl f)]
def VL(d:Nat)(h:d<10):dR (UInt8.ofNat (48+d))=true/\xE (UInt8.ofNat (48+d))=d:=by
 have:(UInt8.ofNat (48+d)).toNat=48+d:=Θ
 unfold dR xE;rw[this];simp;omega
def FX(u:Nat):(Lib.decDigits u).all dR=true/\fE (Lib.decDigits u)=u/\Lib.decDigits u≠[]/\(1<=u->(Lib.decDigits u).head?≠some 48):=by
 induction u using Nat.strongRecOn with
 | ind u ih =>
  rw[Lib.decDigits];by_cases h:u<10
  .rw[dif_pos h];have a:=VL u h;refine⟨by rw[List.all_cons,a.1];rfl,by unfold fE;rw[List.foldl_cons,a.2];simp,Ω, ?_⟩;intro c b;simp only[List.head?_cons,ϑb]at b;have:=a.2;rw[b]at this;have d:xE 48=0:=rfl;omega
  .rw[dif_neg h];obtain⟨c,b,d,f⟩:=ih (u / 10) V;have a:=VL (u % 10) V;refine⟨by rw[List.all_append,c,List.all_cons,a.1];rfl,by rw[oO,b,a.2];omega,Ω, ?_⟩;intro _;have e:=f V;cases hi:Lib.decDigits (u / 10) with
   | nil=>exact absurd hi d
   | cons=>rw[hi]at e;simpa using e
def al5:∀(k u:Nat),u<10 ^ (k+1)->Lib.nDigits u<=k+1:=by
 intro k;induction k with
 | zero=>intro u h;rw[Lib.nDigits_small (by simpa using h)];omega
 | succ k ih =>
  intro u h;by_cases a:u<10
  .rw[Lib.nDigits_small a];omega
  .rw[Lib.nDigits_big a];have:=ih (u / 10) (by rw[Nat.pow_succ]at h;omega);omega
def Y3(u:Nat)(h:u<=1000000000):(Lib.decDigits u).length<=10:=by rw[Lib.decDigits_length];exact al5 9 u V
def BX(neg:Bool)(u:Nat)(h:u<=1000000000)(m:neg=true->1<=u):ig neg (Lib.decDigits u)=some (if neg then -(u:Int) else(u:Int)):=by
 obtain⟨b,c,d,e⟩:=FX u;have k:=Y3 u h;have l:=List.length_pos_iff.2 d;have f:lT neg (Lib.decDigits u)=false:=by
  unfold lT;by_cases i:1<=u
  .have:=e i;have a:((Lib.decDigits u).head?==some 48)=false:=by simpa using this
   rw[a,Bool.false_and,Bool.or_false];simp only[Bool.or_eq_false_iff,decide_eq_false_iff_not];omega
  .have g:neg=false:=by cases neg<;>simp_all
   have j:u=0:=V
   subst j g;rw[Lib.decDigits,dif_pos V];simp
 unfold ig;rw[f,b,c];simp[h]
def xP(l:Bs):Option Int:=match Lib.parseIntB 64 l with
 | .ok v=>if Lib.itoa v=l/\-1000000000<=v/\v<=1000000000 then some v else none
 | _=>none
def VN(v:Int)(f:-1000000000<=v)(g:v<=1000000000):num (Lib.itoa v)=some v:=by
 unfold num Lib.itoa;by_cases h:v<0
 .rw[ώ h];simp only[List.head?_cons,List.tail_cons,if_true];rw[BX true v.natAbs V V];simp;omega
 .rw[ύ h];obtain⟨a,d,c,e⟩:=FX v.toNat;have:(Lib.decDigits v.toNat).head?≠some 45:=by
   cases hd:Lib.decDigits v.toNat with
   | nil=>exact absurd hd c
   | cons x r =>rw[hd]at a;simp only[List.all_cons,γ]at a;intro b;simp only[List.head?_cons,ϑb]at b;rw[b]at a;exact absurd a.1 Ψ
  rw[ύ this,BX false v.toNat V Ω];simp;omega
def BZ(neg:Bool)(l:Bs)(v:Int)(h:ig neg l=some v):l≠[]/\l.all dR=true/\(l.head?≠some 48\/(l.length=1/\neg=false))/\fE l<=1000000000/\v=(if neg then -(fE l:Int) else(fE l:Int)):=by
 unfold ig at h;split at h
 .cases h
 .rename_i hb;split at h
  .rename_i hd;simp only[γ,ϑs]at hd;simp only[ϑb]at h;unfold lT at hb;simp only[ϑw,γ,ϑs,ϑt,not_or,not_and]at hb;refine⟨?_,hd.1, ?_,hd.2,h.symm⟩
   .intro b;rw[b]at hb;simp at hb
   .by_cases a:l.head? = some 48
    .right;have:=hb.2 a;refine⟨V,by simpa using this.2⟩
    .exact .inl a
  .cases h
def zZ(l:Bs)(v:Int)(h:num l=some v):Lib.parseIntB 64 l=.ok v/\Lib.itoa v=l/\-1000000000<=v/\v<=1000000000:=by
 unfold num at h;split at h
 .rename_i h45;cases l with
  | nil=>simp at h45
  | cons x r =>
   simp only[List.head?_cons,ϑb]at h45;subst h45;simp only[List.tail_cons]at h;obtain⟨c,b,a,e,d⟩:=BZ _ _ _ h;have g:r.head?≠some 48:=by rcases a with a|a;exact a;simp at a
   have n:=J6 r c b g;have f:Lib.parseUintB 64 r=.ok (fE r):=by unfold Lib.parseUintB;rw[ύ c,J5 _ Ψ r 0 b e];(first|done|rfl)
   simp only[if_true]at d;refine⟨?_, ?_,V,V⟩
   .unfold Lib.parseIntB;have j:(45:UInt8).toNat=45:=rfl;simp only[j];rw[ώ (υ trivial),f];simp only[not_true,false_and,if_false,ϑM];rw[ύ V,ώ trivial,d]
   .unfold Lib.itoa;rw[ώ V,d,show(-(fE r:Int)).natAbs=fE r by omega,J7 _ r rfl c b (.inl g)]
 .rename_i h45;obtain⟨c,b,a,e,d⟩:=BZ _ _ _ h;have f:Lib.parseUintB 64 l=.ok (fE l):=by unfold Lib.parseUintB;rw[ύ c,J5 _ Ψ l 0 b e];(first|done|rfl)
  simp only[ϑB,if_false]at d;refine⟨?_, ?_,V,V⟩
  .cases l with
   | nil=>exact absurd rfl c
   | cons x r =>
    simp only[List.all_cons,γ]at b;have i:=b.1;unfold dR at i;simp only[γ,ϑs]at i;have m:¬(x.toNat=45):=V
    unfold Lib.parseIntB;have k:¬(x.toNat=43):=V
    simp only[m,k,or_self,if_false,f,not_false_eq_true,ϑM,false_and];rw[ύ V,d]
  .unfold Lib.itoa;rw[ύ V,d,show(fE l:Int).toNat=fE l by omega,J7 _ l rfl c b ?_];rcases a with a|a
   .exact .inl a
   .exact .inr a.1
def Oi(l:Bs):xP l=num l:=by
 cases hn:num l with
 | some v =>obtain⟨b,c,d,e⟩:=zZ l v hn;unfold xP;rw[b];simp[c,d,e]
 | none =>
  unfold xP;cases hp:Lib.parseIntB 64 l with
  | ok v =>
   simp only;by_cases a:Lib.itoa v=l/\-1000000000<=v/\v<=1000000000
   .have:=VN v a.2.1 a.2.2;rw[a.1,hn]at this;cases this
   .rw[ύ a]
  | range=>rfl
  | _=>rfl
end Thk
end
section
open Go.Proofs.Tryz Go.RowKit Go.Deep
variable{w:World}
def jg(av:Value):List Value:=[.slice none 0 0,.bool false,.slice none 0 0,.slice none 0 0,.bool false,I 0,I 0,.bool false,I 0,I 0,.slice none 0 0,av,I 0]
def mF(oN:List Value):List Value:=oN.flatMap jg
def J8:∀(a:List Value)(i:Nat)(h:i<a.length)(j:Nat),j<13->(mF a)[i*13+j]?=(jg a[i])[j]?:=by
 intro a;induction a with
 | nil=>intro i h;simp at h
 | cons b r ih =>
  intro i h j d;have e:mF (b::r)=jg b++mF r:=rfl;have c:(jg b).length=13:=rfl;rw[e];cases i with
  | zero=>rw[ε (by rw[c];omega)];simp
  | succ i =>rw[ϋ (by rw[c];omega),c,show(i+1)*13+j-13=i*13+j by omega];exact ih i (by simpa using h) j d
def Io(a:List Value)(av:Value):mF (a++[av])=mF a++jg av:=by unfold mF;simp
def pO{B n size:Nat}{e:TypeId}{v:Value}{xs:List Value}(h:w.ownsRow B e size v n xs):∀g,v.ownBlock=some g->Tagged w g e:=by
 intro g a;obtain⟨_,c|⟨i,f,b,rfl,_,d,_⟩⟩:=h
 .rw[c.1]at a;cases a
 .cases a;exact⟨b,d⟩
def FY{B n size:Nat}{e:TypeId}{v:Value}{xs:List Value}(h:w.ownsRow B e size v n xs)(c:e≠3):∀b,Tagged w b 3->¬v.ownBlock=some b:=λb a d=>Tagged.ne (pO h b d) a c rfl
def Tryz.infoRep:(prog.info? 64).map (λi=>(i.zero,i.size,i.bytes))=some (some (.agg (jg (.slice none 0 0)).toArray),13,184):=by kernel_rfl
def qR.set1{b:Nat}{v0 v1 v2 v3 v4:Value}(h:qR b v0 v1 v2 v3 v4 w)(u:Value)(a:∀j,(w.setCell (O b 1) u).frozen? (O b j)=false):qR b v0 u v2 v3 v4 (w.setCell (O b 1) u) :=
 ⟨(aT (υ V)).trans h.c0,bV h.c1,(aT (υ V)).trans h.c2,(aT (υ V)).trans h.c3,(aT (υ V)).trans h.c4,a⟩
def Sj(r a:Int)(w:World)(h:r<1\/6<r\/a<0\/50<a):Calls prog 44 #[I r,I a] w λe b=>e=.returned (.pointer none)/\b=w:=by
 have c:(decide (r<1)||decide (6<r)||decide (a<0)||decide (50<a))=true:=Θ
 go_enter func44,ntmps44;go_wp2;all_goals first|(go_ret;exact⟨rfl,rfl⟩)|(exfalso;omega)
