import Derived.Maps.Ext
import Derived.Test.YtfmmllpjgkgeaabGreatDoorZ03
import Derived.Test.YtfmmllpjgkgeaabGreatDoorZ07
set_option linter.all false
set_option maxHeartbeats 0
set_option maxRecDepth 100000
namespace Go.Proofs.YtfmmllpjgkgeaabGreatDoor
section
open Go.Proofs.Tryz Go.RowKit
def iL(e:Int)(w:World):Calls prog 24 #[I e] w λr a=>r=.returned (I e)/\a=w:=by go_enter func24,ntmps24;go_wp2;go_ret;exact⟨rfl,rfl⟩
def Thk.vT(c:UInt8):Bool:=Thk.isLow c||Thk.dR c
def Thk.word(p:UInt8->Bool)(m:Nat)(l:Thk.Bs):Bool:=decide (1<=l.length)&&decide (l.length<=m)&&l.all p
def mG(c:UInt8)(w:World):Calls prog 147 #[.int .u8 (c.toNat:Int)] w λe a=>e=.returned (.bool (Thk.isLow c))/\a=w:=by
 go_enter func147,ntmps147;go_wp2;all_goals
  go_ret;refine⟨bC ?_,rfl⟩;unfold Thk.isLow;rw[Bool.eq_iff_iff];simp;try omega
def vw(c:UInt8)(w:World):Calls prog 136 #[.int .u8 (c.toNat:Int)] w λe b=>e=.returned (.bool (Thk.isLow c||Thk.dR c))/\b=w:=by
 cases hl:Thk.isLow c
 .have a:J<|_:=hl;have d:¬(97<=c.toNat/\c.toNat<=122):=by unfold Thk.isLow at hl;simp at hl;omega
  clear hl;go_enter func136,ntmps136;go_wp2_with (go_at_call 147;refine(mG _ _).mono ?_;rintro e b⟨rfl,rfl⟩;rw[a.o]);all_goals
   go_ret;refine⟨bC ?_,rfl⟩;unfold Thk.dR;rw[Bool.eq_iff_iff];simp;try omega
 .have a:J<|_:=hl;clear hl;go_enter func136,ntmps136;go_wp2_with (go_at_call 147;refine(mG _ _).mono ?_;rintro e b⟨rfl,rfl⟩;rw[a.o]);go_ret;exact⟨bC rfl,rfl⟩
def F6(c:UInt8)(w:World):Calls prog 136 #[.int .u8 (c.toNat:Int)] w λe a=>e=.returned (.bool (Thk.vT c))/\a=w:=vw c w
def rQ(p:UInt8->Bool)(l:Thk.Bs)(m:Nat)(h:l.length<1\/m<l.length):Thk.word p m l=false:=by
 unfold Thk.word;rcases h with h|h
 .have:decide (1<=l.length)=false:=by rw[decide_eq_false_iff_not];omega
  rw[this];(first|done|rfl)
 .have:decide (l.length<=m)=false:=by rw[decide_eq_false_iff_not];omega
  rw[this];simp
def vU(p:UInt8->Bool)(s:ByteArray)(m k:Nat)(a:k<s.size)(h:p s[k]=false):Thk.word p m (ay s)=false:=by
 have:(ay s).all p=false:=by rw[List.all_eq_false];refine⟨(ay s)[k]'(by rw[aB];exact a),κ _, ?_⟩;rw[kE s k a,h];simp
 unfold Thk.word;rw[this];simp
def F7(p:UInt8->Bool)(s:ByteArray)(m:Nat)(b:1<=s.size)(c:s.size<=m)(h:∀j(e:j<s.size),p s[j]=true):Thk.word p m (ay s)=true:=by
 have:(ay s).all p=true:=by rw[List.all_eq_true];intro x d;obtain⟨i,a,rfl⟩:=ϑd d;rw[aB]at a;rw[kE s i a];exact h i a
 unfold Thk.word;rw[this,aB];simp[b,c]
def CP(s:ByteArray)(m:Nat)(w:World)(t:s.size<=1048576)(r:m<=100):Calls prog 135 #[.string s,I m,.func (.func 147) #[] #[]] w λe g=>e=.returned (.bool (Thk.word Thk.isLow m (ay s)))/\g=w:=by
 by_cases d:s.size<1\/m<s.size
 .have b:J<|Thk.word Thk.isLow m (ay s)=false:=rQ _ _ _ (by rw[aB];exact d);rcases d with d|d
  all_goals
   go_enter func135,ntmps135;go_wp2;all_goals first|(go_ret;exact⟨bC b.o.symm,rfl⟩)|(exfalso;omega)
 .have o:¬s.size<1:=V
  have p:¬m<s.size:=V
  clear d;go_enter func135,ntmps135;go_wp2
  go_loop [19] (λi=>∃k:Nat,k<=s.size/\i=I k/\J (∀j(c:j<s.size),j<k->Thk.isLow s[j]=true)) (λi=>s.size-(intOf i).toNat)
  case atStart=>exact⟨0,V,rfl,λj _ l=>V⟩
  case round =>
   obtain⟨k,q,rfl,a⟩:=hrel;by_cases n:k<s.size
   .cases hp:Thk.isLow s[k]
    .have b:=ω<|vU _ s m k n hp
     have f:J<|_:=hp;clear hp a;go_wp2_with (go_at_call 147;refine(mG _ _).mono ?_;rintro e g⟨rfl,rfl⟩;rw[f.o]);go_ret;exact⟨bC b.o.symm,rfl⟩
    .have h:J<|∀j(c:j<s.size),j<k+1->Thk.isLow s[j]=true:=by
      intro j c l;by_cases e:j=k
      .subst e;exact hp
      .exact a.o j c V
     have f:J<|_:=hp;clear hp a;go_wp2_with (go_at_call 147;refine(mG _ _).mono ?_;rintro e g⟨rfl,rfl⟩;rw[f.o])
     go_round
     case rel=>exact⟨k+1,V,Λ,h⟩
     case measure=>simp[intOf];omega
   .have b:J<|Thk.word Thk.isLow m (ay s)=true:=F7 _ s m V V (λj c=>a.o j c V);clear a;go_wp2;go_ret;exact⟨bC b.o.symm,rfl⟩
def Iw(s:ByteArray)(m:Nat)(w:World)(t:s.size<=1048576)(r:m<=100):Calls prog 135 #[.string s,I m,.func (.func 136) #[] #[]] w λe g=>e=.returned (.bool (Thk.word Thk.vT m (ay s)))/\g=w:=by
 by_cases d:s.size<1\/m<s.size
 .have b:J<|Thk.word Thk.vT m (ay s)=false:=rQ _ _ _ (by rw[aB];exact d);rcases d with d|d
  all_goals
   go_enter func135,ntmps135;go_wp2;all_goals first|(go_ret;exact⟨bC b.o.symm,rfl⟩)|(exfalso;omega)
 .have o:¬s.size<1:=V
  have p:¬m<s.size:=V
  clear d;go_enter func135,ntmps135;go_wp2
  go_loop [19] (λi=>∃k:Nat,k<=s.size/\i=I k/\J (∀j(c:j<s.size),j<k->Thk.vT s[j]=true)) (λi=>s.size-(intOf i).toNat)
  case atStart=>exact⟨0,V,rfl,λj _ l=>V⟩
  case round =>
   obtain⟨k,q,rfl,a⟩:=hrel;by_cases n:k<s.size
   .cases hp:Thk.vT s[k]
    .have b:=ω<|vU _ s m k n hp
     have f:J<|_:=hp;clear hp a;go_wp2_with (go_at_call 136;refine(F6 _ _).mono ?_;rintro e g⟨rfl,rfl⟩;rw[f.o]);go_ret;exact⟨bC b.o.symm,rfl⟩
    .have h:J<|∀j(c:j<s.size),j<k+1->Thk.vT s[j]=true:=by
      intro j c l;by_cases e:j=k
      .subst e;exact hp
      .exact a.o j c V
     have f:J<|_:=hp;clear hp a;go_wp2_with (go_at_call 136;refine(F6 _ _).mono ?_;rintro e g⟨rfl,rfl⟩;rw[f.o])
     go_round
     case rel=>exact⟨k+1,V,Λ,h⟩
     case measure=>simp[intOf];omega
   .have b:J<|Thk.word Thk.vT m (ay s)=true:=F7 _ s m V V (λj c=>a.o j c V);clear a;go_wp2;go_ret;exact⟨bC b.o.symm,rfl⟩
def index_ge(l:Thk.Bs)(c:UInt8):-1<=Lib.indexByte l c:=by
 induction l with
 | nil=>simp[Lib.indexByte]
 | cons b r a=>unfold Lib.indexByte;split;omega;split;omega;omega
def F8(l:Thk.Bs)(c:UInt8):(0<=Lib.indexByte l c)↔c∈l:=by
 induction l with
 | nil=>simp[Lib.indexByte]
 | cons b r ih =>
  have e:=index_ge r c;unfold Lib.indexByte;by_cases h:b=c
  .simp[h]
  .rw[ύ (by simpa using h)];by_cases a:Lib.indexByte r c = -1
   .rw[ώ (by simpa using a)];have:¬c∈r:=λd=>by have:=ih.2 d;omega
    simp[this,Ne.symm h]
   .rw[ύ (by simpa using a)];have:c∈r:=ih.1 V;simp[this];omega
def byte_back(c:UInt8):((c.toNat:Int).toNat.toUInt8)=c:=Ω
def SC(c:UInt8):c∈([115,102,114,99,109]:Thk.Bs)↔Thk.isKind c=true:=by
 have key:∀n:Nat,n<256->(c=UInt8.ofNat n↔c.toNat=n):=λn g=>by
  constructor
  .intro h;rw[h];simp;omega
  .intro h;rw[<- h];simp
 unfold Thk.isKind;simp only[ϑL,List.mem_nil_iff,ϑO,ϑw,ϑt];have a:=key 115 V;have b:=key 102 V;have d:=key 114 V;have e:=key 99 V;have f:=key 109 V;constructor
 .rintro(h|h|h|h|h)
  .left;left;left;left;exact a.1 h
  .left;left;left;right;exact b.1 h
  .left;left;right;exact d.1 h
  .left;right;exact e.1 h
  .right;exact f.1 h
 .rintro((((h|h)|h)|h)|h)
  .left;exact a.2 h
  .right;left;exact b.2 h
  .right;right;left;exact d.2 h
  .right;right;right;left;exact e.2 h
  .right;right;right;right;exact f.2 h
def VX(s:ByteArray)(h:0<s.size):Thk.seg (ay s)=(Thk.isKind s[0]&&Thk.word Thk.isLow 4 (ay (s.extract 1 s.size))):=by
 have e:ay (s.extract 1 s.size)=(ay s).tail:=by rw[fU,<- aB s,ϑm,List.drop_one]
 unfold Thk.seg Thk.word;rw[e,oP s h];rw[Bool.eq_iff_iff];simp only[γ,ϑs,List.length_tail,Option.map_some,Option.getD_some];constructor
 .rintro⟨⟨⟨a,b⟩,c⟩,d⟩;exact⟨d,⟨V,V⟩,c⟩
 .rintro⟨d,⟨a,b⟩,c⟩;exact⟨⟨⟨V,V⟩,c⟩,d⟩
def lG(s:ByteArray)(w:World)(o:s.size<=1048576):Calls prog 85 #[.string s] w λe a=>e=.returned (.bool (Thk.seg (ay s)))/\a=w:=by
 by_cases g:s.size=0
 .have b:J<|Thk.seg (ay s)=false:=Thk.vJ _ (by rw[aB];omega);have j:s.toList.isEmpty=true:=by rw[toList_eq];rw[List.isEmpty_iff];apply ϑr;simpa using g
  go_enter func85,ntmps85;go_wp2;go_ret;exact⟨bC b.o.symm,rfl⟩
 .have k:0<s.size:=V
  have j:s.toList.isEmpty=false:=by rw[toList_eq,List.isEmpty_eq_false_iff];intro h;apply g;have:=congrArg List.length h;simpa using this
  have c:J<|_:=VX s k;have i:J<|(0<=Lib.indexByte [115,102,114,99,109] s[0])↔Thk.isKind s[0]=true:=(F8 _ _).trans (SC _);have f:J<|∀d,Calls prog 72 #[.string ⟨#[115,102,114,99,109]⟩,.int .u8 (s[0].toNat:Int)] d λe a=>e=.returned (I (Lib.indexByte [115,102,114,99,109] s[0]))/\a=d:=by intro d;refine(Tryz.strings_IndexByte ⟨#[115,102,114,99,109]⟩ (s[0].toNat:Int) d).mono ?_;rintro e a⟨rfl,rfl⟩;rw[byte_back];exact⟨rfl,rfl⟩
  cases hk:Thk.isKind s[0]
  .have b:J<|Thk.seg (ay s)=false:=ω<|by rw[c.o,hk];(first|done|rfl)
   have m:¬0<=Lib.indexByte [115,102,114,99,109] s[0]:=λh=>by have:=i.o.1 h;rw[hk]at this;cases this
   generalize Lib.indexByte [115,102,114,99,109] s[0]=l at *;clear hk c;go_enter func85,ntmps85;go_wp2_with (go_at_call 72;refine(f.o _).mono ?_;rintro e a⟨rfl,rfl⟩);all_goals
    go_ret;exact⟨bC b.o.symm,rfl⟩
  .have n:=i.o.2 hk;have b:J<|Thk.seg (ay s)=Thk.word Thk.isLow 4 (ay (s.extract 1 s.size)):=ω<|by rw[c.o,hk];(first|done|rfl)
   generalize Lib.indexByte [115,102,114,99,109] s[0]=l at *;clear hk c;go_enter func85,ntmps85;go_wp2_with (first|(go_at_call 72;refine(f.o _).mono ?_;rintro e a⟨rfl,rfl⟩)|(go_at_call 135;refine(CP (s.extract 1 s.size) 4 _ (by simp[ϑo];omega) V).mono ?_;rintro e a⟨rfl,rfl⟩));all_goals
    go_ret;exact⟨bC b.o.symm,rfl⟩
def Bo(b:UInt8)(l:Thk.Bs)(c:UInt8):Lib.indexByte (b::l) c=if b==c then 0 else if Lib.indexByte l c==-1 then -1 else Lib.indexByte l c+1:=rfl
def rU(c:UInt8):∀(l a:Thk.Bs),Thk.bQ c a l=if Lib.indexByte l c = -1 then [a++l] else(a++l.take (Lib.indexByte l c).toNat)::Thk.split c (l.drop ((Lib.indexByte l c).toNat+1)):=by
 intro l;induction l with
 | nil=>intro a;simp[Thk.bQ,Lib.indexByte]
 | cons x r ih =>
  intro a;have f:=index_ge r c;by_cases h:x=c
  .subst h;rw[Thk.nV];have e:Lib.indexByte (x::r) x=0:=by rw[Bo];simp
   rw[e];simp[Thk.split]
  .rw[Thk.qX _ _ _ _ h,ih (a++[x])];by_cases b:Lib.indexByte r c = -1
   .have e:Lib.indexByte (x::r) c = -1:=by rw[Bo,ύ (by simpa using h),ώ (by simpa using b)]
    rw[ώ b,ώ e];simp
   .have e:Lib.indexByte (x::r) c=Lib.indexByte r c+1:=by rw[Bo,ύ (by simpa using h),ύ (by simpa using b)]
    rw[ύ b,ύ (by rw[e];omega),e];have d:(Lib.indexByte r c+1).toNat=(Lib.indexByte r c).toNat+1:=V
    rw[d];simp
def rV(c:UInt8)(l:Thk.Bs):Thk.split c l=if Lib.indexByte l c = -1 then [l]else l.take (Lib.indexByte l c).toNat::Thk.split c (l.drop ((Lib.indexByte l c).toNat+1)):=by have:=rU c l [];simpa[Thk.split]using this
def Iy(c:UInt8):∀(k:Nat)(l:Thk.Bs),((Thk.split c l).length<=k+1->Lib.splitK [c] 0 k l=Thk.split c l)/\(k+1<(Thk.split c l).length->(Lib.splitK [c] 0 k l).length=k+1):=by
 intro k;induction k with
 | zero =>
  intro l;refine⟨λh=>?_,λ_=>rfl⟩;rw[rV]at h⊢;by_cases d:Lib.indexByte l c = -1
  .rw[ώ d];(first|done|rfl)
  .rw[ύ d]at h;have:=List.length_pos_iff.2 (Thk.kC c (l.drop ((Lib.indexByte l c).toNat+1)));simp only[δ]at h;omega
 | succ k ih =>
  intro l;obtain⟨a,b⟩:=ih (l.drop ((Lib.indexByte l c).toNat+1));unfold Lib.splitK;rw[Lib.index_one,rV];by_cases d:Lib.indexByte l c = -1
  .rw[ώ d,ώ (by simpa using d)];exact⟨λ_=>rfl,λh=>by simp at h⟩
  .rw[ύ d,ύ (by simpa using d)];simp only[δ,Nat.add_zero,List.length_nil,Nat.zero_add];exact⟨λh=>by rw[a V],λh=>by rw[b V]⟩
def Kz(s:ByteArray)(c:List ByteArray)(i:c=Lib.splitB ⟨#[47]⟩ 0 (min 4 (s.size+1)-1) s):(c.length<=3->c.map ay=Thk.split 47 (ay s))/\(3<c.length->Thk.path (ay s)=false)/\c.length<=4/\c≠[]:=by
 have d:c.map ay=Lib.splitK [47] 0 (min 4 (s.size+1)-1) (ay s):=by rw[i];exact Lib.splitB_data ⟨#[47]⟩ 0 _ s
 have k:(Thk.split 47 (ay s)).length<=s.size+1:=by have:=Thk.xK 47 (ay s) [];rw[aB]at this;unfold Thk.split;simp at this;omega
 obtain⟨a,b⟩:=Iy 47 (min 4 (s.size+1)-1) (ay s);have m:c.length<=min 4 (s.size+1)-1+1:=by rw[i];exact Lib.splitB_length_le _ _ _ _
 have e:c.length=(Lib.splitK [47] 0 (min 4 (s.size+1)-1) (ay s)).length:=by rw[<- d,ϑh]
 have g:∀l:Thk.Bs,3<(Thk.split 47 l).length->Thk.path l=false:=by
  intro l h;unfold Thk.path Thk.lY;have:decide ((Thk.split 47 l).length<=3)=false:=by rw[decide_eq_false_iff_not];omega
  rw[this];(first|done|rfl)
 by_cases j:(Thk.split 47 (ay s)).length<=min 4 (s.size+1)-1+1
 .have f:=a j;rw[f]at d e;refine⟨λ_=>d,λh=>g _ V,V, ?_⟩;intro h;rw[h]at d;exact Thk.kC 47 (ay s) d.symm
 .have f:=b V;rw[f]at e;refine⟨λh=>V,λ_=>g _ V,V, ?_⟩;intro h;rw[h]at e;simp at e
def ab9(b:Bool)(s:ByteArray):ByteArray:=match b with|true=>s|false=>⟨#[]⟩
def Iz(c:ByteArray)(b:Nat):∀(k:Nat)(s:ByteArray),∀p∈_root_.Go.Lib.splitB c b k s,p.size<=s.size:=by
 intro k;induction k with
 | zero=>intro s p a;simp[_root_.Go.Lib.splitB]at a;rw[a];exact χ _
 | succ k ih =>
  intro s p a;unfold _root_.Go.Lib.splitB at a;split at a
  .simp at a;rw[a];exact χ _
  .rcases ϑL.1 a with h|h
   .rw[h];simp[ϑo];omega
   .have:=ih _ p h;simp[ϑo]at this;omega
def xX(s:ByteArray)(m:Int)(w:World)(hs:s.size<=1048576)(c:w.cell? (z 0)=some (I m)):Calls prog 36 #[.string s] w λe w'=>e=.returned (.tuple #[.string (ab9 (Thk.path (ay s)) s),.bool (Thk.path (ay s))])/\ϒ w w':=by
 have F:J<|_:=Tryz.strings_SplitN s ⟨#[47]⟩ 4 m w V c Ψ V V;obtain⟨a,n⟩:∃a,a=Lib.splitB ⟨#[47]⟩ 0 (min 4 (s.size+1)-1) s:=⟨_,rfl⟩;obtain⟨C,D,Q,H⟩:=Kz s a n;clear c;go_enter func36,ntmps36;go_wp2_with fail;refine ψ F.o ?_;rw[<- n];rintro e R⟨rfl,rfl⟩;have r:ϒ w (w.alloc (.cells (Lib.cellsOf a (min 4 (s.size+1))) 9)):=(φ _ _).alloc (χ _) _;have P:J<|∀j(h:j<a.length),(w.alloc (.cells (Lib.cellsOf a (min 4 (s.size+1))) 9)).cell? (O w.heap.size j)=some (.string a[j]):=by
  intro j h;have:(Lib.cellsOf a (min 4 (s.size+1)))[j]?=some (.string a[j]):=by unfold Lib.cellsOf;simp only[List.getElem?_toArray];rw[ε (by simpa using h),ϑG,σ h];(first|done|rfl)
  simpa using this
 have K:J<|∀B∈a,B.size<=1048576:=by intro B N;have p:=Iz ⟨#[47]⟩ 0 (min 4 (s.size+1)-1) s B (by rw[<- n];exact N);omega
 have T:a.length<=min 4 (s.size+1):=by have:=Lib.splitB_length_le ⟨#[47]⟩ 0 (min 4 (s.size+1)-1) s;rw[<- n]at this;omega
 clear F n;generalize w.alloc (.cells (Lib.cellsOf a (min 4 (s.size+1))) 9)=R at *;generalize min 4 (s.size+1)=S at *;by_cases L:3<a.length
 .have d:=ω<|D L
  clear C D;go_wp2;go_ret2;exact⟨by rw[d.o];rfl,r⟩
 .have t:J<|Thk.path (ay s)=Thk.lY (a.map ay):=by unfold J Thk.path;rw[C V]
  have X:=List.length_pos_iff.2 H;clear C D Q H;go_wp2
  go_loop [18] (λA=>∃k:Nat,k<=a.length/\A=I k/\J (∀j(h:j<a.length),j<k->Thk.seg (ay a[j])=true/\(j+1<a.length->(ay a[j]).head? = some 109))) (λA=>a.length-(intOf A).toNat)
  case atStart=>exact⟨0,V,rfl,λj _ b=>V⟩
  case round =>
   obtain⟨k,W,rfl,i⟩:=hrel;by_cases y:k<a.length
   .have U:=P.o k y;have Z:=K.o _ (κ y);have u:J<|Thk.seg (ay a[k])=true->(k+1<a.length->(ay a[k]).head? = some 109)->∀j(h:j<a.length),j<k+1->Thk.seg (ay a[j])=true/\(j+1<a.length->(ay a[j]).head? = some 109):=by
     intro p x j h b;by_cases e:j=k
     .subst e;exact⟨p,x⟩
     .exact i.o j h V
    have v:J<|Thk.seg (ay a[k])=false->Thk.lY (a.map ay)=false:=λh=>Thk.qH _ k (by simpa using y) (by simpa using h);have f:J<|k+1<a.length->((ay a[k]).head?==some 109)=false->Thk.lY (a.map ay)=false:=λp h=>Thk.qI _ k (by simpa using p) (by simpa using h);clear i;generalize a[k]=q at *;cases hseg:Thk.seg (ay q)
    .have d:=ω<|t.o.trans (v.o hseg)
     have o:J<|_:=hseg;clear hseg u v f;go_wp2_with (go_at_call 85;refine(lG q _ V).mono ?_;rintro e w'⟨rfl,rfl⟩;rw[o.o]);go_ret2;exact⟨by rw[d.o];rfl,r⟩
    .have Y:2<=q.size:=by have:=Thk.Ig _ hseg;rwa [aB]at this
     have o:J<|_:=hseg;have g:J<|_:=u.o hseg;clear hseg u v;have l:=oP q V;by_cases G:k+1<a.length
     .by_cases c:q[0]=109
      .have E:J<|_:=g.o (λ_=>by rw[l,c]);have M:((q[0].toNat:Int) !=109)=false:=by rw[c];(first|done|rfl)
       clear f g l c;go_wp2_with (go_at_call 85;refine(lG q _ V).mono ?_;rintro e w'⟨rfl,rfl⟩;rw[o.o])
       go_round
       case rel=>exact⟨k+1,V,Λ,E⟩
       case measure=>simp[intOf];omega
      .have d:J<|Thk.path (ay s)=false:=t.o.trans (f.o G (by rw[l];simpa using c));have M:((q[0].toNat:Int) !=109)=true:=by rw[ϑv];intro h;apply c;apply UInt8.toNat_inj.1;have:(109:UInt8).toNat=109:=rfl;omega
       clear f g l c;go_wp2_with (go_at_call 85;refine(lG q _ V).mono ?_;rintro e w'⟨rfl,rfl⟩;rw[o.o]);go_ret2;exact⟨by rw[d.o];rfl,r⟩
     .have E:J<|_:=g.o (λh=>absurd h G);clear f g l;go_wp2_with (go_at_call 85;refine(lG q _ V).mono ?_;rintro e w'⟨rfl,rfl⟩;rw[o.o])
      go_round
      case rel=>exact⟨k+1,V,Λ,E⟩
      case measure=>simp[intOf];omega
   .have d:J<|Thk.path (ay s)=true:=by
     refine t.o.trans ((Thk.JM _ (λj h=>?_) (λj h x=>?_)).trans Θ)
     .simp only[ϑI];exact(i.o j (by simpa using h) (by simp at h;omega)).1
     .simp only[ϑI];exact(i.o j (by simpa using h) (by simp at h;omega)).2 (by simpa using x)
    clear i;go_wp2;go_ret2;exact⟨by rw[d.o];rfl,r⟩
def vV(c:UInt8)(l a:Thk.Bs)(h:¬c∈l):Thk.bQ c a l=[a++l]:=by rw[rU,ώ];have b:=index_ge l c;have d:=(not_congr (F8 l c)).2 h;omega
def E8(c:UInt8):∀(l b:Thk.Bs)(i:Nat),l[i]?=some c->(∀j,i<j->l[j]?≠some c)->(Thk.bQ c b l).getLast? = some (l.drop (i+1)):=by
 intro l;induction l with
 | nil=>intro b i h;simp at h
 | cons x r ih =>
  intro b i d f;cases i with
  | zero =>
   have a:x=c:=by simpa using d
   subst a;have o:¬x∈r:=λn=>by obtain⟨j,k,m⟩:=ϑd n;exact f (j+1) V (by simp[σ k,m])
   rw[Thk.nV,vV _ _ _ o];simp
  | succ i =>
   have e:r[i]?=some c:=by simpa using d
   have g:∀j,i<j->r[j]?≠some c:=λj h=>by have:=f (j+1) V;simpa using this
   by_cases a:x=c
   .subst a;rw[Thk.nV,List.getLast?_cons,ih [] i e g];simp
   .rw[Thk.qX _ _ _ _ a,ih _ i e g];simp
def CQ(s:ByteArray)(j:Nat)(h:j<s.size):s.data[j]! = s[j]:=by rw[getElem!_pos s.data j h];(first|done|rfl)
def Ze(s:ByteArray)(v:Thk.path (ay s)=true):∃k:Nat,Lib.lastIndexByte s 47+1=(k:Int)/\∃h:k<s.size,s[k]=Thk.kindOf (ay s):=by
 obtain⟨w,n,c⟩:=Thk.FN _ v;have r:(Thk.split 47 (ay s)).getLast? = some ((Thk.split 47 (ay s))[(Thk.split 47 (ay s)).length-1]'V):=by rw[List.getLast?_eq_getElem?,σ]
 have key:∀k:Nat,(Thk.split 47 (ay s)).getLast? = some ((ay s).drop k)->∃h:k<s.size,s[k]=Thk.kindOf (ay s):=by
  intro k g;rw[r]at g;simp only[ϑb]at g;rw[g]at n c;simp only[List.length_drop,aB]at n;have l:k<s.size:=V
  refine⟨l, ?_⟩;rw[List.getElem?_drop,Nat.add_zero,σ (by rw[aB];exact l),kE s k l]at c;simpa using c
 rcases Lib.lastIdx_spec s 47 s.size with⟨d,m⟩|⟨i,f,d,o,m⟩
 .refine⟨0,by unfold Lib.lastIndexByte;rw[d];rfl,key 0 ?_⟩;have u:¬(47:UInt8)∈ay s:=λt=>by obtain⟨j,a,q⟩:=ϑd t;rw[aB]at a;have:=m j a;rw[CQ s j a,<- kE s j a,q]at this;exact this rfl
  unfold Thk.split;rw[vV _ _ _ u];simp
 .refine⟨i+1,by unfold Lib.lastIndexByte;rw[d];omega,key (i+1) ?_⟩;unfold Thk.split;apply E8
  .rw[σ (by rw[aB];exact f),kE s i f];rw[CQ s i f]at o;congr 1;apply UInt8.toNat_inj.1;have:(47:UInt8).toNat=47:=rfl;omega
  .intro j p e;have b:j<s.size:=by
    rcases Nat.lt_or_ge j s.size with h|h
    .exact h
    .rw[ϑq (by rw[aB];exact h)]at e;cases e
   rw[σ (by rw[aB];exact b),kE s j b]at e;have:=m j p b;rw[CQ s j b]at this;simp only[ϑb]at e;rw[e]at this;exact this rfl
def KA(s:ByteArray)(w:World)(m:s.size<=1048576)(g:Thk.path (ay s)=true):Calls prog 74 #[.string s] w λe h=>e=.returned (.int .u8 ((Thk.kindOf (ay s)).toNat:Int))/\h=w:=by
 obtain⟨k,d,l,f⟩:=Ze s g;have j:J<|_:=Tryz.strings_LastIndexByte s 47 V w;obtain⟨b,a⟩:∃b,b=Lib.lastIndexByte s 47:=⟨_,rfl⟩;rw[<- a]at d;have c:b=(k:Int)-1:=V
 have i:J<|_:=f;clear f d g;go_enter func74,ntmps74;go_wp2_with fail;refine ψ j.o ?_;rintro e h⟨rfl,rfl⟩;rw[<- a,c];clear a c;go_wp2;go_ret;exact⟨Ii (by rw[i.o]),rfl⟩
def rW(k:UInt8):Thk.Bs:=if(k.toNat:Int)=115 then [43,45,33]else if(k.toNat:Int)=102 then [94,95,33]else if(k.toNat:Int)=114 then [61,33]else if(k.toNat:Int)=99 then [62,33]else [33]
def Fa(k:UInt8)(w:World):Calls prog 73 #[.int .u8 (k.toNat:Int)] w λe a=>∃t,e=.returned (.string t)/\ay t=rW k/\a=w:=by
 go_enter func73,ntmps73;go_wp2;all_goals
  go_ret;refine⟨_,rfl, ?_,rfl⟩;simp only[ϑt,ό]at *;unfold rW;simp[*];try rfl
def xY(p:ByteArray)(a:UInt8)(v:ByteArray)(n:Int)(w:World):Calls prog 81 #[.agg #[.string p,.int .u8 (a.toNat:Int),.string v,I n]] w λe w'=>e=.returned (.bool (jq a))/\ϒ w w':=by
 go_enter func81,ntmps81;go_wp2;all_goals
  go_ret;refine⟨bC ?_,(φ _ _).alloc (χ _) _⟩;simp only[ϑt,ό]at *;unfold jq;rw[Bool.eq_iff_iff];simp;try omega
def vW(l p:Thk.Bs):Thk.begins l p=(l==p||(p++[47]).isPrefixOf l):=by
 unfold Thk.begins;cases h:(l==p)
 .simp only[Bool.false_or];rw[Bool.eq_iff_iff];simp only[γ,ϑs,ϑt,List.isPrefixOf_iff_prefix];constructor
  .rintro⟨⟨a,c⟩,b⟩;rw[σ a]at b;have d:l[p.length]=47:=by apply UInt8.toNat_inj.1;simpa using b
   refine⟨l.drop (p.length+1), ?_⟩
   conv=>rhs;rw[<- List.take_append_drop p.length l,c,List.drop_eq_getElem_cons a,d]
   simp
  .rintro⟨t,rfl⟩;simp
 .rfl
def jM(p l:Thk.Bs):Thk.Bs:=(Thk.split 47 (l.drop (p.length+1))).headD []
def VY(l:Thk.Bs):(Lib.cut l [47]).1=(Thk.split 47 l).headD []:=by
 unfold Lib.cut;rw[Lib.index_one,rV];have a:=index_ge l 47;by_cases h:Lib.indexByte l 47 = -1
 .rw[ύ (by rw[h];omega),ώ h];(first|done|rfl)
 .rw[ώ V,ύ h];(first|done|rfl)
def KC(p l:ByteArray)(m:Int)(w:World)(y:p.size<=1048576)(x:l.size<=1048576)(f:w.cell? (z 0)=some (I m)):Calls prog 212 #[.string p,.string l] w λe w'=>∃t,e=.returned (.tuple #[.string t,.bool ((ay p++[47]).isPrefixOf (ay l))])/\((ay p++[47]).isPrefixOf (ay l)=true->ay t=jM (ay p) (ay l))/\t.size<=l.size/\ϒ w w':=by
 have g:J<|_:=Tryz.strings_CutPrefix l (p++⟨#[47]⟩) w;have a:(p++⟨#[47]⟩:ByteArray).data.toList=ay p++[47]:=kR p ⟨#[47]⟩;have B:p.size+1<=9223372036854775807:=V
 cases hx:(ay p++[47]).isPrefixOf (ay l)
 .have b:J<|Lib.hasPrefix l.data.toList (p++⟨#[47]⟩:ByteArray).data.toList=false:=by unfold J Lib.hasPrefix;rw[a];exact hx
  clear hx f a;go_enter func212,ntmps212;go_wp2_with fail;refine ψ g.o ?_;rw[b.o];rintro e w'⟨rfl,rfl⟩;go_wp2;go_ret2;exact⟨ByteArray.empty,rfl,(λr=>by cases r),Nat.zero_le _,φ _ _⟩
 .have b:J<|Lib.hasPrefix l.data.toList (p++⟨#[47]⟩:ByteArray).data.toList=true:=by unfold J Lib.hasPrefix;rw[a];exact hx
  have u:J<|Lib.trimPrefix l.data.toList (p++⟨#[47]⟩:ByteArray).data.toList=(ay l).drop (p.size+1):=by unfold J Lib.trimPrefix;rw[b.o,ώ rfl,a];congr 1;simp[aB]
  obtain⟨q,c⟩:∃q:ByteArray,q=⟨((ay l).drop (p.size+1)).toArray⟩:=⟨_,rfl⟩;have A:q.size<=l.size:=by
   have:q.size=((ay l).drop (p.size+1)).length:=by rw[c];(first|done|rfl)
   rw[this,List.length_drop,aB];omega
  have i:J<|_:=Tryz.strings_Cut q ⟨#[47]⟩ m w V f;have j:J<|ay q=(ay l).drop (p.size+1):=ω<|by rw[c];(first|done|rfl)
  obtain⟨t,d⟩:∃t:ByteArray,t=⟨(Lib.cut q.data.toList [47]).1.toArray⟩:=⟨_,rfl⟩;have k:J<|ay t=jM (ay p) (ay l):=by
   have h:ay t=(Lib.cut (ay q) [47]).1:=by rw[d];(first|done|rfl)
   unfold J jM;rw[h,VY,j.o,aB]
  have o:J<|t.size<=l.size:=by
   unfold J;have h:t.size=(Lib.cut (ay q) [47]).1.length:=by rw[d];(first|done|rfl)
   have s:(Lib.cut (ay q) [47]).1.length<=(ay q).length:=by
    unfold Lib.cut;split
    .simp;omega
    .simp
   rw[aB]at s;omega
  clear hx f a;go_enter func212,ntmps212;go_wp2_with fail;refine ψ g.o ?_;rw[b.o,u.o,<- c];rintro e w'⟨rfl,v⟩;subst v;clear c;go_wp2_with fail;refine ψ i.o ?_;rintro e C⟨rfl,n,rfl⟩;rw[<- d];clear d;go_wp2;go_ret2;exact⟨t,rfl,(λ_=>k.o),o.o,below_drewN (φ _ _) _⟩
def SG(p l:ByteArray)(m:Int)(w:World)(h:p.size<=1048576)(g:l.size<=1048576)(f:w.cell? (z 0)=some (I m)):Calls prog 199 #[.string p,.string l] w λe w'=>e=.returned (.bool (Thk.begins (ay l) (ay p)))/\ϒ w w':=by
 have Hs:J<|_:=KC p l m w h g f;have b:J<|Thk.begins (ay l) (ay p)=((ay p==ay l)||(ay p++[47]).isPrefixOf (ay l)):=ω<|by rw[vW];congr 1;rw[Bool.eq_iff_iff];simp;exact eq_comm
 clear f;go_enter func199,ntmps199;go_wp2_with fail;refine ψ Hs.o ?_;rintro e i⟨t,rfl,_,_,d⟩;generalize (ay p++[47]).isPrefixOf (ay l)=x at *;cases heq:(p.toList==l.toList)
 .have a:(ay p==ay l)=false:=by rw[toList_eq,toList_eq]at heq;exact heq
  have c:J<|Thk.begins (ay l) (ay p)=x:=ω<|by rw[b.o,a];(first|done|rfl)
  clear a b;go_wp2;go_ret;exact⟨bC c.o.symm,d⟩
 .have a:(ay p==ay l)=true:=by rw[toList_eq,toList_eq]at heq;exact heq
  have c:J<|Thk.begins (ay l) (ay p)=true:=ω<|by rw[b.o,a];(first|done|rfl)
  clear a b;go_wp2;go_ret;exact⟨bC c.o.symm,d⟩
def Oy(b g c i:ByteArray)(f a:UInt8)(j k:Int)(m:Int)(w:World)(l:b.size<=1048576)(n:c.size<=1048576)(d:w.cell? (z 0)=some (I m)):Calls prog 141 #[.agg #[.string b,.int .u8 (f.toNat:Int),.string g,I j],.agg #[.string c,.int .u8 (a.toNat:Int),.string i,I k]] w λh w'=>h=.returned (.bool (pI (ay b) f (ay g) (ay c) a (ay i)))/\ϒ w w':=by
 have q:J<|∀e,ϒ w e->e.cell? (z 0)=some (I m):=λe r=>(r.cell (p:=(z 0)) (block_lt_of_cell d)).trans d;clear d;go_enter func141,ntmps141;go_wp2_with (go_at_call 199;refine(SG b c m _ l n (q.o _ (((φ _ _).alloc (χ _) _).alloc Ω _))).mono ?_;rintro h v⟨rfl,o⟩)
 .go_ret;rename_i h33;refine⟨bC ?_,(((φ _ _).alloc (χ _) _).alloc Ω _).trans (o.mono Θ)⟩;unfold pI;rw[ώ (by simpa using h33)]
 all_goals
  go_ret;refine⟨bC ?_,((φ _ _).alloc (χ _) _).alloc Ω _⟩;simp only[toList_eq,Bool.not_eq_true',Bool.not_eq_false',ϑt,ό]at *;unfold pI;by_cases s:(a.toNat:Int)=43
  .simp_all [ay]
   try(rw[Bool.eq_iff_iff];simp only[ϑt];exact⟨Eq.symm,Eq.symm⟩)
  .by_cases t:(a.toNat:Int)=94
   .simp_all [ay]
   .by_cases u:(a.toNat:Int)=61
    .simp_all [ay]
    .simp_all [ay]
def CS{B:Nat}{a w:World}(h:Below B a w)(c:B<=w.heap.size)(b:Array Obj):Below B a (Sort.grow w b) :=
 h.trans ⟨rfl,rfl,rfl,by simp[Sort.grow],λk d=>by simp only[Sort.grow];rw[Array.getElem?_append_left V]⟩
def KD(l:List UInt8)(v:Int)(h:Lib.parseIntB 64 l=.ok v):-9223372036854775808<=v/\v<=9223372036854775807:=by
 unfold Lib.parseIntB at h;split at h
 .cases h
 .simp only at h;split at h
  .cases h
  .cases h
  .split at h
   .cases h
   .split at h
    .cases h
    .rename_i c r _ u hu n1 n2;simp only[Lib.NumEnd.ok.injEq]at h;simp at n1 n2;split at h
     .rename_i h45;have:=n2 h45;omega
     .rename_i h45;have:=n1 h45;omega
def CU(s:ByteArray)(w:World)(H:s.size<=1048576)(e:Glob w):Calls prog 137 #[.string s] w λf w'=>∃v,f=.returned (.tuple #[I v,.bool (Thk.num (ay s)).isSome])/\(∀n,Thk.num (ay s)=some n->v=n)/\ϒ w w':=by
 have a:Thk.num (ay s)=Thk.xP (ay s):=(Thk.Oi _).symm;unfold Thk.xP at a;cases hp:Lib.parseIntB 64 (ay s) with
 | ok v =>
  have A:=KD _ _ hp;have d:J<|_:=Tryz.strconv_ParseInt_10_at64_ok s V v hp w;rw[hp]at a;simp only at a;have D:=ω e;clear e hp;go_enter func137,ntmps137;go_wp2_with fail;refine ψ d.o ?_;rintro f j⟨rfl,B⟩;have l:J<|ϒ w j:=by
   rcases B with rfl|⟨K,rfl⟩
   .exact φ _ _
   .exact Lib.bytesWorld_below _ _ _
  clear B;have r:J<|_:=Tryz.strconv_FormatInt_10 v A.1 A.2 j (D.o.mono l.o).tab;go_wp2_with fail;refine ψ r.o ?_;rintro f G⟨rfl,C⟩;have t:J<|ϒ w G:=by obtain⟨k,F,rfl⟩:=C;exact CS (below_drewN l.o k) l.o.size F
  clear C d r;obtain⟨q,p⟩:∃q:ByteArray,q=⟨(Lib.itoa v).toArray⟩:=⟨_,rfl⟩;rw[<- p];have u:J<|ay q=Lib.itoa v:=by rw[p];(first|done|rfl)
  clear p;cases heq:(q.toList==s.toList)
  .have y:¬(Lib.itoa v=ay s):=by
    have g:(ay q==ay s)=false:=by rw[toList_eq,toList_eq]at heq;exact heq
    rw[u.o]at g;simpa using g
   have b:J<|Thk.num (ay s)=none:=ω<|by rw[a,ύ (λE=>y E.1)]
   clear a y;go_wp2;go_ret2;refine⟨0, ?_, ?_,t.o⟩
   .rw[b.o];(first|done|rfl)
   .intro n c;rw[b.o]at c;cases c
  .have x:Lib.itoa v=ay s:=by
    have g:(ay q==ay s)=true:=by rw[toList_eq,toList_eq]at heq;exact heq
    rw[u.o]at g;simpa using g
   have b:J<|Thk.num (ay s)=if -1000000000<=v/\v<=1000000000 then some v else none:=ω<|by rw[a];simp[x]
   clear a x;go_wp2;all_goals
    go_ret2;refine⟨v, ?_, ?_,t.o⟩
    .rw[b.o];split<;>simp_all<;>omega
    .intro n c;rw[b.o]at c;split at c<;>simp_all
 | range =>
  obtain⟨m,i,h⟩:=e.rng;have d:J<|_:=Tryz.strconv_ParseInt_10_at64_range s V hp m w i h;rw[hp]at a;have b:J<|Thk.num (ay s)=none:=a;clear e hp a i h;go_enter func137,ntmps137;go_wp2_with fail;refine ψ d.o ?_;rintro f j⟨N,rfl,_,_,o⟩;go_wp2;go_ret2;refine⟨0, ?_, ?_,o⟩
  .rw[b.o];(first|done|rfl)
  .intro n c;rw[b.o]at c;cases c
 | _ =>
  obtain⟨m,i,h⟩:=e.syn;have d:J<|_:=Tryz.strconv_ParseInt_10_at64_syntax s V hp m w i h;rw[hp]at a;have b:J<|Thk.num (ay s)=none:=a;clear e hp a i h;go_enter func137,ntmps137;go_wp2_with fail;refine ψ d.o ?_;rintro f j⟨N,rfl,_,_,o⟩;go_wp2;go_ret2;refine⟨0, ?_, ?_,o⟩
  .rw[b.o];(first|done|rfl)
  .intro n c;rw[b.o]at c;cases c
end
section
open Go.Proofs.Tryz Go.RowKit Go.Maps Go.ChangeMaps Go.MapKept
def JF(v:Value):Option (DataW Value×List MemPlace):=some (.held v,[])
def Says(P:Program)(k:TypeId)(D:DataW Value)(m:Value->Option Value):Prop :=
 (∀key kl,keyOf P k key=some kl->Maps.has D kl=(m key).isSome/\∀v,m key=some v->∀z,D.atKey kl z=.held v)/\∀key,(m key).isSome=true->∃kl,keyOf P k key=some kl
def dB(P:Program)(k:TypeId)(w:World)(b N:Nat)(m:Value->Option Value):Prop:=∃D,w.ownsMap P k JF b N D/\Maps.size D=N/\Says P k D m
def dY(P:Program)(k:TypeId)(w:World)(b r N:Nat)(m:Value->Option Value)(left:Value->Prop)(cnt:Nat):Prop :=
 ∃D lf,w.ranges P k JF b r N D lf cnt/\Maps.size D=N/\Says P k D m/\(∀key kl,keyOf P k key=some kl->(lf kl=true↔left key))/\∀key,left key->∃kl,keyOf P k key=some kl
open Classical in
noncomputable def upd(m:Value->Option Value)(key v:Value):Value->Option Value:=λx=>if x=key then some v else m x
open Classical in
noncomputable def era(m:Value->Option Value)(key:Value):Value->Option Value:=λx=>if x=key then none else m x
def upd_same(m:Value->Option Value)(key v:Value):upd m key v key=some v:=by simp[upd]
def jw{m:Value->Option Value}{key v x:Value}(h:x≠key):upd m key v x=m x:=by simp[upd,h]
def KE(m:Value->Option Value)(key:Value):era m key key=none:=by simp[era]
def zk{m:Value->Option Value}{key x:Value}(h:x≠key):era m key x=m x:=by simp[era,h]
variable{P:Program}{k:TypeId}{w:World}{b r N cnt:Nat}{m:Value->Option Value}{left:Value->Prop}
def F9{D:DataW Value}{n:Nat}(h:w.ownsMap P k JF b n D):w.ownsMap P k JF b (Maps.size D) D:=by obtain⟨d,c,e,F,f,a⟩:=h;refine⟨d,c,e,F, ?_,a⟩;rw[a];simp[Maps.size,length_sorted]
def dB.lt(h:dB P k w b N m):b<w.heap.size:=by obtain⟨D,a,_⟩:=h;exact a.lt
def dB.kept{a:World}{row:Option Nat}(h:dB P k w b N m)(e:w.grownBy a row)(f:some b≠row):dB P k a b N m:=by obtain⟨D,c,d⟩:=h;exact⟨D,c.kept e f,d⟩
def dB.block{a:World}(h:dB P k w b N m)(g:a.heap[b]?=w.heap[b]?):dB P k a b N m:=by obtain⟨D,⟨d,c,e,r⟩,f⟩:=h;exact⟨D,⟨d,c,g.trans e,r⟩,f⟩
def dY.block{a:World}(h:dY P k w b r N m left cnt)(l:a.heap[b]?=w.heap[b]?)(n:a.heap[r]?=w.heap[r]?):dY P k a b r N m left cnt:=by obtain⟨D,p,⟨e,d,q,seen,c,f,F,o,j,g,rest⟩,i⟩:=h;exact⟨D,p,⟨e,d,q,seen,c,l.trans f,F,o,j,n.trans g,rest⟩,i⟩
def dY.map(h:dY P k w b r N m left cnt):dB P k w b N m:=by obtain⟨D,e,a,c,d,_⟩:=h;exact⟨D,a.owns,c,d⟩
def dY.left_eq(h:dY P k w b r N m left cnt):w.rangeLeft b r=cnt:=by obtain⟨D,c,a,_⟩:=h;exact a.left_eq
def dY.ne(h:dY P k w b r N m left cnt):r≠b:=by obtain⟨D,c,a,_⟩:=h;exact a.ne
def dY.lt(h:dY P k w b r N m left cnt):r<w.heap.size:=by obtain⟨D,c,a,_⟩:=h;exact a.lt
def dB.l7{t:TypeId}{a:Array Value}{c:Nat×Nat}(h:dB P k w b N m):w.heap[b]?≠some (.cells a t c):=by obtain⟨D,⟨g,f,d,r⟩,i⟩:=h;rw[d];intro e;cases e
def dB.made(w:World)(P:Program)(k:TypeId):dB P k (w.alloc (.map #[] 0)) w.heap.size 0 (λ_=>none) :=
 ⟨_,World.ownsMap_made w P k JF,rfl,λkey a _=>⟨rfl,λv h=>by cases h⟩,λkey h=>by cases h⟩
def Says.at{D:DataW Value}(h:Says P k D m){key:Value}{a:Lit}(e:keyOf P k key=some a)(c:Value):D.atKey a (.held c)=.held ((m key).getD c):=by
 obtain⟨b,d⟩:=h.1 key a e;cases hm:m key with
 | none=>rw[hm]at b;exact atKey_of_not_has b _
 | some v=>exact d v hm _
def dB.look{t e:TypeId}(h:dB P k w b N m)(K:Keyed P k)(j:P.underlying t=some (.map k e)){a:Value}(l:(zeroValue e).run P w=.ok a w){key:Value}{n:Lit}(d:keyOf P k key=some n):(Instr.lookup t (.map (some b)) key false).run P w=.ok ((m key).getD a) w:=by obtain⟨D,f,_,g⟩:=h;obtain⟨v,o,i,c⟩:=f.lookup K j l (show JF a=some (.held a,[])from rfl) d;rw[g.at d a]at c;simp only[JF,ϑb,Prod.mk.injEq,DataW.held.injEq]at c;rw[i,c.1]
def dB.look_ok{t e:TypeId}(h:dB P k w b N m)(K:Keyed P k)(l:P.underlying t=some (.map k e)){a:Value}(n:(zeroValue e).run P w=.ok a w){key:Value}{g:Lit}(c:keyOf P k key=some g):(Instr.lookup t (.map (some b)) key true).run P w=.ok (.tuple #[(m key).getD a,.bool (m key).isSome]) w:=by obtain⟨D,i,_,f⟩:=h;obtain⟨v,o,j,d⟩:=i.look_ok K l n (show JF a=some (.held a,[])from rfl) c;rw[f.at c a]at d;simp only[JF,ϑb,Prod.mk.injEq,DataW.held.injEq]at d;rw[j,d.1,(f.1 key g c).1]
def dB.len{t e:TypeId}(h:dB P k w b N m)(f:P.underlying t=some (.map k e))(a:TypeId):(Builtin.len_ #[t] a #[.map (some b)]).run P w=.ok (I N) w:=by obtain⟨D,c,d,_⟩:=h;rw[c.len f a,d]
def dB.zero(h:dB P k w b N m)(K:Keyed P k)(g:∀key,m key=none):N=0:=by
 obtain⟨D,i,j,l⟩:=h;obtain⟨a,n,o,F,p,rfl⟩:=i;rw[<- j];simp only[Maps.size,length_sorted,ϑh,Array.length_toList];rcases Nat.eq_zero_or_pos a.size with h|h
 .exact h
 .exfalso;obtain⟨x,e⟩:∃x,x∈a.toList:=⟨a[0],Ω⟩;obtain⟨y,f⟩:=F.reads x e;have d:=WideElems.rd_key f;have c:=(l.1 _ _ d).1;rw[g]at c;have:Maps.has (DataW.map ((a.toList.map (WideElems.rg P k JF)).foldr DataW.insert [])) y.1=true :=
   List.any_eq_true.2 ⟨WideElems.rg P k JF x,mem_sorted.2 (ι.2 ⟨x,e,rfl⟩),by rw[WideElems.rg_of f];exact WideAt.sameKey_self (K.key d)⟩
  rw[this]at c;cases c
def dB.store{t e:TypeId}(h:dB P k w b N m)(K:Keyed P k)(E:P.underlying t=some (.map k e))(A:N<maxLen){key:Value}(val:Value){kl:Lit}(c:keyOf P k key=some kl):∃a,(Instr.mapUpdate t (.map (some b)) key val).run P w=.ok () a/\dB P k a b (if(m key).isSome then N else N+1) (upd m key val)/\w.grownBy a (some b)/\a.heap.size=w.heap.size:=by
 obtain⟨D,o,x,g⟩:=h;have l:=o.tidy K;have n:=K.key c;obtain⟨a,B,y,p⟩:=o.store K E A c (show JF val=some (.held val,[])from rfl);have C:a.heap.size=w.heap.size:=by obtain⟨_,_,_,_,_,rfl⟩:=p;simp[setBlock]
 have q:Maps.size (D.put kl (.held val))=if(m key).isSome then N else N+1:=by rw[size_put l,(g.1 key kl c).1,x]
 refine⟨a,B,⟨_,q▸F9 y,q, ?_, ?_⟩,p.grown,C⟩
 .intro d i f;by_cases e:d=key
  .subst e;rw[c]at f;cases f
   rw[upd_same];exact⟨has_put_same l.isMap n _,λv j s=>by cases j;exact atKey_put_same l.isMap n _ _⟩
  .have r:i≠kl:=λu=>e (K.inj f (u▸c));rw[jw e];exact⟨(has_put_other r _).trans (g.1 d i f).1,λv j s=>(atKey_put_other r _ _).trans ((g.1 d i f).2 v j s)⟩
 .intro d h;by_cases e:d=key
  .subst e;exact⟨kl,c⟩
  .rw[jw e]at h;exact g.2 d h
def dB.drop{t e:TypeId}(h:dB P k w b N m)(K:Keyed P k)(A:P.underlying t=some (.map k e)){key:Value}{kl:Lit}(d:keyOf P k key=some kl)(q:TypeId):∃a,(Builtin.delete_ #[t,k] q #[.map (some b),key]).run P w=.ok (.tuple #[]) a/\dB P k a b (if(m key).isSome then N-1 else N) (era m key)/\w.grownBy a (some b)/\a.heap.size=w.heap.size:=by
 obtain⟨D,l,s,g⟩:=h;have B:=l.tidy K;obtain⟨a,x,u,n⟩:=l.drop K A d q;have y:a.heap.size=w.heap.size:=by obtain⟨_,_,_,_,_,rfl⟩:=n;simp[setBlock]
 have o:Maps.size (D.del kl)=if(m key).isSome then N-1 else N:=by have:=size_del (k:=kl) B;rw[(g.1 key kl d).1,s]at this;split at this<;>simp_all<;>omega
 refine⟨a,x,⟨_,o▸F9 u,o, ?_, ?_⟩,n.grown,y⟩
 .intro c i f;by_cases e:c=key
  .subst e;rw[d]at f;cases f
   rw[KE];exact⟨has_del_same,λv j=>by cases j⟩
  .have p:i≠kl:=λr=>e (K.inj f (r▸d));rw[zk e];exact⟨(has_del_other p).trans (g.1 c i f).1,λv j C=>(atKey_del_other p _).trans ((g.1 c i f).2 v j C)⟩
 .intro c h;by_cases e:c=key
  .subst e;exact⟨kl,d⟩
  .rw[zk e]at h;exact g.2 c h
def dB.range{t e:TypeId}(h:dB P k w b N m)(K:Keyed P k)(o:P.underlying t=some (.map k e)):∃a,(Instr.range t (.map (some b))).run P w=.ok (.pointer (some (z w.heap.size))) a/\dY P k a b w.heap.size N m (λkey=>(m key).isSome=true) N/\w.grownBy a none/\a.heap.size=w.heap.size+1:=by obtain⟨D,f,d,c⟩:=h;obtain⟨a,n,g,i,j⟩:=f.range K o;exact⟨a,n,⟨D,_,d▸g,d,c,λkey p l=>by rw[(c.1 key p l).1],c.2⟩,i,j⟩
def dY.next(h:dY P k w b r N m left cnt)(K:Keyed P k)(j:TypeId):(cnt=0/\(∀key,¬left key)/\(Instr.next (.pointer (some (z r))) false j).run P w=.ok (.tuple #[.bool false]) w) \/ ∃key v w' c,left key/\m key=some v/\(Instr.next (.pointer (some (z r))) false j).run P w=.ok (.tuple #[.bool true,key,v]) w' /\ dY P k w' b r N m (λx=>left x/\x≠key) c/\c<cnt/\w.grownBy w' (some r)/\w'.heap.size=w.heap.size/\(Instr.entry (.pointer (some (z r)))).run P w'=.ok (.tuple #[key,v]) w':=by
 obtain⟨D,X,B,C,f,g,n⟩:=h;rcases B.next K j with⟨A,H,i⟩|⟨key,v,kl,Y,w',c,a,L,t,o,i,S,M,F,T,E⟩
 .refine τ ⟨A,λkey q=>?_,i⟩;obtain⟨kl,G⟩:=n key q;have:=(g key kl G).2 q;rw[H]at this;cases this
 .simp only[JF,ϑb]at t;subst t;have Q:m key=some v:=by
   have p:=(f.1 key kl a).1;rw[has_true_of_atKey o]at p;obtain⟨W,s⟩:=Option.isSome_iff_exists.1 p.symm;have:=(f.1 key kl a).2 W s (.held v);rw[o]at this;cases this
   exact s
  refine υ ⟨key,v,w',c,(g key kl a).1 L,Q,i,⟨D,_,S,C,f, ?_,λx U=>n x U.1⟩,M,F,T,E⟩;intro u l d;by_cases e:u=key
  .subst e;rw[a]at d;cases d
   simp[WideAt.sameKey_self (K.key a)]
  .have R:l≠kl:=λy=>e (K.inj d (y▸a));simp only[sameKey_ne R,Bool.not_false,Bool.and_true];rw[g u l d];exact⟨λh=>⟨h,e⟩,λh=>h.1⟩
section
variable{ops:Array Oper}{rest:List Oper}{o:Oper}{a:Act}{Q:Exit->Act->World->Prop}
def rX(i:o.guard=none)(c x:Operand)(t:TypeId)(n:o.op=Op.lookup t c x false)(e:TypeId)(K:Keyed P k)(p:P.underlying t=some (.map k e)){d:Value}(s:(zeroValue e).run P w=.ok d w)(l:a.eval c=.map (some b))(h:dB P k w b N m)(key:Value)(v:Lit)(r:a.eval x=key)(j:keyOf P k key=some v)(u:Value)(q:(m key).getD d=u)(f:wpList P ops Q rest (a.put o.dst u) w):wpList P ops Q (o::rest) a w:=by refine wpList_plain i λy g=>?_;unfold Oper.wp;simp[execOp,n,l,r,h.look K p s j,q,Result.andThen];exact g _ _ f
def rY(l:o.guard=none)(d x:Operand)(t:TypeId)(q:o.op=Op.lookup t d x true)(e:TypeId)(K:Keyed P k)(r:P.underlying t=some (.map k e)){f:Value}(y:(zeroValue e).run P w=.ok f w)(p:a.eval d=.map (some b))(h:dB P k w b N m)(key:Value)(A:Lit)(v:a.eval x=key)(n:keyOf P k key=some A)(u:Value)(s:(m key).getD f=u)(c:Bool)(j:(m key).isSome=c)(g:wpList P ops Q rest (a.put o.dst (.tuple #[u,.bool c])) w):wpList P ops Q (o::rest) a w:=by refine wpList_plain l λB i=>?_;unfold Oper.wp;simp[execOp,q,p,v,h.look_ok K r y n,s,j,Result.andThen];exact i _ _ g
def iM(i:o.guard=none)(d x v:Operand)(t:TypeId)(p:o.op=Op.mapUpdate t d x v)(e:TypeId)(K:Keyed P k)(r:P.underlying t=some (.map k e))(l:a.eval d=.map (some b))(h:dB P k w b N m)(n:N<maxLen)(key val:Value)(y:Lit)(u:a.eval x=key)(s:a.eval v=val)(j:keyOf P k key=some y)(f:∀c,dB P k c b (if(m key).isSome then N else N+1) (upd m key val)->w.grownBy c (some b)->c.heap.size=w.heap.size->wpList P ops Q rest (a.put o.dst undef) c):wpList P ops Q (o::rest) a w:=by refine wpList_plain i λD g=>?_;obtain⟨c,q,A,B,C⟩:=h.store K r n val j;unfold Oper.wp;simp[execOp,p,l,u,s,q,Result.andThen];exact g _ _ (f c A B C)
def KF(i:o.guard=none)(d x:Operand)(t:TypeId)(n:o.op=Op.call { callee:=Callee.builtin Builtin.delete,args:=#[d,x],argTypes:=#[t,k] })(e:TypeId)(K:Keyed P k)(q:P.underlying t=some (.map k e))(l:a.eval d=.map (some b))(h:dB P k w b N m)(key:Value)(s:Lit)(r:a.eval x=key)(j:keyOf P k key=some s)(f:∀c,dB P k c b (if(m key).isSome then N-1 else N) (era m key)->w.grownBy c (some b)->c.heap.size=w.heap.size->wpList P ops Q rest (a.put o.dst (.tuple #[])) c):wpList P ops Q (o::rest) a w:=by refine wpList_plain i λA g=>?_;obtain⟨c,p,u,v,y⟩:=h.drop K q j o.type;unfold Oper.wp;simp[execOp,n,resolve,invoke,builtin,l,r,p,Result.andThen];exact g _ _ (f c u v y)
def IB(i:o.guard=none)(d:Operand)(t:TypeId)(l:o.op=Op.range t d)(e:TypeId)(K:Keyed P k)(p:P.underlying t=some (.map k e))(j:a.eval d=.map (some b))(h:dB P k w b N m)(f:∀c,dY P k c b w.heap.size N m (λkey=>(m key).isSome=true) N->w.grownBy c none->c.heap.size=w.heap.size+1->wpList P ops Q rest (a.put o.dst (.pointer (some (z w.heap.size)))) c):wpList P ops Q (o::rest) a w:=by refine wpList_plain i λu g=>?_;obtain⟨c,n,q,r,s⟩:=h.range K p;unfold Oper.wp;simp[execOp,l,j,n,Result.andThen];exact g _ _ (f c q r s)
def Ac{p : Type}(B:o.guard=none)(n:Operand)(j:o.op=Op.next n false)(K:Keyed P k)(mk e:p->Value)(h:a.eval n=.pointer (some (z r)))(q:dY P k w b r N m left cnt)(G:∀key v,left key->m key=some v->∃x,key=mk x/\v=e x)(t:cnt=0->(∀key,¬left key)->wpList P ops Q rest (a.put o.dst (.tuple #[.bool false])) w)(u:∀(x:p)(c:World)(d:Nat),left (mk x)->m (mk x)=some (e x)->dY P k c b r N m (λy=>left y/\y≠mk x) d->d<cnt->w.grownBy c (some r)->c.heap.size=w.heap.size -> (Instr.entry (.pointer (some (z r)))).run P c=.ok (.tuple #[mk x,e x]) c->wpList P ops Q rest (a.put o.dst (.tuple #[.bool true,mk x,e x])) c):wpList P ops Q (o::rest) a w:=by
 refine wpList_plain B λL g=>?_;unfold Oper.wp;rcases q.next K o.type with⟨s,D,f⟩|⟨key,v,c,d,i,l,f,F,E,C,H,A⟩
 .simp[execOp,j,h,f,Result.andThen];exact g _ _ (t s D)
 .obtain⟨x,rfl,rfl⟩:=G key v i l;simp[execOp,j,h,f,Result.andThen];exact g _ _ (u x c d i l F E C H A)
end
end
section
open Go.Proofs.Tryz Go.RowKit Go.Maps Go.WideMaps
variable{a n:Nat}{c:Nat->Nat}
abbrev wM(a n:Int):Value:=.agg #[I a,I n]
abbrev rZ:Value:=.agg #[]
def lU:Keyed prog 3:=int_keyed underlying3
def an0:laidOutB prog=true:=by kernel_rfl
def VZ:140<prog.types.size:=of_decide_eq_true (by kernel_rfl)
def jE:Keyed prog 140:=Keyed.of_law (deep_law_laid an0 (m:=2) V VZ (by kernel_rfl) (by kernel_rfl))
def OA(w:World):(zeroValue 3).run prog w=.ok (I 0) w:=by kernel_rfl
def V3(w:World):(zeroValue 67).run prog w=.ok rZ w:=by kernel_rfl
def wf64{n:Int}(h:-9223372036854775808<=n/\n<=9223372036854775807):(Lit.int .i64 n).wf=true:=WalkArith.wf_i64 V
def wO(a:Nat)(b:a<=1000):keyOf prog 3 (.int .i64 a)=some (.int .i64 a):=keyOf_int_mk underlying3 (wf64 V)
def OB(d:Nat)(a n:Int)(b:(Lit.int .i64 a).wf=true)(c:(Lit.int .i64 n).wf=true):prog.keyLits (d+2) 140 [.int .i64 a,.int .i64 n]=some [.int .i64 a,.int .i64 n]:=by
 have e:prog.cellsOf 140=2:=by kernel_rfl
 have f:prog.cellsOf 3=1:=by kernel_rfl
 simp[underlying140,e,Program.keyLits,f,underlying3,b,c]
def V4(a n:Nat)(i:a<=1000)(j:n<=1000):∃kl,keyOf prog 140 (wM a n)=some kl:=by
 have b:(Lit.int .i64 a).wf=true:=wf64 V;have c:(Lit.int .i64 n).wf=true:=wf64 V;have h:prog.keyType 140=true:=by kernel_rfl
 have g:(wM a n).formed prog 140=true:=by
  have e:prog.cellsOf 140=2:=by kernel_rfl
  simp[Value.formed,underlying140,e]
 obtain⟨d,f⟩:∃d,prog.types.size+1=d+2:=⟨prog.types.size-1,by have:=VZ;omega⟩;refine⟨.string (keyBytes [.int .i64 a,.int .i64 n]), ?_⟩;unfold keyOf;rw[underlying140,f];simp only[h,g,Bool.and_self,if_true];rw[show(wM a n).cells.toList=[.int .i64 a,.int .i64 n]from rfl,OB d _ _ b c];rfl
def who(d:Nat):Nat:=d / 512
def nth(d:Nat):Nat:=d % 512
def dX(a n:Nat):Nat:=a*512+n
def dI(h:n<512):who (dX a n)=a:=by unfold who dX;omega
def dG(h:n<512):nth (dX a n)=n:=by unfold nth dX;omega
def zl(d:Nat):nth d<512:=by unfold nth;omega
def xZ(d:Nat):dX (who d) (nth d)=d:=by unfold who nth dX;omega
def mJ{x y:Nat}(a:who x=who y)(b:nth x=nth y):x=y:=by rw[<- xZ x,<- xZ y,a,b]
def okD(d:Nat):Prop:=who d<=5/\1<=nth d/\nth d<=501
abbrev aW(d:Nat):Value:=wM (who d:Int) (nth d:Int)
def QJ(h:n<512):wM (a:Int) (n:Int)=aW (dX a n):=by unfold aW;rw[dI h,dG h]
def iW{x y:Nat}(h:aW x=aW y):x=y:=by simp[wM]at h;exact mJ V V
def ng{d:Nat}(h:okD d):d<3072:=by obtain⟨a,b,c⟩:=h;have:=xZ d;unfold dX at this;omega
def keyE(d:Nat)(a:who d<=1000):∃kl,keyOf prog 140 (aW d)=some kl:=V4 (who d) (nth d) a (by have:=zl d;omega)
def dQ(P:Program)(k:TypeId)(w:World)(v:Value)(N:Nat)(m:Value->Option Value):Prop:=(v=.map none/\N=0/\m=λ_=>none)\/∃b,v=.map (some b)/\dB P k w b N m
section
variable{P:Program}{k:TypeId}{w:World}{v:Value}{N:Nat}{m:Value->Option Value}
def dQ.below{c:World}(h:dQ P k w v N m)(e:ϒ w c):dQ P k c v N m:=by
 rcases h with h|⟨b,d,a⟩
 .exact τ h
 .exact υ ⟨b,d,a.block (e.block b a.lt)⟩
def dQ.look{t e:TypeId}(h:dQ P k w v N m)(K:Keyed P k)(c:P.underlying t=some (.map k e)){f:Value}(d:(zeroValue e).run P w=.ok f w){key:Value}{i:Lit}(a:keyOf P k key=some i):(Instr.lookup t v key false).run P w=.ok ((m key).getD f) w:=by
 rcases h with⟨rfl,_,rfl⟩|⟨b,rfl,g⟩
 .simpa using Maps.look_nil false K c d a
 .exact g.look K c d a
def dQ.look_ok{t e:TypeId}(h:dQ P k w v N m)(K:Keyed P k)(c:P.underlying t=some (.map k e)){f:Value}(d:(zeroValue e).run P w=.ok f w){key:Value}{i:Lit}(a:keyOf P k key=some i):(Instr.lookup t v key true).run P w=.ok (.tuple #[(m key).getD f,.bool (m key).isSome]) w:=by
 rcases h with⟨rfl,_,rfl⟩|⟨b,rfl,g⟩
 .simpa using Maps.look_nil true K c d a
 .exact g.look_ok K c d a
def dQ.len{t e:TypeId}(h:dQ P k w v N m)(c:P.underlying t=some (.map k e))(a:TypeId):(Builtin.len_ #[t] a #[v]).run P w=.ok (I N) w:=by
 rcases h with⟨rfl,rfl,rfl⟩|⟨b,rfl,d⟩
 .exact Maps.len_nil c a
 .exact d.len c a
variable{ops:Array Oper}{rest:List Oper}{o:Oper}{a:Act}{Q:Exit->Act->World->Prop}
def pY(g:o.guard=none)(b x:Operand)(t:TypeId)(l:o.op=Op.lookup t b x false)(e:TypeId)(K:Keyed P k)(n:P.underlying t=some (.map k e)){c:Value}(r:(zeroValue e).run P w=.ok c w)(j:a.eval b=v)(h:dQ P k w v N m)(key:Value)(s:Lit)(q:a.eval x=key)(i:keyOf P k key=some s)(u:Value)(p:(m key).getD c=u)(d:wpList P ops Q rest (a.put o.dst u) w):wpList P ops Q (o::rest) a w:=by refine wpList_plain g λy f=>?_;unfold Oper.wp;simp[execOp,l,j,q,h.look K n r i,p,Result.andThen];exact f _ _ d
def iY(j:o.guard=none)(b x:Operand)(t:TypeId)(p:o.op=Op.lookup t b x true)(e:TypeId)(K:Keyed P k)(q:P.underlying t=some (.map k e)){d:Value}(y:(zeroValue e).run P w=.ok d w)(n:a.eval b=v)(h:dQ P k w v N m)(key:Value)(A:Lit)(s:a.eval x=key)(l:keyOf P k key=some A)(u:Value)(r:(m key).getD d=u)(c:Bool)(i:(m key).isSome=c)(f:wpList P ops Q rest (a.put o.dst (.tuple #[u,.bool c])) w):wpList P ops Q (o::rest) a w:=by refine wpList_plain j λB g=>?_;unfold Oper.wp;simp[execOp,p,n,s,h.look_ok K q y l,r,i,Result.andThen];exact g _ _ f
end
noncomputable def cm(c:Nat->Nat):Value->Option Value:=λkey=>@dite _ (∃a:Nat,key=I a) (Classical.propDecidable _) (λh=>if c (Classical.choose h)=0 then none else some (I (c (Classical.choose h)))) (λ_=>none)
open Classical in
noncomputable def lm(L:Nat->Bool):Value->Option Value:=λkey=>if ∃d,L d=true/\key=aW d then some rZ else none
def su(c:Nat->Nat)(a:Nat):cm c (I a)=if c a=0 then none else some (I (c a)):=by
 unfold cm;have h:∃b:Nat,Value.int .i64 a=I b:=⟨a,rfl⟩;rw[dif_pos h];have d:=Classical.choose_spec h;have e:a=Classical.choose h:=by injection d with _ h2;omega
 rw[<- e]
def oV{key v:Value}(h:cm c key=some v):∃a:Nat,key=I a/\v=I (c a)/\c a≠0:=by
 by_cases b:∃a:Nat,key=I a
 .obtain⟨a,rfl⟩:=b;rw[su]at h;split at h
  .cases h
  .rename_i h0;cases h;exact⟨a,rfl,rfl,h0⟩
 .unfold cm at h;rw[dif_neg b]at h;cases h
def OC{m:Value->Option Value}(b:∀a:Nat,m (I a)=if c a=0 then none else some (I (c a)))(d:∀key,(∀a:Nat,key≠I a)->m key=none):m=cm c:=by
 funext key;by_cases h:∃a:Nat,key=I a
 .obtain⟨a,rfl⟩:=h;rw[b,su]
 .rw[d key (λa e=>h ⟨a,e⟩)];unfold cm;rw[dif_neg h]
def OD(a:Nat)(c:Nat->Nat):(cm c (I a)).getD (I 0)=I (c a):=by
 rw[su];by_cases h:c a=0
 .rw[ώ h,h];(first|done|rfl)
 .rw[ύ h];(first|done|rfl)
def uM(d:Nat)(L:Nat->Bool):(lm L (aW d)).isSome=L d:=by
 unfold lm;by_cases h:L d=true
 .rw[ώ ⟨d,h,rfl⟩,h];(first|done|rfl)
 .rw[ύ,Bool.eq_false_iff.2 h];(first|done|rfl);rintro⟨c,a,b⟩;have:=iW b;exact h (this▸a)
def QK(L:Nat->Bool)(key:Value):(lm L key).getD rZ=rZ:=by unfold lm;split<;>rfl
def V5{L:Nat->Bool}{key v:Value}(h:lm L key=some v):∃d,L d=true/\key=aW d/\v=rZ:=by
 unfold lm at h;split at h
 .rename_i hh;obtain⟨d,a,b⟩:=hh;cases h;exact⟨d,a,b,rfl⟩
 .cases h
structure ni(w:World)(cv lv:Value)(c:Nat->Nat)(L:Nat->Bool):Prop where
 cs:∃N,dQ prog 3 w cv N (cm c)
 ls:∃N,dQ prog 140 w lv N (lm L)
 vC:∀a,c a<=501
 c5:∀a,c a≠0->a<=5
 CV:∀d,L d=true->okD d/\c (who d)<nth d
def ni.below{w e:World}{a d:Value}{L:Nat->Bool}(h:ni w a d c L)(b:ϒ w e):ni e a d c L:=by obtain⟨⟨N,g⟩,⟨f,i⟩,j,k,l⟩:=h;exact⟨⟨N,g.below b⟩,⟨f,i.below b⟩,j,k,l⟩
def next_any(w:World)(b f:Value)(a:Nat)(c:Nat->Nat)(L:Nat->Bool)(j:ni w b f c L)(s:a<=5):Calls prog 138 #[.agg #[b,f],I a] w λi w'=>i=.returned (.agg #[I a,I ((c a+1:Nat):Int)])/\ϒ w w':=by obtain⟨⟨N,d⟩,⟨q,k⟩,e,l,m⟩:=j;have g:J<|∀w',ϒ w w'->dQ prog 3 w' b N (cm c):=λw' n=>d.below n;have o:=wO a V;have p:=OD a c;have r:=e a;generalize c a=h at *;clear d k e l m;go_enter func138,ntmps138;go_wp2_with (first|(at_lookup;refine pY rfl (.tmp 7) (.tmp 8) 96 rfl 3 lU underlying96 (OA _) rfl (g.o _ ?_) _ _ rfl o _ p ?_;(go_grown)));refine ϐ (v:=wM a ((h+1:Nat):Int)) (by simp[results,Tryz.results138,go_sem]) rfl ⟨rfl,Γ⟩
def IC(w:World)(e h:Value)(c:Nat->Nat)(d:Nat)(L:Nat->Bool)(t:ni w e h c L)(C:who d<=5):Calls prog 203 #[.agg #[e,h],aW d] w λs w'=>s=.returned (.bool (decide (nth d<=c (who d))||L d))/\ϒ w w':=by
 obtain⟨⟨N,j⟩,⟨r,k⟩,l,u,v⟩:=t;have i:J<|∀w',ϒ w w'->dQ prog 3 w' e N (cm c):=λw' f=>j.below f;have q:J<|∀w',ϒ w w'->dQ prog 140 w' h r (lm L):=λw' f=>k.below f;have m:=wO (who d) V;obtain⟨E,y⟩:=keyE d V;have p:=OD (who d) c;have A:=QK L (aW d);have x:=uM d L;have B:=l (who d);have D:=zl d;unfold aW at *;generalize L d=F at *;generalize c (who d)=b at *;generalize who d=a at *;generalize nth d=n at *;clear j k l u v;by_cases o:n<=b
 .have g:decide (n<=b)=true:=by simpa using o
  rw[g];go_enter func203,ntmps203;go_wp2_with (first|(at_lookup;refine pY rfl (.tmp 10) (.tmp 12) 96 rfl 3 lU underlying96 (OA _) rfl (i.o _ ?_) _ _ rfl m _ p ?_;(go_grown)));go_ret;exact⟨rfl,Γ⟩
 .have g:decide (n<=b)=false:=by simpa using o
  rw[g];go_enter func203,ntmps203;go_wp2_with (first|(at_lookup;refine pY rfl (.tmp 10) (.tmp 12) 96 rfl 3 lU underlying96 (OA _) rfl (i.o _ ?_) _ _ rfl m _ p ?_;(go_grown))|(at_lookup;refine iY rfl (.tmp 17) (.tmp 18) 97 rfl 67 jE underlying97 (V3 _) rfl (q.o _ ?_) _ _ rfl y _ A _ x ?_;(go_grown)));go_ret;exact⟨Ω,Γ⟩
end
section
open Go.Proofs.Tryz Go.RowKit Go.Maps Go.WideMaps Go.ChangeMaps Go.MapKept
variable{N cb lb:Nat}{L:Nat->Bool}{c:Nat->Nat}{w:World}
structure wP(w:World)(cb lb:Nat)(c:Nat->Nat)(L:Nat->Bool):Prop where
 cs:∃N,dB prog 3 w cb N (cm c)
 ls:∃N,dB prog 140 w lb N (lm L)
 ne:cb≠lb
 vC:∀a,c a<=501
 c5:∀a,c a≠0->a<=5
 CV:∀d,L d=true->okD d/\c (who d)<nth d
def wP.toV(h:wP w cb lb c L):ni w (.map (some cb)) (.map (some lb)) c L:=by obtain⟨⟨N,b⟩,⟨a,d⟩,_,e,f,g⟩:=h;exact⟨⟨N,υ ⟨_,rfl,b⟩⟩,⟨a,υ ⟨_,rfl,d⟩⟩,e,f,g⟩
def wP.lt(h:wP w cb lb c L):cb<w.heap.size/\lb<w.heap.size:=by obtain⟨⟨N,a⟩,⟨d,b⟩,_⟩:=h;exact⟨a.lt,b.lt⟩
def wP.aJ{M:Nat->Prop}{b:World}(h:wP w cb lb c L)(a:aA M w b)(e:¬M cb)(f:¬M lb):wP b cb lb c L:=by obtain⟨⟨N,g1⟩,⟨d,g2⟩,g,i,j,k⟩:=h;exact⟨⟨N,g1.block (a.block _ g1.lt e)⟩,⟨d,g2.block (a.block _ g2.lt f)⟩,g,i,j,k⟩
def wP.below{a:World}(h:wP w cb lb c L)(b:ϒ w a):wP a cb lb c L:=h.aJ (M:=λ_=>False) (aA.of_below b) (λh=>h) (λh=>h)
def lI:∀(M:Nat)(l:List Nat),l.Pairwise (λx y=>x≠y)->(∀x∈l,x<M)->l.length<=M:=by
 intro M;induction M with
 | zero=>intro l _ h;cases l with|nil=>simp|cons x r=>exact absurd (h x Ω) V
 | succ M ih =>
  intro l b h;by_cases c:M∈l
  .have f:=ih (l.erase M) (b.sublist List.erase_sublist) (λx a=>by
    have d:=List.mem_of_mem_erase a;have g:=h x d;have i:x≠M:=λe=>by subst e;exact(List.Nodup.not_mem_erase (show l.Nodup from b)) a
    omega)
   have:=List.length_erase_of_mem c;omega
  .have:=ih l b (λx a=>by have:=h x a;have:x≠M:=λe=>c (e▸a);omega);omega
def dB.bound{P:Program}{k:TypeId}{b M:Nat}{m:Value->Option Value}(h:dB P k w b N m)(K:Keyed P k)(f:Nat->Value)(r:∀key,(m key).isSome=true->∃n,n<M/\key=f n):N<=M:=by
 obtain⟨D,o,p,q⟩:=h;obtain⟨c,j,A,F,B,rfl⟩:=o;have v:=(stamped_iff c j).1 F.stamped;rw[<- p];simp only[Maps.size,length_sorted,ϑh];have a:∀x∈c.toList,∃n,n<M/\x.key=f n:=by intro x a;obtain⟨y,d⟩:=F.reads x a;have i:=WideElems.rd_key d;refine r _ ?_;rw[<- (q.1 _ _ i).1];exact List.any_eq_true.2 ⟨WideElems.rg P k JF x,mem_sorted.2 (ι.2 ⟨x,a,rfl⟩),by rw[WideElems.rg_of d];exact WideAt.sameKey_self (K.key i)⟩
 obtain⟨g,e⟩:∃g:MapEntry->Nat,∀x∈c.toList,g x<M/\x.key=f (g x):=by refine⟨λx=>@dite Nat (x∈c.toList) (Classical.propDecidable _) (λh=>Classical.choose (a x h)) (λ_=>0),λx h=>?_⟩;dsimp only;rw[dif_pos h];exact Classical.choose_spec (a x h)
 have u:(c.toList.map g).Pairwise (λx y=>x≠y):=by rw[List.pairwise_map];refine List.Pairwise.imp_of_mem ?_ v.2.2;intro x y a d t l;exact t (by rw[(e x a).2,(e y d).2,l])
 have:=lI M _ u (λn s=>by obtain⟨x,a,rfl⟩:=ι.1 s;exact(e x a).1);simpa using this
def sD(h:dB prog 140 w lb N (lm L))(e:∀d,L d=true->okD d):N<=3072:=by
 refine h.bound jE (λd=>aW d) ?_;intro key a;unfold lm at a;split at a
 .rename_i h;obtain⟨d,b,c⟩:=h;exact⟨d,ng (e d b),c⟩
 .cases a
def IE(h:dB prog 3 w cb N (cm c))(e:∀a,c a≠0->a<=5):N<=6:=by refine h.bound lU (λa=>I a) ?_;intro key f;obtain⟨v,g⟩:=Option.isSome_iff_exists.1 f;obtain⟨a,b,_,d⟩:=oV g;exact⟨a,by have:=e a d;omega,b⟩
def inc(c:Nat->Nat)(a:Nat):Nat->Nat:=λx=>if x=a then c a+1 else c x
def dU(c:Nat->Nat)(a:Nat):inc c a a=c a+1:=ώ rfl
def gQ{a x:Nat}(h:x≠a):inc c a x=c x:=ύ h
def af9(a:Nat)(c:Nat->Nat):upd (cm c) (I a) (I ((c a+1:Nat):Int))=cm (inc c a):=by
 apply OC
 .intro x;by_cases e:x=a
  .subst e;rw[upd_same,dU,ύ V]
  .rw[jw (λh=>e (by simp at h;omega)),su,gQ e]
 .intro key b;rw[jw (b a)];cases h:cm c key with
  | none=>rfl
  | some v=>obtain⟨x,d,_⟩:=oV h;exact absurd d (b x)
def ag0(d:Nat)(L:Nat->Bool):upd (lm L) (aW d) rZ=lm (λk=>L k||k==d):=by
 funext key;by_cases e:key=aW d
 .subst e;rw[upd_same];unfold lm;rw[ώ ⟨d,Ω,rfl⟩]
 .rw[jw e];unfold lm;congr 1;apply propext;constructor
  .rintro⟨k,a,b⟩;exact⟨k,by simp[a],b⟩
  .rintro⟨k,a,b⟩;simp at a;rcases a with a|a
   .exact⟨k,a,b⟩
   .subst a;exact absurd b e
def ag1(d:Nat)(L:Nat->Bool):era (lm L) (aW d)=lm (λk=>L k&&k !=d):=by
 funext key;by_cases e:key=aW d
 .subst e;rw[KE];unfold lm;rw[ύ];rintro⟨k,a,b⟩;have:=iW b;subst this;simp at a
 .rw[zk e];unfold lm;congr 1;apply propext;constructor
  .rintro⟨k,a,b⟩;exact⟨k,by simp[a];rintro rfl;exact e b,b⟩
  .rintro⟨k,a,b⟩;simp at a;exact⟨k,a.1,b⟩
structure CG(w:World)(B cb lb:Nat)(c:Nat->Nat)(L:Nat->Bool)(wx:World):Prop where
 ctx:wP wx cb lb c L
 b0:wx.cell? (z B)=some (.map (some cb))
 b1:wx.cell? (O B 1)=some (.map (some lb))
 old:cb<w.heap.size/\lb<w.heap.size
 new:w.heap.size<=B
 lt:B<wx.heap.size
 aJ:aA (λk=>k=cb\/k=lb) w wx
def CG.below{B:Nat}{wx wy:World}(h:CG w B cb lb c L wx)(a:ϒ wx wy):CG w B cb lb c L wy :=
 ⟨h.ctx.below a,(a.cell (p:=(z B)) h.lt).trans h.b0,(a.cell (p:=(O B 1)) h.lt).trans h.b1,h.old,h.new,ο h.lt a.size,h.aJ.below a⟩
def CG.grown{B:Nat}{b:Nat->Nat}{L':Nat->Bool}{wx wy:World}{k:Nat}(h:CG w B cb lb c L wx)(a:wx.grownBy wy (some k))(j:k=cb\/k=lb)(g:wP wy cb lb b L'):CG w B cb lb b L' wy:=by
 have f:some B≠some k:=λe=>by cases e;have:=h.old;have:=h.new;omega
 have d:∀i,wy.cell? (O B i)=wx.cell? (O B i):=λi=>η (w:=wx) (a.block B h.lt f);exact⟨g,(d 0).trans h.b0,(d 1).trans h.b1,h.old,h.new,ο h.lt a.size,h.aJ.grown a (λl e=>by cases e;exact τ j)⟩
