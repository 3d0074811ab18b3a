import Derived.Maps.Ext
import Derived.Test.YtfmmllpjgkgeaaaGreatDoorPartS03
import Derived.Test.YtfmmllpjgkgeaaaGreatDoorPartS07
set_option linter.unusedVariables false
set_option linter.unusedSimpArgs false
set_option maxHeartbeats 16000000
set_option maxRecDepth 100000
namespace Go.Proofs.YtfmmllpjgkgeaaaGreatDoor
section
open Go.Proofs.Tryz Go.RowKit
theorem num_any(e:Int)(w:World):Calls prog 108 #[.int .i64 e] w λr a=>r=.returned (.int .i64 e)/\a=w:=by go_enter func108,ntmps108;go_wp2;go_ret;exact⟨rfl,rfl⟩
def Thk.lg(c:UInt8):Bool:=Thk.isLow c||Thk.aX c
def Thk.word(p:UInt8->Bool)(m:Nat)(l:Thk.Bs):Bool:=decide (1<=l.length)&&decide (l.length<=m)&&l.all p
theorem iH(c:UInt8)(w:World):Calls prog 155 #[.int .u8 (c.toNat:Int)] w λe a=>e=.returned (.bool (Thk.isLow c))/\a=w:=by
 go_enter func155,ntmps155;go_wp2;all_goals
  go_ret;refine⟨aG ?_,rfl⟩;unfold Thk.isLow;rw[Bool.eq_iff_iff];simp;try omega
theorem nH(c:UInt8)(w:World):Calls prog 144 #[.int .u8 (c.toNat:Int)] w λe b=>e=.returned (.bool (Thk.isLow c||Thk.aX c))/\b=w:=by
 cases hl:Thk.isLow c
 .have a:J<|_:=hl;have d:¬(97<=c.toNat/\c.toNat<=122):=by unfold Thk.isLow at hl;simp at hl;omega
  clear hl;go_enter func144,ntmps144;go_wp2_with (go_at_call 155;refine(iH _ _).mono ?_;rintro e b⟨rfl,rfl⟩;rw[a.o]);all_goals
   go_ret;refine⟨aG ?_,rfl⟩;unfold Thk.aX;rw[Bool.eq_iff_iff];simp;try omega
 .have a:J<|_:=hl;clear hl;go_enter func144,ntmps144;go_wp2_with (go_at_call 155;refine(iH _ _).mono ?_;rintro e b⟨rfl,rfl⟩;rw[a.o]);go_ret;exact⟨aG rfl,rfl⟩
theorem xI(c:UInt8)(w:World):Calls prog 144 #[.int .u8 (c.toNat:Int)] w λe a=>e=.returned (.bool (Thk.lg c))/\a=w:=nH c w
theorem lq(p:UInt8->Bool)(l:Thk.Bs)(m:Nat)(h:l.length<1\/m<l.length):Thk.word p m l=false:=by
 unfold Thk.word;rcases h with h|h
 .have:decide (1<=l.length)=false:=by rw[decide_eq_false_iff_not];omega
  rw[this];(first|done|rfl)
 .have:decide (l.length<=m)=false:=by rw[decide_eq_false_iff_not];omega
  rw[this];simp
theorem nP(p:UInt8->Bool)(s:ByteArray)(m k:Nat)(a:k<s.size)(h:p s[k]=false):Thk.word p m (toL s)=false:=by
 have:(toL s).all p=false:=by rw[List.all_eq_false];refine⟨(toL s)[k]'(by rw[toL_length];exact a),κ _, ?_⟩;rw[fV s k a,h];simp
 unfold Thk.word;rw[this];simp
theorem xJ(p:UInt8->Bool)(s:ByteArray)(m:Nat)(b:1<=s.size)(c:s.size<=m)(h:∀j(e:j<s.size),p s[j]=true):Thk.word p m (toL s)=true:=by
 have:(toL s).all p=true:=by rw[List.all_eq_true];intro x d;obtain⟨i,a,rfl⟩:=List.getElem_of_mem d;rw[toL_length]at a;rw[fV s i a];exact h i a
 unfold Thk.word;rw[this,toL_length];simp[b,c]
theorem tX(s:ByteArray)(m:Nat)(w:World)(t:s.size<=1048576)(r:m<=100):Calls prog 143 #[.string s,.int .i64 m,.func (.func 155) #[] #[]] w λe g=>e=.returned (.bool (Thk.word Thk.isLow m (toL s)))/\g=w:=by
 by_cases d:s.size<1\/m<s.size
 .have b:J<|Thk.word Thk.isLow m (toL s)=false:=lq _ _ _ (by rw[toL_length];exact d);rcases d with d|d
  all_goals
   go_enter func143,ntmps143;go_wp2;all_goals first|(go_ret;exact⟨aG b.o.symm,rfl⟩)|(exfalso;omega)
 .have o:¬s.size<1:=V
  have p:¬m<s.size:=V
  clear d;go_enter func143,ntmps143;go_wp2
  go_loop [19] (λi=>∃k:Nat,k<=s.size/\i=.int .i64 k/\J (∀j(c:j<s.size),j<k->Thk.isLow s[j]=true)) (λi=>s.size-(intOf i).toNat)
  case atStart=>exact⟨0,V,rfl,λj _ l=>V⟩
  case round =>
   obtain⟨k,q,rfl,a⟩:=hrel;by_cases n:k<s.size
   .cases hp:Thk.isLow s[k]
    .have b:J<|Thk.word Thk.isLow m (toL s)=false:=nP _ s m k n hp;have f:J<|_:=hp;clear hp a;go_wp2_with (go_at_call 155;refine(iH _ _).mono ?_;rintro e g⟨rfl,rfl⟩;rw[f.o]);go_ret;exact⟨aG b.o.symm,rfl⟩
    .have h:J<|∀j(c:j<s.size),j<k+1->Thk.isLow s[j]=true:=by
      intro j c l;by_cases e:j=k
      .subst e;exact hp
      .exact a.o j c V
     have f:J<|_:=hp;clear hp a;go_wp2_with (go_at_call 155;refine(iH _ _).mono ?_;rintro e g⟨rfl,rfl⟩;rw[f.o])
     go_round
     case rel=>exact⟨k+1,V,Λ,h⟩
     case measure=>simp[intOf];omega
   .have b:J<|Thk.word Thk.isLow m (toL s)=true:=xJ _ s m V V (λj c=>a.o j c V);clear a;go_wp2;go_ret;exact⟨aG b.o.symm,rfl⟩
theorem yR(s:ByteArray)(m:Nat)(w:World)(t:s.size<=1048576)(r:m<=100):Calls prog 143 #[.string s,.int .i64 m,.func (.func 144) #[] #[]] w λe g=>e=.returned (.bool (Thk.word Thk.lg m (toL s)))/\g=w:=by
 by_cases d:s.size<1\/m<s.size
 .have b:J<|Thk.word Thk.lg m (toL s)=false:=lq _ _ _ (by rw[toL_length];exact d);rcases d with d|d
  all_goals
   go_enter func143,ntmps143;go_wp2;all_goals first|(go_ret;exact⟨aG b.o.symm,rfl⟩)|(exfalso;omega)
 .have o:¬s.size<1:=V
  have p:¬m<s.size:=V
  clear d;go_enter func143,ntmps143;go_wp2
  go_loop [19] (λi=>∃k:Nat,k<=s.size/\i=.int .i64 k/\J (∀j(c:j<s.size),j<k->Thk.lg s[j]=true)) (λi=>s.size-(intOf i).toNat)
  case atStart=>exact⟨0,V,rfl,λj _ l=>V⟩
  case round =>
   obtain⟨k,q,rfl,a⟩:=hrel;by_cases n:k<s.size
   .cases hp:Thk.lg s[k]
    .have b:J<|Thk.word Thk.lg m (toL s)=false:=nP _ s m k n hp;have f:J<|_:=hp;clear hp a;go_wp2_with (go_at_call 144;refine(xI _ _).mono ?_;rintro e g⟨rfl,rfl⟩;rw[f.o]);go_ret;exact⟨aG b.o.symm,rfl⟩
    .have h:J<|∀j(c:j<s.size),j<k+1->Thk.lg s[j]=true:=by
      intro j c l;by_cases e:j=k
      .subst e;exact hp
      .exact a.o j c V
     have f:J<|_:=hp;clear hp a;go_wp2_with (go_at_call 144;refine(xI _ _).mono ?_;rintro e g⟨rfl,rfl⟩;rw[f.o])
     go_round
     case rel=>exact⟨k+1,V,Λ,h⟩
     case measure=>simp[intOf];omega
   .have b:J<|Thk.word Thk.lg m (toL s)=true:=xJ _ s m V V (λj c=>a.o j c V);clear a;go_wp2;go_ret;exact⟨aG b.o.symm,rfl⟩
theorem index_ge(l:Thk.Bs)(c:UInt8):-1<=Lib.indexByte l c:=by
 induction l with
 | nil=>simp[Lib.indexByte]
 | cons b r a=>unfold Lib.indexByte;split;omega;split;omega;omega
theorem xK(l:Thk.Bs)(c:UInt8):(0<=Lib.indexByte l c)↔c∈l:=by
 induction l with
 | nil=>simp[Lib.indexByte]
 | cons b r ih =>
  have e:=index_ge r c;unfold Lib.indexByte;by_cases h:b=c
  .simp[h]
  .rw[ύ (by simpa using h)];by_cases a:Lib.indexByte r c = -1
   .rw[ώ (by simpa using a)];have:¬c∈r:=λd=>by have:=ih.2 d;omega
    simp[this,Ne.symm h]
   .rw[ύ (by simpa using a)];have:c∈r:=ih.1 V;simp[this];omega
theorem byte_back(c:UInt8):((c.toNat:Int).toNat.toUInt8)=c:=Ω
theorem Ih(c:UInt8):c∈([115,102,114,99,109]:Thk.Bs)↔Thk.isKind c=true:=by
 have key:∀n:Nat,n<256->(c=UInt8.ofNat n↔c.toNat=n):=λn g=>by
  constructor
  .intro h;rw[h];simp;omega
  .intro h;rw[<- h];simp
 unfold Thk.isKind;simp only[List.mem_cons,List.mem_nil_iff,or_false,Bool.or_eq_true,beq_iff_eq];have a:=key 115 V;have b:=key 102 V;have d:=key 114 V;have e:=key 99 V;have f:=key 109 V;constructor
 .rintro(h|h|h|h|h)
  .left;left;left;left;exact a.1 h
  .left;left;left;right;exact b.1 h
  .left;left;right;exact d.1 h
  .left;right;exact e.1 h
  .right;exact f.1 h
 .rintro((((h|h)|h)|h)|h)
  .left;exact a.2 h
  .right;left;exact b.2 h
  .right;right;left;exact d.2 h
  .right;right;right;left;exact e.2 h
  .right;right;right;right;exact f.2 h
theorem KN(s:ByteArray)(h:0<s.size):Thk.seg (toL s)=(Thk.isKind s[0]&&Thk.word Thk.isLow 4 (toL (s.extract 1 s.size))):=by
 have e:toL (s.extract 1 s.size)=(toL s).tail:=by rw[cu,<- toL_length s,List.take_length,List.drop_one]
 unfold Thk.seg Thk.word;rw[e,jG s h];rw[Bool.eq_iff_iff];simp only[γ,decide_eq_true_eq,List.length_tail,Option.map_some,Option.getD_some];constructor
 .rintro⟨⟨⟨a,b⟩,c⟩,d⟩;exact⟨d,⟨V,V⟩,c⟩
 .rintro⟨d,⟨a,b⟩,c⟩;exact⟨⟨⟨V,V⟩,c⟩,d⟩
theorem gU(s:ByteArray)(w:World)(o:s.size<=1048576):Calls prog 94 #[.string s] w λe a=>e=.returned (.bool (Thk.seg (toL s)))/\a=w:=by
 by_cases g:s.size=0
 .have b:J<|Thk.seg (toL s)=false:=Thk.nK _ (by rw[toL_length];omega);have j:s.toList.isEmpty=true:=by rw[toList_eq];rw[List.isEmpty_iff];apply List.eq_nil_of_length_eq_zero;simpa using g
  go_enter func94,ntmps94;go_wp2;go_ret;exact⟨aG b.o.symm,rfl⟩
 .have k:0<s.size:=V
  have j:s.toList.isEmpty=false:=by rw[toList_eq,List.isEmpty_eq_false_iff];intro h;apply g;have:=congrArg List.length h;simpa using this
  have c:J<|_:=KN s k;have i:J<|(0<=Lib.indexByte [115,102,114,99,109] s[0])↔Thk.isKind s[0]=true:=(xK _ _).trans (Ih _);have f:J<|∀d,Calls prog 81 #[.string ⟨#[115,102,114,99,109]⟩,.int .u8 (s[0].toNat:Int)] d λe a=>e=.returned (.int .i64 (Lib.indexByte [115,102,114,99,109] s[0]))/\a=d:=by intro d;refine(Tryz.strings_IndexByte ⟨#[115,102,114,99,109]⟩ (s[0].toNat:Int) d).mono ?_;rintro e a⟨rfl,rfl⟩;rw[byte_back];exact⟨rfl,rfl⟩
  cases hk:Thk.isKind s[0]
  .have b:J<|Thk.seg (toL s)=false:=ω<|by rw[c.o,hk];(first|done|rfl)
   have m:¬0<=Lib.indexByte [115,102,114,99,109] s[0]:=λh=>by have:=i.o.1 h;rw[hk]at this;cases this
   generalize Lib.indexByte [115,102,114,99,109] s[0]=l at *;clear hk c;go_enter func94,ntmps94;go_wp2_with (go_at_call 81;refine(f.o _).mono ?_;rintro e a⟨rfl,rfl⟩);all_goals
    go_ret;exact⟨aG b.o.symm,rfl⟩
  .have n:0<=Lib.indexByte [115,102,114,99,109] s[0]:=i.o.2 hk;have b:J<|Thk.seg (toL s)=Thk.word Thk.isLow 4 (toL (s.extract 1 s.size)):=ω<|by rw[c.o,hk];(first|done|rfl)
   generalize Lib.indexByte [115,102,114,99,109] s[0]=l at *;clear hk c;go_enter func94,ntmps94;go_wp2_with (first|(go_at_call 81;refine(f.o _).mono ?_;rintro e a⟨rfl,rfl⟩)|(go_at_call 143;refine(tX (s.extract 1 s.size) 4 _ (by simp[ByteArray.size_extract];omega) V).mono ?_;rintro e a⟨rfl,rfl⟩));all_goals
    go_ret;exact⟨aG b.o.symm,rfl⟩
theorem sD(b:UInt8)(l:Thk.Bs)(c:UInt8):Lib.indexByte (b::l) c=if b==c then 0 else if Lib.indexByte l c==-1 then -1 else Lib.indexByte l c+1:=rfl
theorem lC(c:UInt8):∀(l a:Thk.Bs),Thk.aJ c a l=if Lib.indexByte l c = -1 then [a++l] else(a++l.take (Lib.indexByte l c).toNat)::Thk.split c (l.drop ((Lib.indexByte l c).toNat+1)):=by
 intro l;induction l with
 | nil=>intro a;simp[Thk.aJ,Lib.indexByte]
 | cons x r ih =>
  intro a;have f:=index_ge r c;by_cases h:x=c
  .subst h;rw[Thk.jg];have e:Lib.indexByte (x::r) x=0:=by rw[sD];simp
   rw[e];simp[Thk.split]
  .rw[Thk.kU _ _ _ _ h,ih (a++[x])];by_cases b:Lib.indexByte r c = -1
   .have e:Lib.indexByte (x::r) c = -1:=by rw[sD,ύ (by simpa using h),ώ (by simpa using b)]
    rw[ώ b,ώ e];simp
   .have e:Lib.indexByte (x::r) c=Lib.indexByte r c+1:=by rw[sD,ύ (by simpa using h),ύ (by simpa using b)]
    rw[ύ b,ύ (by rw[e];omega),e];have d:(Lib.indexByte r c+1).toNat=(Lib.indexByte r c).toNat+1:=V
    rw[d];simp
theorem lD(c:UInt8)(l:Thk.Bs):Thk.split c l=if Lib.indexByte l c = -1 then [l]else l.take (Lib.indexByte l c).toNat::Thk.split c (l.drop ((Lib.indexByte l c).toNat+1)):=by have:=lC c l [];simpa[Thk.split]using this
theorem yS(c:UInt8):∀(k:Nat)(l:Thk.Bs),((Thk.split c l).length<=k+1->Lib.splitK [c] 0 k l=Thk.split c l)/\(k+1<(Thk.split c l).length->(Lib.splitK [c] 0 k l).length=k+1):=by
 intro k;induction k with
 | zero =>
  intro l;refine⟨λh=>?_,λ_=>rfl⟩;rw[lD]at h⊢;by_cases d:Lib.indexByte l c = -1
  .rw[ώ d];(first|done|rfl)
  .rw[ύ d]at h;have:=List.length_pos_iff.2 (Thk.fP c (l.drop ((Lib.indexByte l c).toNat+1)));simp only[δ]at h;omega
 | succ k ih =>
  intro l;obtain⟨a,b⟩:=ih (l.drop ((Lib.indexByte l c).toNat+1));unfold Lib.splitK;rw[Lib.index_one,lD];by_cases d:Lib.indexByte l c = -1
  .rw[ώ d,ώ (by simpa using d)];exact⟨λ_=>rfl,λh=>by simp at h⟩
  .rw[ύ d,ύ (by simpa using d)];simp only[δ,Nat.add_zero,List.length_nil,Nat.zero_add];exact⟨λh=>by rw[a V],λh=>by rw[b V]⟩
theorem AZ(s:ByteArray)(c:List ByteArray)(i:c=Lib.splitB ⟨#[47]⟩ 0 (min 4 (s.size+1)-1) s):(c.length<=3->c.map toL=Thk.split 47 (toL s))/\(3<c.length->Thk.path (toL s)=false)/\c.length<=4/\c≠[]:=by
 have d:c.map toL=Lib.splitK [47] 0 (min 4 (s.size+1)-1) (toL s):=by rw[i];exact Lib.splitB_data ⟨#[47]⟩ 0 _ s
 have k:(Thk.split 47 (toL s)).length<=s.size+1:=by have:=Thk.oO 47 (toL s) [];rw[toL_length]at this;unfold Thk.split;simp at this;omega
 obtain⟨a,b⟩:=yS 47 (min 4 (s.size+1)-1) (toL s);have m:c.length<=min 4 (s.size+1)-1+1:=by rw[i];exact Lib.splitB_length_le _ _ _ _
 have e:c.length=(Lib.splitK [47] 0 (min 4 (s.size+1)-1) (toL s)).length:=by rw[<- d,List.length_map]
 have g:∀l:Thk.Bs,3<(Thk.split 47 l).length->Thk.path l=false:=by
  intro l h;unfold Thk.path Thk.iD;have:decide ((Thk.split 47 l).length<=3)=false:=by rw[decide_eq_false_iff_not];omega
  rw[this];(first|done|rfl)
 by_cases j:(Thk.split 47 (toL s)).length<=min 4 (s.size+1)-1+1
 .have f:=a j;rw[f]at d e;refine⟨λ_=>d,λh=>g _ V,V, ?_⟩;intro h;rw[h]at d;exact Thk.fP 47 (toL s) d.symm
 .have f:=b V;rw[f]at e;refine⟨λh=>V,λ_=>g _ V,V, ?_⟩;intro h;rw[h]at e;simp at e
def QJ(b:Bool)(s:ByteArray):ByteArray:=match b with|true=>s|false=>⟨#[]⟩
theorem yT(c:ByteArray)(b:Nat):∀(k:Nat)(s:ByteArray),∀p∈_root_.Go.Lib.splitB c b k s,p.size<=s.size:=by
 intro k;induction k with
 | zero=>intro s p a;simp[_root_.Go.Lib.splitB]at a;rw[a];exact χ _
 | succ k ih =>
  intro s p a;unfold _root_.Go.Lib.splitB at a;split at a
  .simp at a;rw[a];exact χ _
  .rcases List.mem_cons.1 a with h|h
   .rw[h];simp[ByteArray.size_extract];omega
   .have:=ih _ p h;simp[ByteArray.size_extract]at this;omega
theorem oU(s:ByteArray)(m:Int)(w:World)(hs:s.size<=1048576)(c:w.cell? (z 0)=some (.int .i64 m)):Calls prog 50 #[.string s] w λe w'=>e=.returned (.tuple #[.string (QJ (Thk.path (toL s)) s),.bool (Thk.path (toL s))])/\ϑ w w':=by
 have F:J<|_:=Tryz.strings_SplitN s ⟨#[47]⟩ 4 m w V c Ψ V V;obtain⟨a,n⟩:∃a,a=Lib.splitB ⟨#[47]⟩ 0 (min 4 (s.size+1)-1) s:=⟨_,rfl⟩;obtain⟨B,C,Q,H⟩:=AZ s a n;clear c;go_enter func50,ntmps50;go_wp2_with fail;refine ψ F.o ?_;rw[<- n];rintro e R⟨rfl,rfl⟩;have r:ϑ w (w.alloc (.cells (Lib.cellsOf a (min 4 (s.size+1))) 9)):=(φ _ _).alloc (χ _) _;have L:J<|∀j(h:j<a.length),(w.alloc (.cells (Lib.cellsOf a (min 4 (s.size+1))) 9)).cell? (O w.heap.size j)=some (.string a[j]):=by
  intro j h;have:(Lib.cellsOf a (min 4 (s.size+1)))[j]?=some (.string a[j]):=by unfold Lib.cellsOf;simp only[List.getElem?_toArray];rw[ε (by simpa using h),List.getElem?_map,σ h];(first|done|rfl)
  simpa using this
 have K:J<|∀A∈a,A.size<=1048576:=by intro A P;have p:=yT ⟨#[47]⟩ 0 (min 4 (s.size+1)-1) s A (by rw[<- n];exact P);omega
 have T:a.length<=min 4 (s.size+1):=by have:=Lib.splitB_length_le ⟨#[47]⟩ 0 (min 4 (s.size+1)-1) s;rw[<- n]at this;omega
 clear F n;generalize w.alloc (.cells (Lib.cellsOf a (min 4 (s.size+1))) 9)=R at *;generalize min 4 (s.size+1)=S at *;by_cases M:3<a.length
 .have d:J<|Thk.path (toL s)=false:=C M;clear B C;go_wp2;go_ret2;exact⟨by rw[d.o];rfl,r⟩
 .have D:J<|Thk.path (toL s)=Thk.iD (a.map toL):=by unfold J Thk.path;rw[B V]
  have X:0<a.length:=List.length_pos_iff.2 H;clear B C Q H;go_wp2
  go_loop [18] (λy=>∃k:Nat,k<=a.length/\y=.int .i64 k/\J (∀j(h:j<a.length),j<k->Thk.seg (toL a[j])=true/\(j+1<a.length->(toL a[j]).head? = some 109))) (λy=>a.length-(intOf y).toNat)
  case atStart=>exact⟨0,V,rfl,λj _ b=>V⟩
  case round =>
   obtain⟨k,W,rfl,i⟩:=hrel;by_cases x:k<a.length
   .have U:=L.o k x;have Z:=K.o _ (κ x);have E:J<|Thk.seg (toL a[k])=true->(k+1<a.length->(toL a[k]).head? = some 109)->∀j(h:j<a.length),j<k+1->Thk.seg (toL a[j])=true/\(j+1<a.length->(toL a[j]).head? = some 109):=by
     intro p v j h b;by_cases e:j=k
     .subst e;exact⟨p,v⟩
     .exact i.o j h V
    have u:J<|Thk.seg (toL a[k])=false->Thk.iD (a.map toL)=false:=λh=>Thk.kG _ k (by simpa using x) (by simpa using h);have f:J<|k+1<a.length->((toL a[k]).head?==some 109)=false->Thk.iD (a.map toL)=false:=λp h=>Thk.kH _ k (by simpa using p) (by simpa using h);clear i;generalize a[k]=q at *;cases hseg:Thk.seg (toL q)
    .have d:J<|Thk.path (toL s)=false:=D.o.trans (u.o hseg);have o:J<|_:=hseg;clear hseg E u f;go_wp2_with (go_at_call 94;refine(gU q _ V).mono ?_;rintro e w'⟨rfl,rfl⟩;rw[o.o]);go_ret2;exact⟨by rw[d.o];rfl,r⟩
    .have Y:2<=q.size:=by have:=Thk.yL _ hseg;rwa [toL_length]at this
     have o:J<|_:=hseg;have g:J<|_:=E.o hseg;clear hseg E u;have l:=jG q V;by_cases G:k+1<a.length
     .by_cases c:q[0]=109
      .have t:J<|_:=g.o (λ_=>by rw[l,c]);have N:((q[0].toNat:Int) !=109)=false:=by rw[c];(first|done|rfl)
       clear f g l c;go_wp2_with (go_at_call 94;refine(gU q _ V).mono ?_;rintro e w'⟨rfl,rfl⟩;rw[o.o])
       go_round
       case rel=>exact⟨k+1,V,Λ,t⟩
       case measure=>simp[intOf];omega
      .have d:J<|Thk.path (toL s)=false:=D.o.trans (f.o G (by rw[l];simpa using c));have N:((q[0].toNat:Int) !=109)=true:=by rw[bne_iff_ne];intro h;apply c;apply UInt8.toNat_inj.1;have:(109:UInt8).toNat=109:=rfl;omega
       clear f g l c;go_wp2_with (go_at_call 94;refine(gU q _ V).mono ?_;rintro e w'⟨rfl,rfl⟩;rw[o.o]);go_ret2;exact⟨by rw[d.o];rfl,r⟩
     .have t:J<|_:=g.o (λh=>absurd h G);clear f g l;go_wp2_with (go_at_call 94;refine(gU q _ V).mono ?_;rintro e w'⟨rfl,rfl⟩;rw[o.o])
      go_round
      case rel=>exact⟨k+1,V,Λ,t⟩
      case measure=>simp[intOf];omega
   .have d:J<|Thk.path (toL s)=true:=by
     refine D.o.trans ((Thk.Aq _ (λj h=>?_) (λj h v=>?_)).trans Θ)
     .simp only[List.getElem_map];exact(i.o j (by simpa using h) (by simp at h;omega)).1
     .simp only[List.getElem_map];exact(i.o j (by simpa using h) (by simp at h;omega)).2 (by simpa using v)
    clear i;go_wp2;go_ret2;exact⟨by rw[d.o];rfl,r⟩
theorem nS(c:UInt8)(l a:Thk.Bs)(h:¬c∈l):Thk.aJ c a l=[a++l]:=by rw[lC,ώ];have b:=index_ge l c;have d:=(not_congr (xK l c)).2 h;omega
theorem wJ(c:UInt8):∀(l b:Thk.Bs)(i:Nat),l[i]?=some c->(∀j,i<j->l[j]?≠some c)->(Thk.aJ c b l).getLast? = some (l.drop (i+1)):=by
 intro l;induction l with
 | nil=>intro b i h;simp at h
 | cons x r ih =>
  intro b i d f;cases i with
  | zero =>
   have a:x=c:=by simpa using d
   subst a;have o:¬x∈r:=λn=>by obtain⟨j,k,m⟩:=List.getElem_of_mem n;exact f (j+1) V (by simp[σ k,m])
   rw[Thk.jg,nS _ _ _ o];simp
  | succ i =>
   have e:r[i]?=some c:=by simpa using d
   have g:∀j,i<j->r[j]?≠some c:=λj h=>by have:=f (j+1) V;simpa using this
   by_cases a:x=c
   .subst a;rw[Thk.jg,List.getLast?_cons,ih [] i e g];simp
   .rw[Thk.kU _ _ _ _ a,ih _ i e g];simp
theorem tY(s:ByteArray)(j:Nat)(h:j<s.size):s.data[j]! = s[j]:=by rw[getElem!_pos s.data j h];(first|done|rfl)
theorem O9(s:ByteArray)(v:Thk.path (toL s)=true):∃k:Nat,Lib.lastIndexByte s 47+1=(k:Int)/\∃h:k<s.size,s[k]=Thk.kindOf (toL s):=by
 obtain⟨w,n,c⟩:=Thk.xk _ v;have r:(Thk.split 47 (toL s)).getLast? = some ((Thk.split 47 (toL s))[(Thk.split 47 (toL s)).length-1]'V):=by rw[List.getLast?_eq_getElem?,σ]
 have key:∀k:Nat,(Thk.split 47 (toL s)).getLast? = some ((toL s).drop k)->∃h:k<s.size,s[k]=Thk.kindOf (toL s):=by
  intro k g;rw[r]at g;simp only[Option.some.injEq]at g;rw[g]at n c;simp only[List.length_drop,toL_length]at n;have l:k<s.size:=V
  refine⟨l, ?_⟩;rw[List.getElem?_drop,Nat.add_zero,σ (by rw[toL_length];exact l),fV s k l]at c;simpa using c
 rcases Lib.lastIdx_spec s 47 s.size with⟨d,m⟩|⟨i,f,d,o,m⟩
 .refine⟨0,by unfold Lib.lastIndexByte;rw[d];rfl,key 0 ?_⟩;have u:¬(47:UInt8)∈toL s:=λt=>by obtain⟨j,a,q⟩:=List.getElem_of_mem t;rw[toL_length]at a;have:=m j a;rw[tY s j a,<- fV s j a,q]at this;exact this rfl
  unfold Thk.split;rw[nS _ _ _ u];simp
 .refine⟨i+1,by unfold Lib.lastIndexByte;rw[d];omega,key (i+1) ?_⟩;unfold Thk.split;apply wJ
  .rw[σ (by rw[toL_length];exact f),fV s i f];rw[tY s i f]at o;congr 1;apply UInt8.toNat_inj.1;have:(47:UInt8).toNat=47:=rfl;omega
  .intro j p e;have b:j<s.size:=by
    rcases Nat.lt_or_ge j s.size with h|h
    .exact h
    .rw[List.getElem?_eq_none (by rw[toL_length];exact h)]at e;cases e
   rw[σ (by rw[toL_length];exact b),fV s j b]at e;have:=m j p b;rw[tY s j b]at this;simp only[Option.some.injEq]at e;rw[e]at this;exact this rfl
theorem A8(s:ByteArray)(w:World)(m:s.size<=1048576)(g:Thk.path (toL s)=true):Calls prog 83 #[.string s] w λe h=>e=.returned (.int .u8 ((Thk.kindOf (toL s)).toNat:Int))/\h=w:=by
 obtain⟨k,d,l,f⟩:=O9 s g;have j:J<|_:=Tryz.strings_LastIndexByte s 47 V w;obtain⟨b,a⟩:∃b,b=Lib.lastIndexByte s 47:=⟨_,rfl⟩;rw[<- a]at d;have c:b=(k:Int)-1:=V
 have i:J<|_:=f;clear f d g;go_enter func83,ntmps83;go_wp2_with fail;refine ψ j.o ?_;rintro e h⟨rfl,rfl⟩;rw[<- a,c];clear a c;go_wp2;go_ret;exact⟨yN (by rw[i.o]),rfl⟩
def lF(k:UInt8):Thk.Bs:=if(k.toNat:Int)=115 then [43,45,33]else if(k.toNat:Int)=102 then [94,95,33]else if(k.toNat:Int)=114 then [61,33]else if(k.toNat:Int)=99 then [62,33]else [33]
theorem wK(k:UInt8)(w:World):Calls prog 82 #[.int .u8 (k.toNat:Int)] w λe a=>∃t,e=.returned (.string t)/\toL t=lF k/\a=w:=by
 go_enter func82,ntmps82;go_wp2;all_goals
  go_ret;refine⟨_,rfl, ?_,rfl⟩;simp only[beq_iff_eq,ό]at *;unfold lF;simp[*];try rfl
theorem oV(p:ByteArray)(a:UInt8)(v:ByteArray)(n:Int)(w:World):Calls prog 90 #[.agg #[.string p,.int .u8 (a.toNat:Int),.string v,.int .i64 n]] w λe w'=>e=.returned (.bool (eG a))/\ϑ w w':=by
 go_enter func90,ntmps90;go_wp2;all_goals
  go_ret;refine⟨aG ?_,(φ _ _).alloc (χ _) _⟩;simp only[beq_iff_eq,ό]at *;unfold eG;rw[Bool.eq_iff_iff];simp;try omega
theorem nU(l p:Thk.Bs):Thk.begins l p=(l==p||(p++[47]).isPrefixOf l):=by
 unfold Thk.begins;cases h:(l==p)
 .simp only[Bool.false_or];rw[Bool.eq_iff_iff];simp only[γ,decide_eq_true_eq,beq_iff_eq,List.isPrefixOf_iff_prefix];constructor
  .rintro⟨⟨a,c⟩,b⟩;rw[σ a]at b;have d:l[p.length]=47:=by apply UInt8.toNat_inj.1;simpa using b
   refine⟨l.drop (p.length+1), ?_⟩
   conv=>rhs;rw[<- List.take_append_drop p.length l,c,List.drop_eq_getElem_cons a,d]
   simp
  .rintro⟨t,rfl⟩;simp
 .rfl
def dX(p l:Thk.Bs):Thk.Bs:=(Thk.split 47 (l.drop (p.length+1))).headD []
theorem KO(l:Thk.Bs):(Lib.cut l [47]).1=(Thk.split 47 l).headD []:=by
 unfold Lib.cut;rw[Lib.index_one,lD];have a:=index_ge l 47;by_cases h:Lib.indexByte l 47 = -1
 .rw[ύ (by rw[h];omega),ώ h];(first|done|rfl)
 .rw[ώ V,ύ h];(first|done|rfl)
theorem Ba(p l:ByteArray)(m:Int)(w:World)(A:p.size<=1048576)(y:l.size<=1048576)(f:w.cell? (z 0)=some (.int .i64 m)):Calls prog 217 #[.string p,.string l] w λe w'=>∃t,e=.returned (.tuple #[.string t,.bool ((toL p++[47]).isPrefixOf (toL l))])/\((toL p++[47]).isPrefixOf (toL l)=true->toL t=dX (toL p) (toL l))/\t.size<=l.size/\ϑ w w':=by
 have g:J<|_:=Tryz.strings_CutPrefix l (p++⟨#[47]⟩) w;have a:(p++⟨#[47]⟩:ByteArray).data.toList=toL p++[47]:=gI p ⟨#[47]⟩;have B:p.size+1<=9223372036854775807:=V
 cases hx:(toL p++[47]).isPrefixOf (toL l)
 .have b:J<|Lib.hasPrefix l.data.toList (p++⟨#[47]⟩:ByteArray).data.toList=false:=by unfold J Lib.hasPrefix;rw[a];exact hx
  clear hx f a;go_enter func217,ntmps217;go_wp2_with fail;refine ψ g.o ?_;rw[b.o];rintro e w'⟨rfl,rfl⟩;go_wp2;go_ret2;exact⟨ByteArray.empty,rfl,(λo=>by cases o),Nat.zero_le _,φ _ _⟩
 .have b:J<|Lib.hasPrefix l.data.toList (p++⟨#[47]⟩:ByteArray).data.toList=true:=by unfold J Lib.hasPrefix;rw[a];exact hx
  have s:J<|Lib.trimPrefix l.data.toList (p++⟨#[47]⟩:ByteArray).data.toList=(toL l).drop (p.size+1):=by unfold J Lib.trimPrefix;rw[b.o,ώ rfl,a];congr 1;simp[toL_length]
  obtain⟨q,c⟩:∃q:ByteArray,q=⟨((toL l).drop (p.size+1)).toArray⟩:=⟨_,rfl⟩;have x:q.size<=l.size:=by
   have:q.size=((toL l).drop (p.size+1)).length:=by rw[c];(first|done|rfl)
   rw[this,List.length_drop,toL_length];omega
  have v:J<|_:=Tryz.strings_Cut q ⟨#[47]⟩ m w V f;have i:J<|toL q=(toL l).drop (p.size+1):=ω<|by rw[c];(first|done|rfl)
  obtain⟨t,d⟩:∃t:ByteArray,t=⟨(Lib.cut q.data.toList [47]).1.toArray⟩:=⟨_,rfl⟩;have j:J<|toL t=dX (toL p) (toL l):=by
   have h:toL t=(Lib.cut (toL q) [47]).1:=by rw[d];(first|done|rfl)
   unfold J dX;rw[h,KO,i.o,toL_length]
  have k:J<|t.size<=l.size:=by
   unfold J;have h:t.size=(Lib.cut (toL q) [47]).1.length:=by rw[d];(first|done|rfl)
   have r:(Lib.cut (toL q) [47]).1.length<=(toL q).length:=by
    unfold Lib.cut;split
    .simp;omega
    .simp
   rw[toL_length]at r;omega
  clear hx f a;go_enter func217,ntmps217;go_wp2_with fail;refine ψ g.o ?_;rw[b.o,s.o,<- c];rintro e w'⟨rfl,u⟩;subst u;clear c;go_wp2_with fail;refine ψ v.o ?_;rintro e C⟨rfl,n,rfl⟩;rw[<- d];clear d;go_wp2;go_ret2;exact⟨t,rfl,(λ_=>j.o),k.o,below_drewN (φ _ _) _⟩
theorem Ij(p l:ByteArray)(m:Int)(w:World)(h:p.size<=1048576)(g:l.size<=1048576)(f:w.cell? (z 0)=some (.int .i64 m)):Calls prog 206 #[.string p,.string l] w λe w'=>e=.returned (.bool (Thk.begins (toL l) (toL p)))/\ϑ w w':=by
 have Hs:J<|_:=Ba p l m w h g f;have b:J<|Thk.begins (toL l) (toL p)=((toL p==toL l)||(toL p++[47]).isPrefixOf (toL l)):=ω<|by rw[nU];congr 1;rw[Bool.eq_iff_iff];simp;exact eq_comm
 clear f;go_enter func206,ntmps206;go_wp2_with fail;refine ψ Hs.o ?_;rintro e i⟨t,rfl,_,_,d⟩;generalize (toL p++[47]).isPrefixOf (toL l)=x at *;cases heq:(p.toList==l.toList)
 .have a:(toL p==toL l)=false:=by rw[toList_eq,toList_eq]at heq;exact heq
  have c:J<|Thk.begins (toL l) (toL p)=x:=ω<|by rw[b.o,a];(first|done|rfl)
  clear a b;go_wp2;go_ret;exact⟨aG c.o.symm,d⟩
 .have a:(toL p==toL l)=true:=by rw[toList_eq,toList_eq]at heq;exact heq
  have c:J<|Thk.begins (toL l) (toL p)=true:=ω<|by rw[b.o,a];(first|done|rfl)
  clear a b;go_wp2;go_ret;exact⟨aG c.o.symm,d⟩
theorem Ew(b g c i:ByteArray)(f a:UInt8)(k l:Int)(m:Int)(w:World)(n:b.size<=1048576)(o:c.size<=1048576)(d:w.cell? (z 0)=some (.int .i64 m)):Calls prog 149 #[.agg #[.string b,.int .u8 (f.toNat:Int),.string g,.int .i64 k],.agg #[.string c,.int .u8 (a.toNat:Int),.string i,.int .i64 l]] w λh w'=>h=.returned (.bool (jQ (toL b) f (toL g) (toL c) a (toL i)))/\ϑ w w':=by
 have j:J<|∀e,ϑ w e->e.cell? (z 0)=some (.int .i64 m):=λe r=>(r.cell (p:=(z 0)) (block_lt_of_cell d)).trans d;clear d;go_enter func149,ntmps149;go_wp2_with (go_at_call 206;refine(Ij b c m _ n o (j.o _ (((φ _ _).alloc (χ _) _).alloc Ω _))).mono ?_;rintro h v⟨rfl,q⟩)
 .go_ret;rename_i h33;refine⟨aG ?_,(((φ _ _).alloc (χ _) _).alloc Ω _).trans (q.mono Θ)⟩;unfold jQ;rw[ώ (by simpa using h33)]
 all_goals
  go_ret;refine⟨aG ?_,((φ _ _).alloc (χ _) _).alloc Ω _⟩;simp only[toList_eq,Bool.not_eq_true',Bool.not_eq_false',beq_iff_eq,ό]at *;unfold jQ;by_cases s:(a.toNat:Int)=43
  .simp_all [toL]
   try(rw[Bool.eq_iff_iff];simp only[beq_iff_eq];exact⟨Eq.symm,Eq.symm⟩)
  .by_cases t:(a.toNat:Int)=94
   .simp_all [toL]
   .by_cases u:(a.toNat:Int)=61
    .simp_all [toL]
    .simp_all [toL]
theorem tZ{B:Nat}{a w:World}(h:Below B a w)(c:B<=w.heap.size)(b:Array Obj):Below B a (Sort.grow w b) :=
 h.trans ⟨rfl,rfl,rfl,by simp[Sort.grow],λk d=>by simp only[Sort.grow];rw[Array.getElem?_append_left V]⟩
theorem Bc(l:List UInt8)(v:Int)(h:Lib.parseIntB 64 l=.ok v):-9223372036854775808<=v/\v<=9223372036854775807:=by
 unfold Lib.parseIntB at h;split at h
 .cases h
 .simp only at h;split at h
  .cases h
  .cases h
  .split at h
   .cases h
   .split at h
    .cases h
    .rename_i c r _ u hu n1 n2;simp only[Lib.NumEnd.ok.injEq]at h;simp at n1 n2;split at h
     .rename_i h45;have:=n2 h45;omega
     .rename_i h45;have:=n1 h45;omega
theorem uf(s:ByteArray)(w:World)(H:s.size<=1048576)(e:Glob w):Calls prog 145 #[.string s] w λf w'=>∃v,f=.returned (.tuple #[.int .i64 v,.bool (Thk.num (toL s)).isSome])/\(∀n,Thk.num (toL s)=some n->v=n)/\ϑ w w':=by
 have a:Thk.num (toL s)=Thk.oQ (toL s):=(Thk.Et _).symm;unfold Thk.oQ at a;cases hp:Lib.parseIntB 64 (toL s) with
 | ok v =>
  have y:=Bc _ _ hp;have d:J<|_:=Tryz.strconv_ParseInt_10_at64_ok s V v hp w;rw[hp]at a;simp only at a;have D:J<|Glob w:=e;clear e hp;go_enter func145,ntmps145;go_wp2_with fail;refine ψ d.o ?_;rintro f j⟨rfl,A⟩;have l:J<|ϑ w j:=by
   rcases A with rfl|⟨K,rfl⟩
   .exact φ _ _
   .exact Lib.bytesWorld_below _ _ _
  clear A;have C:J<|_:=Tryz.strconv_FormatInt_10 v y.1 y.2 j (D.o.mono l.o).tab;go_wp2_with fail;refine ψ C.o ?_;rintro f G⟨rfl,B⟩;have r:J<|ϑ w G:=by obtain⟨k,F,rfl⟩:=B;exact tZ (below_drewN l.o k) l.o.size F
  clear B d C;obtain⟨q,p⟩:∃q:ByteArray,q=⟨(Lib.itoa v).toArray⟩:=⟨_,rfl⟩;rw[<- p];have t:J<|toL q=Lib.itoa v:=by rw[p];(first|done|rfl)
  clear p;cases heq:(q.toList==s.toList)
  .have x:¬(Lib.itoa v=toL s):=by
    have g:(toL q==toL s)=false:=by rw[toList_eq,toList_eq]at heq;exact heq
    rw[t.o]at g;simpa using g
   have b:J<|Thk.num (toL s)=none:=ω<|by rw[a,ύ (λE=>x E.1)]
   clear a x;go_wp2;go_ret2;refine⟨0, ?_, ?_,r.o⟩
   .rw[b.o];(first|done|rfl)
   .intro n c;rw[b.o]at c;cases c
  .have u:Lib.itoa v=toL s:=by
    have g:(toL q==toL s)=true:=by rw[toList_eq,toList_eq]at heq;exact heq
    rw[t.o]at g;simpa using g
   have b:J<|Thk.num (toL s)=if -1000000000<=v/\v<=1000000000 then some v else none:=ω<|by rw[a];simp[u]
   clear a u;go_wp2;all_goals
    go_ret2;refine⟨v, ?_, ?_,r.o⟩
    .rw[b.o];split<;>simp_all<;>omega
    .intro n c;rw[b.o]at c;split at c<;>simp_all
 | range =>
  obtain⟨m,i,h⟩:=e.rng;have d:J<|_:=Tryz.strconv_ParseInt_10_at64_range s V hp m w i h;rw[hp]at a;have b:J<|Thk.num (toL s)=none:=a;clear e hp a i h;go_enter func145,ntmps145;go_wp2_with fail;refine ψ d.o ?_;rintro f j⟨N,rfl,_,_,o⟩;go_wp2;go_ret2;refine⟨0, ?_, ?_,o⟩
  .rw[b.o];(first|done|rfl)
  .intro n c;rw[b.o]at c;cases c
 | _ =>
  obtain⟨m,i,h⟩:=e.syn;have d:J<|_:=Tryz.strconv_ParseInt_10_at64_syntax s V hp m w i h;rw[hp]at a;have b:J<|Thk.num (toL s)=none:=a;clear e hp a i h;go_enter func145,ntmps145;go_wp2_with fail;refine ψ d.o ?_;rintro f j⟨N,rfl,_,_,o⟩;go_wp2;go_ret2;refine⟨0, ?_, ?_,o⟩
  .rw[b.o];(first|done|rfl)
  .intro n c;rw[b.o]at c;cases c
end
section
open Go.Proofs.Tryz Go.RowKit Go.Maps Go.ChangeMaps Go.MapKept
def D6(v:Value):Option (DataW Value×List MemPlace):=some (.held v,[])
def Says(P:Program)(k:TypeId)(D:DataW Value)(m:Value->Option Value):Prop :=
 (∀key kl,keyOf P k key=some kl->Maps.has D kl=(m key).isSome/\∀v,m key=some v->∀z,D.atKey kl z=.held v)/\∀key,(m key).isSome=true->∃kl,keyOf P k key=some kl
def aP(P:Program)(k:TypeId)(w:World)(b N:Nat)(m:Value->Option Value):Prop:=∃D,w.ownsMap P k D6 b N D/\Maps.size D=N/\Says P k D m
def dW(P:Program)(k:TypeId)(w:World)(b r N:Nat)(m:Value->Option Value)(left:Value->Prop)(cnt:Nat):Prop :=
 ∃D lf,w.ranges P k D6 b r N D lf cnt/\Maps.size D=N/\Says P k D m/\(∀key kl,keyOf P k key=some kl->(lf kl=true↔left key))/\∀key,left key->∃kl,keyOf P k key=some kl
open Classical in
noncomputable def upd(m:Value->Option Value)(key v:Value):Value->Option Value:=λx=>if x=key then some v else m x
open Classical in
noncomputable def era(m:Value->Option Value)(key:Value):Value->Option Value:=λx=>if x=key then none else m x
theorem upd_same(m:Value->Option Value)(key v:Value):upd m key v key=some v:=by simp[upd]
theorem eX{m:Value->Option Value}{key v x:Value}(h:x≠key):upd m key v x=m x:=by simp[upd,h]
theorem Bd(m:Value->Option Value)(key:Value):era m key key=none:=by simp[era]
theorem qp{m:Value->Option Value}{key x:Value}(h:x≠key):era m key x=m x:=by simp[era,h]
variable{P:Program}{k:TypeId}{w:World}{b r N cnt:Nat}{m:Value->Option Value}{left:Value->Prop}
theorem xM{D:DataW Value}{n:Nat}(h:w.ownsMap P k D6 b n D):w.ownsMap P k D6 b (Maps.size D) D:=by obtain⟨d,c,e,F,f,a⟩:=h;refine⟨d,c,e,F, ?_,a⟩;rw[a];simp[Maps.size,length_sorted]
theorem aP.lt(h:aP P k w b N m):b<w.heap.size:=by obtain⟨D,a,_⟩:=h;exact a.lt
theorem aP.kept{a:World}{row:Option Nat}(h:aP P k w b N m)(e:w.grownBy a row)(f:some b≠row):aP P k a b N m:=by obtain⟨D,c,d⟩:=h;exact⟨D,c.kept e f,d⟩
theorem aP.block{a:World}(h:aP P k w b N m)(g:a.heap[b]?=w.heap[b]?):aP P k a b N m:=by obtain⟨D,⟨d,c,e,r⟩,f⟩:=h;exact⟨D,⟨d,c,g.trans e,r⟩,f⟩
theorem dW.block{a:World}(h:dW P k w b r N m left cnt)(l:a.heap[b]?=w.heap[b]?)(n:a.heap[r]?=w.heap[r]?):dW P k a b r N m left cnt:=by obtain⟨D,p,⟨e,d,q,seen,c,f,F,o,j,g,rest⟩,i⟩:=h;exact⟨D,p,⟨e,d,q,seen,c,l.trans f,F,o,j,n.trans g,rest⟩,i⟩
theorem dW.map(h:dW P k w b r N m left cnt):aP P k w b N m:=by obtain⟨D,e,a,c,d,_⟩:=h;exact⟨D,a.owns,c,d⟩
theorem dW.left_eq(h:dW P k w b r N m left cnt):w.rangeLeft b r=cnt:=by obtain⟨D,c,a,_⟩:=h;exact a.left_eq
theorem dW.lt(h:dW P k w b r N m left cnt):r<w.heap.size:=by obtain⟨D,c,a,_⟩:=h;exact a.lt
theorem aP.jH{t:TypeId}{a:Array Value}{c:Nat×Nat}(h:aP P k w b N m):w.heap[b]?≠some (.cells a t c):=by obtain⟨D,⟨g,f,d,r⟩,i⟩:=h;rw[d];intro e;cases e
theorem aP.made(w:World)(P:Program)(k:TypeId):aP P k (w.alloc (.map #[] 0)) w.heap.size 0 (λ_=>none) :=
 ⟨_,World.ownsMap_made w P k D6,rfl,λkey a _=>⟨rfl,λv h=>by cases h⟩,λkey h=>by cases h⟩
theorem Says.at{D:DataW Value}(h:Says P k D m){key:Value}{a:Lit}(e:keyOf P k key=some a)(c:Value):D.atKey a (.held c)=.held ((m key).getD c):=by
 obtain⟨b,d⟩:=h.1 key a e;cases hm:m key with
 | none=>rw[hm]at b;exact atKey_of_not_has b _
 | some v=>exact d v hm _
theorem aP.look{t e:TypeId}(h:aP P k w b N m)(K:Keyed P k)(j:P.underlying t=some (.map k e)){a:Value}(l:(zeroValue e).run P w=.ok a w){key:Value}{n:Lit}(d:keyOf P k key=some n):(Instr.lookup t (.map (some b)) key false).run P w=.ok ((m key).getD a) w:=by obtain⟨D,f,_,g⟩:=h;obtain⟨v,o,i,c⟩:=f.lookup K j l (show D6 a=some (.held a,[])from rfl) d;rw[g.at d a]at c;simp only[D6,Option.some.injEq,Prod.mk.injEq,DataW.held.injEq]at c;rw[i,c.1]
theorem aP.look_ok{t e:TypeId}(h:aP P k w b N m)(K:Keyed P k)(l:P.underlying t=some (.map k e)){a:Value}(n:(zeroValue e).run P w=.ok a w){key:Value}{g:Lit}(c:keyOf P k key=some g):(Instr.lookup t (.map (some b)) key true).run P w=.ok (.tuple #[(m key).getD a,.bool (m key).isSome]) w:=by obtain⟨D,i,_,f⟩:=h;obtain⟨v,o,j,d⟩:=i.look_ok K l n (show D6 a=some (.held a,[])from rfl) c;rw[f.at c a]at d;simp only[D6,Option.some.injEq,Prod.mk.injEq,DataW.held.injEq]at d;rw[j,d.1,(f.1 key g c).1]
theorem aP.len{t e:TypeId}(h:aP P k w b N m)(f:P.underlying t=some (.map k e))(a:TypeId):(Builtin.len_ #[t] a #[.map (some b)]).run P w=.ok (.int .i64 N) w:=by obtain⟨D,c,d,_⟩:=h;rw[c.len f a,d]
theorem aP.zero(h:aP P k w b N m)(K:Keyed P k)(g:∀key,m key=none):N=0:=by
 obtain⟨D,i,j,l⟩:=h;obtain⟨a,n,o,F,p,rfl⟩:=i;rw[<- j];simp only[Maps.size,length_sorted,List.length_map,Array.length_toList];rcases Nat.eq_zero_or_pos a.size with h|h
 .exact h
 .exfalso;obtain⟨x,e⟩:∃x,x∈a.toList:=⟨a[0],Ω⟩;obtain⟨y,f⟩:=F.reads x e;have d:=WideElems.rd_key f;have c:=(l.1 _ _ d).1;rw[g]at c;have:Maps.has (DataW.map ((a.toList.map (WideElems.rg P k D6)).foldr DataW.insert [])) y.1=true :=
   List.any_eq_true.2 ⟨WideElems.rg P k D6 x,mem_sorted.2 (ι.2 ⟨x,e,rfl⟩),by rw[WideElems.rg_of f];exact WideAt.sameKey_self (K.key d)⟩
  rw[this]at c;cases c
theorem aP.store{t e:TypeId}(h:aP P k w b N m)(K:Keyed P k)(E:P.underlying t=some (.map k e))(A:N<maxLen){key:Value}(val:Value){kl:Lit}(c:keyOf P k key=some kl):∃a,(Instr.mapUpdate t (.map (some b)) key val).run P w=.ok () a/\aP P k a b (if(m key).isSome then N else N+1) (upd m key val)/\w.grownBy a (some b)/\a.heap.size=w.heap.size:=by
 obtain⟨D,o,x,g⟩:=h;have l:=o.tidy K;have n:=K.key c;obtain⟨a,B,y,p⟩:=o.store K E A c (show D6 val=some (.held val,[])from rfl);have C:a.heap.size=w.heap.size:=by obtain⟨_,_,_,_,_,rfl⟩:=p;simp[setBlock]
 have q:Maps.size (D.put kl (.held val))=if(m key).isSome then N else N+1:=by rw[size_put l,(g.1 key kl c).1,x]
 refine⟨a,B,⟨_,q▸xM y,q, ?_, ?_⟩,p.grown,C⟩
 .intro d i f;by_cases e:d=key
  .subst e;rw[c]at f;cases f
   rw[upd_same];exact⟨has_put_same l.isMap n _,λv j s=>by cases j;exact atKey_put_same l.isMap n _ _⟩
  .have r:i≠kl:=λu=>e (K.inj f (u▸c));rw[eX e];exact⟨(has_put_other r _).trans (g.1 d i f).1,λv j s=>(atKey_put_other r _ _).trans ((g.1 d i f).2 v j s)⟩
 .intro d h;by_cases e:d=key
  .subst e;exact⟨kl,c⟩
  .rw[eX e]at h;exact g.2 d h
theorem aP.drop{t e:TypeId}(h:aP P k w b N m)(K:Keyed P k)(A:P.underlying t=some (.map k e)){key:Value}{kl:Lit}(d:keyOf P k key=some kl)(q:TypeId):∃a,(Builtin.delete_ #[t,k] q #[.map (some b),key]).run P w=.ok (.tuple #[]) a/\aP P k a b (if(m key).isSome then N-1 else N) (era m key)/\w.grownBy a (some b)/\a.heap.size=w.heap.size:=by
 obtain⟨D,l,s,g⟩:=h;have B:=l.tidy K;obtain⟨a,x,u,n⟩:=l.drop K A d q;have y:a.heap.size=w.heap.size:=by obtain⟨_,_,_,_,_,rfl⟩:=n;simp[setBlock]
 have o:Maps.size (D.del kl)=if(m key).isSome then N-1 else N:=by have:=size_del (k:=kl) B;rw[(g.1 key kl d).1,s]at this;split at this<;>simp_all<;>omega
 refine⟨a,x,⟨_,o▸xM u,o, ?_, ?_⟩,n.grown,y⟩
 .intro c i f;by_cases e:c=key
  .subst e;rw[d]at f;cases f
   rw[Bd];exact⟨has_del_same,λv j=>by cases j⟩
  .have p:i≠kl:=λr=>e (K.inj f (r▸d));rw[qp e];exact⟨(has_del_other p).trans (g.1 c i f).1,λv j C=>(atKey_del_other p _).trans ((g.1 c i f).2 v j C)⟩
 .intro c h;by_cases e:c=key
  .subst e;exact⟨kl,d⟩
  .rw[qp e]at h;exact g.2 c h
theorem aP.range{t e:TypeId}(h:aP P k w b N m)(K:Keyed P k)(o:P.underlying t=some (.map k e)):∃a,(Instr.range t (.map (some b))).run P w=.ok (.pointer (some (z w.heap.size))) a/\dW P k a b w.heap.size N m (λkey=>(m key).isSome=true) N/\w.grownBy a none/\a.heap.size=w.heap.size+1:=by obtain⟨D,f,d,c⟩:=h;obtain⟨a,n,g,i,j⟩:=f.range K o;exact⟨a,n,⟨D,_,d▸g,d,c,λkey p l=>by rw[(c.1 key p l).1],c.2⟩,i,j⟩
theorem dW.next(h:dW P k w b r N m left cnt)(K:Keyed P k)(j:TypeId):(cnt=0/\(∀key,¬left key)/\(Instr.next (.pointer (some (z r))) false j).run P w=.ok (.tuple #[.bool false]) w) \/ ∃key v w' c,left key/\m key=some v/\(Instr.next (.pointer (some (z r))) false j).run P w=.ok (.tuple #[.bool true,key,v]) w' /\ dW P k w' b r N m (λx=>left x/\x≠key) c/\c<cnt/\w.grownBy w' (some r)/\w'.heap.size=w.heap.size/\(Instr.entry (.pointer (some (z r)))).run P w'=.ok (.tuple #[key,v]) w':=by
 obtain⟨D,X,B,C,f,g,n⟩:=h;rcases B.next K j with⟨A,H,i⟩|⟨key,v,kl,Y,w',c,a,L,t,o,i,S,M,F,T,E⟩
 .refine τ ⟨A,λkey q=>?_,i⟩;obtain⟨kl,G⟩:=n key q;have:=(g key kl G).2 q;rw[H]at this;cases this
 .simp only[D6,Option.some.injEq]at t;subst t;have Q:m key=some v:=by
   have p:=(f.1 key kl a).1;rw[has_true_of_atKey o]at p;obtain⟨W,s⟩:=Option.isSome_iff_exists.1 p.symm;have:=(f.1 key kl a).2 W s (.held v);rw[o]at this;cases this
   exact s
  refine υ ⟨key,v,w',c,(g key kl a).1 L,Q,i,⟨D,_,S,C,f, ?_,λx U=>n x U.1⟩,M,F,T,E⟩;intro u l d;by_cases e:u=key
  .subst e;rw[a]at d;cases d
   simp[WideAt.sameKey_self (K.key a)]
  .have R:l≠kl:=λy=>e (K.inj d (y▸a));simp only[sameKey_ne R,Bool.not_false,Bool.and_true];rw[g u l d];exact⟨λh=>⟨h,e⟩,λh=>h.1⟩
section
variable{ops:Array Oper}{rest:List Oper}{o:Oper}{a:Act}{Q:Exit->Act->World->Prop}
theorem lG(i:o.guard=none)(c x:Operand)(t:TypeId)(n:o.op=Op.lookup t c x false)(e:TypeId)(K:Keyed P k)(p:P.underlying t=some (.map k e)){d:Value}(s:(zeroValue e).run P w=.ok d w)(l:a.eval c=.map (some b))(h:aP P k w b N m)(key:Value)(v:Lit)(r:a.eval x=key)(j:keyOf P k key=some v)(u:Value)(q:(m key).getD d=u)(f:wpList P ops Q rest (a.put o.dst u) w):wpList P ops Q (o::rest) a w:=by refine wpList_plain i λy g=>?_;unfold Oper.wp;simp[execOp,n,l,r,h.look K p s j,q,Result.andThen];exact g _ _ f
theorem lH(l:o.guard=none)(d x:Operand)(t:TypeId)(q:o.op=Op.lookup t d x true)(e:TypeId)(K:Keyed P k)(r:P.underlying t=some (.map k e)){f:Value}(y:(zeroValue e).run P w=.ok f w)(p:a.eval d=.map (some b))(h:aP P k w b N m)(key:Value)(A:Lit)(v:a.eval x=key)(n:keyOf P k key=some A)(u:Value)(s:(m key).getD f=u)(c:Bool)(j:(m key).isSome=c)(g:wpList P ops Q rest (a.put o.dst (.tuple #[u,.bool c])) w):wpList P ops Q (o::rest) a w:=by refine wpList_plain l λB i=>?_;unfold Oper.wp;simp[execOp,q,p,v,h.look_ok K r y n,s,j,Result.andThen];exact i _ _ g
theorem dO(i:o.guard=none)(d x v:Operand)(t:TypeId)(p:o.op=Op.mapUpdate t d x v)(e:TypeId)(K:Keyed P k)(r:P.underlying t=some (.map k e))(l:a.eval d=.map (some b))(h:aP P k w b N m)(n:N<maxLen)(key val:Value)(y:Lit)(u:a.eval x=key)(s:a.eval v=val)(j:keyOf P k key=some y)(f:∀c,aP P k c b (if(m key).isSome then N else N+1) (upd m key val)->w.grownBy c (some b)->c.heap.size=w.heap.size->wpList P ops Q rest (a.put o.dst undef) c):wpList P ops Q (o::rest) a w:=by refine wpList_plain i λD g=>?_;obtain⟨c,q,A,B,C⟩:=h.store K r n val j;unfold Oper.wp;simp[execOp,p,l,u,s,q,Result.andThen];exact g _ _ (f c A B C)
theorem Bg(i:o.guard=none)(d x:Operand)(t:TypeId)(n:o.op=Op.call { callee:=Callee.builtin Builtin.delete,args:=#[d,x],argTypes:=#[t,k] })(e:TypeId)(K:Keyed P k)(q:P.underlying t=some (.map k e))(l:a.eval d=.map (some b))(h:aP P k w b N m)(key:Value)(s:Lit)(r:a.eval x=key)(j:keyOf P k key=some s)(f:∀c,aP P k c b (if(m key).isSome then N-1 else N) (era m key)->w.grownBy c (some b)->c.heap.size=w.heap.size->wpList P ops Q rest (a.put o.dst (.tuple #[])) c):wpList P ops Q (o::rest) a w:=by refine wpList_plain i λA g=>?_;obtain⟨c,p,u,v,y⟩:=h.drop K q j o.type;unfold Oper.wp;simp[execOp,n,resolve,invoke,builtin,l,r,p,Result.andThen];exact g _ _ (f c u v y)
theorem Bh{p : Type}(B:o.guard=none)(n:Operand)(j:o.op=Op.next n false)(K:Keyed P k)(mk e:p->Value)(h:a.eval n=.pointer (some (z r)))(q:dW P k w b r N m left cnt)(G:∀key v,left key->m key=some v->∃x,key=mk x/\v=e x)(t:cnt=0->(∀key,¬left key)->wpList P ops Q rest (a.put o.dst (.tuple #[.bool false])) w)(u:∀(x:p)(c:World)(d:Nat),left (mk x)->m (mk x)=some (e x)->dW P k c b r N m (λy=>left y/\y≠mk x) d->d<cnt->w.grownBy c (some r)->c.heap.size=w.heap.size -> (Instr.entry (.pointer (some (z r)))).run P c=.ok (.tuple #[mk x,e x]) c->wpList P ops Q rest (a.put o.dst (.tuple #[.bool true,mk x,e x])) c):wpList P ops Q (o::rest) a w:=by
 refine wpList_plain B λL g=>?_;unfold Oper.wp;rcases q.next K o.type with⟨s,D,f⟩|⟨key,v,c,d,i,l,f,F,E,C,H,A⟩
 .simp[execOp,j,h,f,Result.andThen];exact g _ _ (t s D)
 .obtain⟨x,rfl,rfl⟩:=G key v i l;simp[execOp,j,h,f,Result.andThen];exact g _ _ (u x c d i l F E C H A)
end
end
section
open Go.Proofs.Tryz Go.RowKit Go.Maps Go.WideMaps
variable{a n:Nat}{c:Nat->Nat}
abbrev ou(a n:Int):Value:=.agg #[.int .i64 a,.int .i64 n]
abbrev lI:Value:=.agg #[]
theorem jd:Keyed prog 3:=int_keyed underlying3
theorem VB:laidOutB prog=true:=by kernel_rfl
theorem KP:134<prog.types.size:=of_decide_eq_true (by kernel_rfl)
theorem fG:Keyed prog 134:=Keyed.of_law (deep_law_laid VB (m:=2) V KP (by kernel_rfl) (by kernel_rfl))
theorem Ey(w:World):(zeroValue 3).run prog w=.ok (.int .i64 0) w:=by kernel_rfl
theorem KQ(w:World):(zeroValue 69).run prog w=.ok lI w:=by kernel_rfl
theorem wf64{n:Int}(h:-9223372036854775808<=n/\n<=9223372036854775807):(Lit.int .i64 n).wf=true:=WalkArith.wf_i64 V
theorem qw(a:Nat)(b:a<=1000):keyOf prog 3 (.int .i64 a)=some (.int .i64 a):=keyOf_int_mk underlying3 (wf64 V)
theorem Ez(d:Nat)(a n:Int)(b:(Lit.int .i64 a).wf=true)(c:(Lit.int .i64 n).wf=true):prog.keyLits (d+2) 134 [.int .i64 a,.int .i64 n]=some [.int .i64 a,.int .i64 n]:=by
 have e:prog.cellsOf 134=2:=by kernel_rfl
 have f:prog.cellsOf 3=1:=by kernel_rfl
 simp[underlying134,e,Program.keyLits,f,underlying3,b,c]
theorem KR(a n:Nat)(i:a<=1000)(j:n<=1000):∃kl,keyOf prog 134 (ou a n)=some kl:=by
 have b:(Lit.int .i64 a).wf=true:=wf64 V;have c:(Lit.int .i64 n).wf=true:=wf64 V;have h:prog.keyType 134=true:=by kernel_rfl
 have g:(ou a n).formed prog 134=true:=by
  have e:prog.cellsOf 134=2:=by kernel_rfl
  simp[Value.formed,underlying134,e]
 obtain⟨d,f⟩:∃d,prog.types.size+1=d+2:=⟨prog.types.size-1,by have:=KP;omega⟩;refine⟨.string (keyBytes [.int .i64 a,.int .i64 n]), ?_⟩;unfold keyOf;rw[underlying134,f];simp only[h,g,Bool.and_self,if_true];rw[show(ou a n).cells.toList=[.int .i64 a,.int .i64 n]from rfl,Ez d _ _ b c];rfl
def who(d:Nat):Nat:=d / 512
def nth(d:Nat):Nat:=d % 512
def mkD(a n:Nat):Nat:=a*512+n
theorem bW(h:n<512):who (mkD a n)=a:=by unfold who mkD;omega
theorem aZ(h:n<512):nth (mkD a n)=n:=by unfold nth mkD;omega
theorem qx(d:Nat):nth d<512:=by unfold nth;omega
theorem qX(d:Nat):mkD (who d) (nth d)=d:=by unfold who nth mkD;omega
theorem jl{x y:Nat}(a:who x=who y)(b:nth x=nth y):x=y:=by rw[<- qX x,<- qX y,a,b]
def okD(d:Nat):Prop:=who d<=5/\1<=nth d/\nth d<=501
abbrev aA(d:Nat):Value:=ou (who d:Int) (nth d:Int)
theorem Gq(h:n<512):ou (a:Int) (n:Int)=aA (mkD a n):=by unfold aA;rw[bW h,aZ h]
theorem dR{x y:Nat}(h:aA x=aA y):x=y:=by simp[ou]at h;exact jl V V
theorem iV{d:Nat}(h:okD d):d<3072:=by obtain⟨a,b,c⟩:=h;have:=qX d;unfold mkD at this;omega
theorem keyE(d:Nat)(a:who d<=1000):∃kl,keyOf prog 134 (aA d)=some kl:=KR (who d) (nth d) a (by have:=qx d;omega)
def aW(P:Program)(k:TypeId)(w:World)(v:Value)(N:Nat)(m:Value->Option Value):Prop:=(v=.map none/\N=0/\m=λ_=>none)\/∃b,v=.map (some b)/\aP P k w b N m
section
variable{P:Program}{k:TypeId}{w:World}{v:Value}{N:Nat}{m:Value->Option Value}
theorem aW.below{c:World}(h:aW P k w v N m)(e:ϑ w c):aW P k c v N m:=by
 rcases h with h|⟨b,d,a⟩
 .exact τ h
 .exact υ ⟨b,d,a.block (e.block b a.lt)⟩
theorem aW.look{t e:TypeId}(h:aW P k w v N m)(K:Keyed P k)(c:P.underlying t=some (.map k e)){f:Value}(d:(zeroValue e).run P w=.ok f w){key:Value}{i:Lit}(a:keyOf P k key=some i):(Instr.lookup t v key false).run P w=.ok ((m key).getD f) w:=by
 rcases h with⟨rfl,_,rfl⟩|⟨b,rfl,g⟩
 .simpa using Maps.look_nil false K c d a
 .exact g.look K c d a
theorem aW.look_ok{t e:TypeId}(h:aW P k w v N m)(K:Keyed P k)(c:P.underlying t=some (.map k e)){f:Value}(d:(zeroValue e).run P w=.ok f w){key:Value}{i:Lit}(a:keyOf P k key=some i):(Instr.lookup t v key true).run P w=.ok (.tuple #[(m key).getD f,.bool (m key).isSome]) w:=by
 rcases h with⟨rfl,_,rfl⟩|⟨b,rfl,g⟩
 .simpa using Maps.look_nil true K c d a
 .exact g.look_ok K c d a
theorem aW.len{t e:TypeId}(h:aW P k w v N m)(c:P.underlying t=some (.map k e))(a:TypeId):(Builtin.len_ #[t] a #[v]).run P w=.ok (.int .i64 N) w:=by
 rcases h with⟨rfl,rfl,rfl⟩|⟨b,rfl,d⟩
 .exact Maps.len_nil c a
 .exact d.len c a
variable{ops:Array Oper}{rest:List Oper}{o:Oper}{a:Act}{Q:Exit->Act->World->Prop}
theorem jT(g:o.guard=none)(b x:Operand)(t:TypeId)(l:o.op=Op.lookup t b x false)(e:TypeId)(K:Keyed P k)(n:P.underlying t=some (.map k e)){c:Value}(r:(zeroValue e).run P w=.ok c w)(j:a.eval b=v)(h:aW P k w v N m)(key:Value)(s:Lit)(q:a.eval x=key)(i:keyOf P k key=some s)(u:Value)(p:(m key).getD c=u)(d:wpList P ops Q rest (a.put o.dst u) w):wpList P ops Q (o::rest) a w:=by refine wpList_plain g λy f=>?_;unfold Oper.wp;simp[execOp,l,j,q,h.look K n r i,p,Result.andThen];exact f _ _ d
theorem dS(j:o.guard=none)(b x:Operand)(t:TypeId)(p:o.op=Op.lookup t b x true)(e:TypeId)(K:Keyed P k)(q:P.underlying t=some (.map k e)){d:Value}(y:(zeroValue e).run P w=.ok d w)(n:a.eval b=v)(h:aW P k w v N m)(key:Value)(A:Lit)(s:a.eval x=key)(l:keyOf P k key=some A)(u:Value)(r:(m key).getD d=u)(c:Bool)(i:(m key).isSome=c)(f:wpList P ops Q rest (a.put o.dst (.tuple #[u,.bool c])) w):wpList P ops Q (o::rest) a w:=by refine wpList_plain j λB g=>?_;unfold Oper.wp;simp[execOp,p,n,s,h.look_ok K q y l,r,i,Result.andThen];exact g _ _ f
end
noncomputable def cm(c:Nat->Nat):Value->Option Value:=λkey=>@dite _ (∃a:Nat,key=.int .i64 a) (Classical.propDecidable _) (λh=>if c (Classical.choose h)=0 then none else some (.int .i64 (c (Classical.choose h)))) (λ_=>none)
open Classical in
noncomputable def lm(L:Nat->Bool):Value->Option Value:=λkey=>if ∃d,L d=true/\key=aA d then some lI else none
theorem lJ(c:Nat->Nat)(a:Nat):cm c (.int .i64 a)=if c a=0 then none else some (.int .i64 (c a)):=by
 unfold cm;have h:∃b:Nat,Value.int .i64 a=.int .i64 b:=⟨a,rfl⟩;rw[dif_pos h];have d:=Classical.choose_spec h;have e:a=Classical.choose h:=by injection d with _ h2;omega
 rw[<- e]
theorem jI{key v:Value}(h:cm c key=some v):∃a:Nat,key=.int .i64 a/\v=.int .i64 (c a)/\c a≠0:=by
 by_cases b:∃a:Nat,key=.int .i64 a
 .obtain⟨a,rfl⟩:=b;rw[lJ]at h;split at h
  .cases h
  .rename_i h0;cases h;exact⟨a,rfl,rfl,h0⟩
 .unfold cm at h;rw[dif_neg b]at h;cases h
theorem EC{m:Value->Option Value}(b:∀a:Nat,m (.int .i64 a)=if c a=0 then none else some (.int .i64 (c a)))(d:∀key,(∀a:Nat,key≠.int .i64 a)->m key=none):m=cm c:=by
 funext key;by_cases h:∃a:Nat,key=.int .i64 a
 .obtain⟨a,rfl⟩:=h;rw[b,lJ]
 .rw[d key (λa e=>h ⟨a,e⟩)];unfold cm;rw[dif_neg h]
theorem ED(a:Nat)(c:Nat->Nat):(cm c (.int .i64 a)).getD (.int .i64 0)=.int .i64 (c a):=by
 rw[lJ];by_cases h:c a=0
 .rw[ώ h,h];(first|done|rfl)
 .rw[ύ h];(first|done|rfl)
theorem mY(d:Nat)(L:Nat->Bool):(lm L (aA d)).isSome=L d:=by
 unfold lm;by_cases h:L d=true
 .rw[ώ ⟨d,h,rfl⟩,h];(first|done|rfl)
 .rw[ύ,Bool.eq_false_iff.2 h];(first|done|rfl);rintro⟨d',a,b⟩;have:d=d':=dR b;exact h (this▸a)
theorem Gs(L:Nat->Bool)(key:Value):(lm L key).getD lI=lI:=by unfold lm;split<;>rfl
theorem KT{L:Nat->Bool}{key v:Value}(h:lm L key=some v):∃d,L d=true/\key=aA d/\v=lI:=by
 unfold lm at h;split at h
 .rename_i hh;obtain⟨d,a,b⟩:=hh;cases h;exact⟨d,a,b,rfl⟩
 .cases h
structure iI(w:World)(cv lv:Value)(c:Nat->Nat)(L:Nat->Bool):Prop where
 cs:∃N,aW prog 3 w cv N (cm c)
 ls:∃N,aW prog 134 w lv N (lm L)
 nI:∀a,c a<=501
 c5:∀a,c a≠0->a<=5
 ug:∀d,L d=true->okD d/\c (who d)<nth d
theorem iI.below{w e:World}{a d:Value}{L:Nat->Bool}(h:iI w a d c L)(b:ϑ w e):iI e a d c L:=by obtain⟨⟨N,g⟩,⟨f,i⟩,j,k,l⟩:=h;exact⟨⟨N,g.below b⟩,⟨f,i.below b⟩,j,k,l⟩
theorem next_any(w:World)(b f:Value)(a:Nat)(c:Nat->Nat)(L:Nat->Bool)(j:iI w b f c L)(s:a<=5):Calls prog 146 #[.agg #[b,f],.int .i64 a] w λi w'=>i=.returned (.agg #[.int .i64 a,.int .i64 ((c a+1:Nat):Int)])/\ϑ w w':=by obtain⟨⟨N,d⟩,⟨q,k⟩,e,l,m⟩:=j;have g:J<|∀w',ϑ w w'->aW prog 3 w' b N (cm c):=λw' n=>d.below n;have o:=qw a V;have p:=ED a c;have r:=e a;generalize c a=h at *;clear d k e l m;go_enter func146,ntmps146;go_wp2_with (first|(at_lookup;refine jT rfl (.tmp 7) (.tmp 8) 97 rfl 3 jd underlying97 (Ey _) rfl (g.o _ ?_) _ _ rfl o _ p ?_;(go_grown)));refine ϐ (v:=ou a ((h+1:Nat):Int)) (by simp[results,Tryz.results146,go_sem]) rfl ⟨rfl,Γ⟩
theorem yU(w:World)(e h:Value)(c:Nat->Nat)(d:Nat)(L:Nat->Bool)(t:iI w e h c L)(C:who d<=5):Calls prog 210 #[.agg #[e,h],aA d] w λs w'=>s=.returned (.bool (decide (nth d<=c (who d))||L d))/\ϑ w w':=by
 obtain⟨⟨N,j⟩,⟨r,k⟩,l,u,v⟩:=t;have i:J<|∀w',ϑ w w'->aW prog 3 w' e N (cm c):=λw' f=>j.below f;have q:J<|∀w',ϑ w w'->aW prog 134 w' h r (lm L):=λw' f=>k.below f;have m:=qw (who d) V;obtain⟨E,y⟩:=keyE d V;have p:=ED (who d) c;have A:=Gs L (aA d);have x:=mY d L;have B:=l (who d);have D:=qx d;unfold aA at *;generalize L d=F at *;generalize c (who d)=b at *;generalize who d=a at *;generalize nth d=n at *;clear j k l u v;by_cases o:n<=b
 .have g:decide (n<=b)=true:=by simpa using o
  rw[g];go_enter func210,ntmps210;go_wp2_with (first|(at_lookup;refine jT rfl (.tmp 10) (.tmp 12) 97 rfl 3 jd underlying97 (Ey _) rfl (i.o _ ?_) _ _ rfl m _ p ?_;(go_grown)));go_ret;exact⟨rfl,Γ⟩
 .have g:decide (n<=b)=false:=by simpa using o
  rw[g];go_enter func210,ntmps210;go_wp2_with (first|(at_lookup;refine jT rfl (.tmp 10) (.tmp 12) 97 rfl 3 jd underlying97 (Ey _) rfl (i.o _ ?_) _ _ rfl m _ p ?_;(go_grown))|(at_lookup;refine dS rfl (.tmp 17) (.tmp 18) 98 rfl 69 fG underlying98 (KQ _) rfl (q.o _ ?_) _ _ rfl y _ A _ x ?_;(go_grown)));go_ret;exact⟨Ω,Γ⟩
end
section
open Go.Proofs.Tryz Go.RowKit Go.Maps Go.WideMaps Go.ChangeMaps Go.MapKept
variable{N cb lb:Nat}{L:Nat->Bool}{c:Nat->Nat}{w:World}
structure oz(w:World)(cb lb:Nat)(c:Nat->Nat)(L:Nat->Bool):Prop where
 cs:∃N,aP prog 3 w cb N (cm c)
 ls:∃N,aP prog 134 w lb N (lm L)
 ne:cb≠lb
 nI:∀a,c a<=501
 c5:∀a,c a≠0->a<=5
 ug:∀d,L d=true->okD d/\c (who d)<nth d
theorem oz.X6(h:oz w cb lb c L):iI w (.map (some cb)) (.map (some lb)) c L:=by obtain⟨⟨N,b⟩,⟨a,d⟩,_,e,f,g⟩:=h;exact⟨⟨N,υ ⟨_,rfl,b⟩⟩,⟨a,υ ⟨_,rfl,d⟩⟩,e,f,g⟩
theorem oz.lt(h:oz w cb lb c L):cb<w.heap.size/\lb<w.heap.size:=by obtain⟨⟨N,a⟩,⟨d,b⟩,_⟩:=h;exact⟨a.lt,b.lt⟩
theorem oz.chg{M:Nat->Prop}{b:World}(h:oz w cb lb c L)(a:Chg M w b)(e:¬M cb)(f:¬M lb):oz b cb lb c L:=by obtain⟨⟨N,g1⟩,⟨d,g2⟩,g,i,j,k⟩:=h;exact⟨⟨N,g1.block (a.block _ g1.lt e)⟩,⟨d,g2.block (a.block _ g2.lt f)⟩,g,i,j,k⟩
theorem oz.below{a:World}(h:oz w cb lb c L)(b:ϑ w a):oz a cb lb c L:=h.chg (M:=λ_=>False) (Chg.of_below b) (λh=>h) (λh=>h)
theorem gX:∀(M:Nat)(l:List Nat),l.Pairwise (λx y=>x≠y)->(∀x∈l,x<M)->l.length<=M:=by
 intro M;induction M with
 | zero=>intro l _ h;cases l with|nil=>simp|cons x r=>exact absurd (h x Ω) V
 | succ M ih =>
  intro l b h;by_cases c:M∈l
  .have f:=ih (l.erase M) (b.sublist List.erase_sublist) (λx a=>by
    have d:=List.mem_of_mem_erase a;have g:=h x d;have i:x≠M:=λe=>by subst e;exact(List.Nodup.not_mem_erase (show l.Nodup from b)) a
    omega)
   have:=List.length_erase_of_mem c;omega
  .have:=ih l b (λx a=>by have:=h x a;have:x≠M:=λe=>c (e▸a);omega);omega
theorem aP.bound{P:Program}{k:TypeId}{b M:Nat}{m:Value->Option Value}(h:aP P k w b N m)(K:Keyed P k)(f:Nat->Value)(r:∀key,(m key).isSome=true->∃n,n<M/\key=f n):N<=M:=by
 obtain⟨D,o,p,q⟩:=h;obtain⟨c,j,A,F,B,rfl⟩:=o;have v:=(stamped_iff c j).1 F.stamped;rw[<- p];simp only[Maps.size,length_sorted,List.length_map];have a:∀x∈c.toList,∃n,n<M/\x.key=f n:=by intro x a;obtain⟨y,d⟩:=F.reads x a;have i:=WideElems.rd_key d;refine r _ ?_;rw[<- (q.1 _ _ i).1];exact List.any_eq_true.2 ⟨WideElems.rg P k D6 x,mem_sorted.2 (ι.2 ⟨x,a,rfl⟩),by rw[WideElems.rg_of d];exact WideAt.sameKey_self (K.key i)⟩
 obtain⟨g,e⟩:∃g:MapEntry->Nat,∀x∈c.toList,g x<M/\x.key=f (g x):=by refine⟨λx=>@dite Nat (x∈c.toList) (Classical.propDecidable _) (λh=>Classical.choose (a x h)) (λ_=>0),λx h=>?_⟩;dsimp only;rw[dif_pos h];exact Classical.choose_spec (a x h)
 have u:(c.toList.map g).Pairwise (λx y=>x≠y):=by rw[List.pairwise_map];refine List.Pairwise.imp_of_mem ?_ v.2.2;intro x y a d t l;exact t (by rw[(e x a).2,(e y d).2,l])
 have:=gX M _ u (λn s=>by obtain⟨x,a,rfl⟩:=ι.1 s;exact(e x a).1);simpa using this
theorem lK(h:aP prog 134 w lb N (lm L))(e:∀d,L d=true->okD d):N<=3072:=by
 refine h.bound fG (λd=>aA d) ?_;intro key a;unfold lm at a;split at a
 .rename_i h;obtain⟨d,b,c⟩:=h;exact⟨d,iV (e d b),c⟩
 .cases a
theorem yV(h:aP prog 3 w cb N (cm c))(e:∀a,c a≠0->a<=5):N<=6:=by refine h.bound jd (λa=>.int .i64 a) ?_;intro key f;obtain⟨v,g⟩:=Option.isSome_iff_exists.1 f;obtain⟨a,b,_,d⟩:=jI g;exact⟨a,by have:=e a d;omega,b⟩
def inc(c:Nat->Nat)(a:Nat):Nat->Nat:=λx=>if x=a then c a+1 else c x
theorem bP(c:Nat->Nat)(a:Nat):inc c a a=c a+1:=ώ rfl
theorem eY{a x:Nat}(h:x≠a):inc c a x=c x:=ύ h
theorem Sr(a:Nat)(c:Nat->Nat):upd (cm c) (.int .i64 a) (.int .i64 ((c a+1:Nat):Int))=cm (inc c a):=by
 apply EC
 .intro x;by_cases e:x=a
  .subst e;rw[upd_same,bP,ύ V]
  .rw[eX (λh=>e (by simp at h;omega)),lJ,eY e]
 .intro key b;rw[eX (b a)];cases h:cm c key with
  | none=>rfl
  | some v=>obtain⟨x,d,_⟩:=jI h;exact absurd d (b x)
theorem Sv(d:Nat)(L:Nat->Bool):upd (lm L) (aA d) lI=lm (λk=>L k||k==d):=by
 funext key;by_cases e:key=aA d
 .subst e;rw[upd_same];unfold lm;rw[ώ ⟨d,Ω,rfl⟩]
 .rw[eX e];unfold lm;congr 1;apply propext;constructor
  .rintro⟨k,a,b⟩;exact⟨k,by simp[a],b⟩
  .rintro⟨k,a,b⟩;simp at a;rcases a with a|a
   .exact⟨k,a,b⟩
   .subst a;exact absurd b e
theorem Sz(d:Nat)(L:Nat->Bool):era (lm L) (aA d)=lm (λk=>L k&&k !=d):=by
 funext key;by_cases e:key=aA d
 .subst e;rw[Bd];unfold lm;rw[ύ];rintro⟨k,a,b⟩;have:=dR b;subst this;simp at a
 .rw[qp e];unfold lm;congr 1;apply propext;constructor
  .rintro⟨k,a,b⟩;exact⟨k,by simp[a];rintro rfl;exact e b,b⟩
  .rintro⟨k,a,b⟩;simp at a;exact⟨k,a.1,b⟩
structure CG(w:World)(B cb lb:Nat)(c:Nat->Nat)(L:Nat->Bool)(wx:World):Prop where
 ctx:oz wx cb lb c L
 b0:wx.cell? (z B)=some (.map (some cb))
 b1:wx.cell? (O B 1)=some (.map (some lb))
 old:cb<w.heap.size/\lb<w.heap.size
 new:w.heap.size<=B
 lt:B<wx.heap.size
 chg:Chg (λk=>k=cb\/k=lb) w wx
theorem CG.below{B:Nat}{wx wy:World}(h:CG w B cb lb c L wx)(a:ϑ wx wy):CG w B cb lb c L wy :=
 ⟨h.ctx.below a,(a.cell (p:=(z B)) h.lt).trans h.b0,(a.cell (p:=(O B 1)) h.lt).trans h.b1,h.old,h.new,ο h.lt a.size,h.chg.below a⟩
theorem CG.grown{B:Nat}{d:Nat->Nat}{b:Nat->Bool}{wx wy:World}{k:Nat}(h:CG w B cb lb c L wx)(a:wx.grownBy wy (some k))(l:k=cb\/k=lb)(j:oz wy cb lb d b):CG w B cb lb d b wy:=by
 have g:some B≠some k:=λe=>by cases e;have:=h.old;have:=h.new;omega
 have f:∀i,wy.cell? (O B i)=wx.cell? (O B i):=λi=>η (w:=wx) (a.block B h.lt g);exact⟨j,(f 0).trans h.b0,(f 1).trans h.b1,h.old,h.new,ο h.lt a.size,h.chg.grown a (λm e=>by cases e;exact τ l)⟩
