import Derived.Test.YtfmmllpjgkgeaabGreatDoorZ19
set_option linter.all false
set_option maxHeartbeats 0
set_option maxRecDepth 100000
namespace Go.Proofs.YtfmmllpjgkgeaabGreatDoor
open Go.Proofs.Tryz Go.RowKit Go.Maps Go.WideMaps
def zF:∀(f p n k j:Nat),j<(dD k).length->Bz f p n ((dD k).take j)=none
 | 0,_,_,_,_,_=>rfl
 | _+1,_,_,_,0,_=>rfl
 | f+1,p,n,k,j+1,hj=>by
  by_cases h:k<128
  .rw[o7 h]at hj;simp at hj
  .rw[o8 h]at hj⊢;rw[List.take_succ_cons];show(if(UInt8.ofNat (k % 128+128)).toNat<128 then _ else _)=none;have:(UInt8.ofNat (k % 128+128)).toNat=k % 128+128:=by rw[UInt8.toNat_ofNat'];omega
   rw[this,ύ V];exact zF f _ _ (k / 128) j (by simpa using hj)
def JJ.none{f p n hi:Nat}{l:Thk.Bs}(h:Bz f p n l=.none):JJ f p n l hi:=λN r a=>by rw[h]at a;cases a
def BA(l:Thk.Bs):Prop:=JJ 4 1 0 l l.length\/∃N r,Bz 4 1 0 l=some (N,r)/\N<=l.length/\r.length<N
def Xd(t:Thk.Bs)(g:t.length<268435456)(j:Nat)(d:j<(dD t.length++t).length):BA ((dD t.length++t).take j):=by
 by_cases h:j<(dD t.length).length
 .refine τ (JJ.none ?_);rw[List.take_append_of_le_length V];exact zF 4 1 0 t.length j h
 .have e:(dD t.length++t).take j=dD t.length++t.take (j-(dD t.length).length):=by rw[List.take_append,ϑg V]
  have b:Bz 4 1 0 ((dD t.length++t).take j)=some (t.length,t.take (j-(dD t.length).length)):=by rw[e,yK 3 1 0 t.length _ V];simp
  have f:(t.take (j-(dD t.length).length)).length<t.length:=by rw[ρ]at d;rw[List.length_take];omega
  by_cases c:t.length<=((dD t.length++t).take j).length
  .exact υ ⟨_,_,b,c,f⟩
  .refine τ (λN r a=>?_);rw[b]at a;cases a
   omega
def PK(w:World)(q:ByteArray)(F:q.size<=900000)(n:Nat)(t:Thk.Bs)(R:n<268435456)(U:t.length<=800000)(j:Nat)(E:j<(dD n++(dD t.length++t)).length)(G:fB (ay q)=some ((dD n++(dD t.length++t)).take j)):Calls prog 233 #[.string q] w λe w'=>e=.returned (.tuple #[I ((if j<(dD n).length then 0 else n:Nat):Int),.string ⟨#[]⟩,.bool false])/\Below w.heap.size w w':=by
 have i:J<|_:=kZ q w F;rw[G]at i;generalize D:((some ((dD n++(dD t.length++t)).take j)).getD [])=L at i;have l:L=(dD n++(dD t.length++t)).take j:=D.symm;have P:=jc 3 n V;have Q:=jc 3 t.length V;have N:L.length<=900000:=by rw[l,List.length_take];simp only[ρ];omega
 have p:(⟨L.toArray⟩:ByteArray).size=L.length:=by show L.toArray.size=_;simp
 have r:ay (⟨L.toArray⟩:ByteArray)=L:=by unfold ay;simp
 have x:J<|∀c b,mO c b ⟨L.toArray⟩->Calls prog 160 #[.pointer (some (z b)),I 0,I 268435455] c λe w'=>∃a d,e=.returned (I ((if j<(dD n).length then 0 else n:Nat):Int))/\J (aC w' b #[.string a,.bool d] 277/\(d=true->a=⟨#[]⟩)/\BA (ay a)/\a.size<=1000000000/\aA (λu=>u=b) c w'):=λc b f=>by
  by_cases h:j<(dD n).length
  .rw[ώ h];have S:Bz 4 1 0 (ay (⟨L.toArray⟩:ByteArray))=none:=by rw[r,l,List.take_append_of_le_length V];exact zF 4 1 0 n j h
   refine ψ (Am c b ⟨L.toArray⟩ false 268435455 f (JJ.none S) V (by rw[p];omega)) ?_;rintro e w'⟨rfl,m,k⟩;exact⟨_,_,rfl,m,λ_=>rfl,τ (JJ.none rfl),Ψ,k⟩
  .rw[ύ h];have e:L=dD n++(dD t.length++t).take (j-(dD n).length):=by rw[l,List.take_append,ϑg V]
   have T:Bz 4 1 0 (ay (⟨L.toArray⟩:ByteArray))=some (n,(dD t.length++t).take (j-(dD n).length)):=by rw[r,e,yK 3 1 0 n _ V];simp
   refine ψ (oq c b ⟨L.toArray⟩ n 0 268435455 _ f T (Nat.zero_le _) V V (by rw[p];omega)) ?_;rintro e w'⟨a,rfl,m,k,H⟩;refine⟨a,false,rfl,m,λh=>(by cases h), ?_, ?_,H⟩
   .rw[k];exact Xd t V _ (by rw[ρ]at E;omega)
   .have M:a.size=(ay a).length:=by simp[ay]
    rw[M,k,List.length_take];simp only[ρ];omega
 have y:J<|∀c b a d,(aC c b #[.string a,.bool d] 277/\(d=true->a=⟨#[]⟩)/\BA (ay a)/\a.size<=1000000000)->Calls prog 247 #[.pointer (some (z b))] c λe w'=>e=.returned (.string ⟨#[]⟩)/\J (YU w' b/\aA (λu=>u=b) c w'):=λc b a d f=>by have o:=f.2.2.1;unfold BA at o;rw[qw]at o;exact TY c b a d f.1 f.2.1 o f.2.2.2
 generalize (if j<(dD n).length then 0 else n:Nat)=W at *;clear G D l N p r F P Q U R E;generalize (⟨L.toArray⟩:ByteArray)=Y at *;go_enter func233,ntmps233;go_wp2_with fail;refine ψ i.o ?_;rintro e Z⟨rfl,C⟩;simp only[Option.isSome_some];have A:=ω C;clear i C;go_wp2_with fail;refine ψ (jG _ _) ?_;rintro e w2⟨rfl,rfl⟩;go_wp2_with fail;refine ψ (x.o _ _ (aC.new _ _ _)) ?_;rintro e w3⟨X,K,rfl,g⟩;clear x;go_wp2_with fail;refine ψ (y.o _ _ X K ⟨g.o.1,g.o.2.1,g.o.2.2.1,g.o.2.2.2.1⟩) ?_;rintro e w4⟨rfl,B⟩;clear y;go_wp2_with fail;refine ψ (Ua _ _ B.o.1) ?_;rintro e w5⟨rfl,rfl⟩;go_wp2;have s:=A.o.size;exact ϐ (v:=.tuple #[I W,.string ⟨#[]⟩,.bool false]) (by simp[results,Tryz.results233,go_sem]) rfl ⟨rfl,DF (DF (A.o.alloc s _) g.o.2.2.2.2 s) B.o.2 s⟩
def PL{q:ByteArray}{n k:Nat}{t:Thk.Bs}(c:ay q=(slotL n t).take k)(v:k<(slotL n t).length)(j:n<268435456)(o:t.length<=800000):∃p,Opens q (p,[],false):=by
 have s:=jc 3 n V;have u:=jc 3 t.length V;have m:(slotL n t).length=(dD n++(dD t.length++t)).length+4:=by unfold slotL;rw[gJ]
 have d:(ay q).length=k:=by rw[c,List.length_take];omega
 have e:q.size<=900000:=by rw[<- qw,d];simp only[ρ]at m;omega
 cases hu:fB (ay q) with
 | none =>refine⟨0,λb=>?_⟩;refine ψ (Ak b q hu e) ?_;rintro f r⟨rfl,a⟩;exact⟨_,rfl,rfl,a⟩
 | some l =>
  have g:4<=(ay q).length/\l=(ay q).take ((ay q).length-4):=by
   unfold fB at hu;split at hu
   .rename_i h;cases hu;exact⟨h.1,rfl⟩
   .cases hu
  have i:l=(dD n++(dD t.length++t)).take (k-4):=by rw[g.2,d,c,List.take_take,Nat.min_eq_left V];unfold slotL bM;rw[List.take_append_of_le_length V]
  refine⟨if k-4<(dD n).length then 0 else n,λb=>?_⟩;refine ψ (PK b q e n t j o (k-4) V (by rw[hu,i])) ?_;rintro f r⟨rfl,a⟩;exact⟨_,rfl,rfl,a⟩
def ZF(w:World)(a n:Nat)(t:Thk.Bs)(k:Nat)(s:ByteArray)(u:gy w a n t true (k:Int))(h:n+1<268435456)(j:s.size<=800000):Calls prog 144 #[.pointer (some (z a)),.string s] w λe w'=>e=.returned (.bool false)/\((k<(slotL (n+1) (ay s)).length/\gy w' a n t false (k:Int))\/((slotL (n+1) (ay s)).length<=k/\gy w' a (n+1) (ay s) false (k:Int)))/\aA (λH=>H=a) w w':=by
 obtain⟨G,b,y,d,c,v⟩:=u;have m:=Jb c v;have q:=PI w a G k b s y d (by rw[m];exact h) j;rw[m]at q;refine ψ q ?_;rintro e w'⟨rfl,⟨F,p,o⟩,x⟩;have D:(n+1+1) % 2≠(n+1) % 2:=V
 have r:(n+1+1) % 2=n % 2:=V
 have E:n % 2≠(n+1) % 2:=V
 refine⟨rfl, ?_,x⟩;by_cases g:k<(slotL (n+1) (ay s)).length
 .obtain⟨C,B⟩:=PL p g h (by rw[qw];exact j);refine τ ⟨g,_,λi=>if i=(n+1) % 2 then(C,[],false)else b i,o,λi f=>?_, ?_,λl=>?_⟩
  .unfold yL;by_cases e:i=(n+1) % 2
   .simp only[e,if_true];exact B
   .simp only[e,if_false];exact d i f
  .simp only[E,if_false];exact c
  .simp only[if_true]at l;cases l
 .refine υ ⟨V,_,λi=>if i=(n+1) % 2 then(n+1,ay s,true)else b i,o,λi f=>?_,Ω,λ_=>?_⟩
  .unfold yL;by_cases e:i=(n+1) % 2
   .simp only[e,if_true];have A:=Nat.le_of_not_lt g;refine tq ?_ h (by rw[qw];exact j);rw[show ay F=(slotL (n+1) (ay s)).take k from p,ϑg A]
   .simp only[e,if_false];exact d i f
  .simp only[D,if_false];rw[r,c];exact Nat.lt_succ_self n
