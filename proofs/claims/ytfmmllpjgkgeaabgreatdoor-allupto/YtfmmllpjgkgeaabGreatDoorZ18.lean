import Derived.Test.YtfmmllpjgkgeaabGreatDoorZ17
set_option linter.all false
set_option maxHeartbeats 0
set_option maxRecDepth 100000
namespace Go.Proofs.YtfmmllpjgkgeaabGreatDoor
section
open Go.Proofs.Tryz Go.RowKit Go.Maps Go.WideMaps
variable{j rb:Nat}{w:World}
def Glob.aJ{M:Nat->Prop}{w':World}(h:Glob w)(b:aA M w w')(o:∀k,M k->3<k):Glob w':=by have a:Below 4 w w':=⟨b.os,b.tape,b.output,b.size,λk s=>b.block k (by have:=h.size;omega) (λq=>by have:=o k q;omega)⟩;obtain⟨⟨r,e⟩,⟨c,f,i⟩,⟨d,j,l⟩,m,n⟩:=h;refine⟨⟨r,(a.cell (p:=(z 0)) Ψ).trans e⟩,⟨c,(a.cell (p:=(z 1)) Ψ).trans f,i⟩,⟨d,(a.cell (p:=(z 2)) Ψ).trans j,l⟩, ?_,ο n a.size⟩;exact var?_below (g:=3) a (by kernel_rfl) Ψ m
def Lp(w:World)(Q:Glob w)(rb:Nat)(a0:3<rb)(s:ByteArray)(t r:Thk.Bs)(c:Thk.Ch)(F:mO w rb s)(T:ay s=aZ t.length++t++r)(ht:t.length<16384)(a1:s.size<=1000000000)(a:Thk.read t=.inr c)(S:jq c.act=true):Calls prog 218 #[.pointer (some (z rb))] w λe w'=>∃f,e=.returned (sK c)/\mO w' rb f/\ay f=r/\aA (λk=>k=rb) w w':=by
 have a3:=F.lt;have N:J<|∀j,Calls prog 247 #[.pointer (some (z rb))] (w.alloc j) λe w'=>∃u f,e=.returned (.string u)/\(ay u=t/\mO w' rb f/\ay f=r)/\aA (λk=>k=rb) (w.alloc j) w'/\Glob w':=λj=>by have hb:Below w.heap.size w (w.alloc j):=(φ _ w).alloc (χ _) _;refine ψ (TJ (w.alloc j) rb s t r (F.alloc j) T ht a1) ?_;rintro e w'⟨u,f,rfl,h1,h2,h3,P⟩;exact⟨u,f,rfl,⟨h1,h2,h3⟩,P,(Q.mono hb).aJ P (λk C=>by subst C;exact a0)⟩
 clear F T Q;go_enter func218,ntmps218;go_wp2_with fail;refine ψ (N.o _) ?_;rintro e D⟨u,g,rfl,m,K,R⟩;have W:aC D w.heap.size #[.string ⟨#[]⟩,.int .u8 0,.string ⟨#[]⟩,I 0] 85:=(aC.new w _ _).aJ K V;have hu:u.size<=1048576:=by
  have:u.size=(ay u).length:=by simp[ay]
  rw[this,m.1];omega
 have y:J<|_:=yw u D hu R;have q:J<|mO D rb g/\ay g=r/\aA (λk=>k=rb) w D:=⟨m.2.1,m.2.2,(aA.of_below ((φ _ w).alloc (χ _) _):aA (λk=>k=rb) w _).trans K⟩;rw[m.1,a]at y;unfold QU at y;unfold sK at *;clear N m K R a;go_wp2_with fail;refine ψ y.o ?_;rintro e d⟨rfl,B⟩;have b:=W.below B;have M:J<|mO d rb g/\ay g=r/\aA (λk=>k=rb) w d:=⟨q.o.1.below B,q.o.2.1,q.o.2.2.below B⟩;have a2:=b.lt;have X:=(b.cell 0).trans rfl;have Y:=(b.cell 1).trans rfl;have Z:=(b.cell 2).trans rfl;have r3:=(b.cell 3).trans rfl;have f0:=b.frozen;have L:J<|∀o,Calls prog 81 #[.agg #[.string ⟨c.path.toArray⟩,.int .u8 (c.act.toNat:Int),.string (aG c.act ⟨c.val.toArray⟩),I c.n]] o λe w'=>e=.returned (.bool true)/\Below o.heap.size o w':=λo=>by have:=xY ⟨c.path.toArray⟩ c.act (aG c.act ⟨c.val.toArray⟩) c.n o;rw[S]at this;exact this
 have U:=aC.new d #[.string ⟨c.path.toArray⟩,.int .u8 (c.act.toNat:Int),.string (aG c.act ⟨c.val.toArray⟩),I c.n] 85;have G:Below d.heap.size d (d.alloc (.cells #[.string ⟨c.path.toArray⟩,.int .u8 (c.act.toNat:Int),.string (aG c.act ⟨c.val.toArray⟩),I c.n] 85)):=(φ _ d).alloc (χ _) _;have x:=ω M.o;clear W B y q S;go_wp2_with fail;generalize d.alloc (.cells #[.string ⟨c.path.toArray⟩,.int .u8 (c.act.toNat:Int),.string (aG c.act ⟨c.val.toArray⟩),I c.n] 85)=w3 at *;refine ψ (L.o _) ?_;rintro e n⟨rfl,H⟩;have l:=U.below H;have g0:=(l.cell 0).trans rfl;have g1:=(l.cell 1).trans rfl;have g2:=(l.cell 2).trans rfl;have g3:=(l.cell 3).trans rfl;have A:=G.trans (H.mono G.size);have i:=b.below A;have X:=(i.cell 0).trans rfl;have Y:=(i.cell 1).trans rfl;have Z:=(i.cell 2).trans rfl;have r3:=(i.cell 3).trans rfl;have f0:=i.frozen;have E:J<|mO n rb g/\ay g=r/\aA (λk=>k=rb) w n:=⟨x.o.1.below A,x.o.2.1,x.o.2.2.below A⟩;clear U l G H A b i L M x;go_wp2_with fail;have a:aA (λk=>k=w.heap.size) n ((((n.setCell (z w.heap.size) (.string ⟨c.path.toArray⟩)).setCell (O w.heap.size 1) (.int .u8 (c.act.toNat:Int))).setCell (O w.heap.size 2) (.string (aG c.act ⟨c.val.toArray⟩))).setCell (O w.heap.size 3) (I c.n)):=((((aA.refl (λk=>k=w.heap.size) n).setCell (p:=(z w.heap.size)) rfl _).setCell (p:=(O w.heap.size 1)) rfl _).setCell (p:=(O w.heap.size 2)) rfl _).setCell (p:=(O w.heap.size 3)) rfl _;refine ϐ (v:=.agg #[.string ⟨c.path.toArray⟩,.int .u8 (c.act.toNat:Int),.string (aG c.act ⟨c.val.toArray⟩),I c.n]) (by simp[results,Tryz.results218,go_sem,X,Y,Z,r3,bV,aT,World.cell?_setCell_other]) rfl ⟨g,rfl, ?_,E.o.2.1, ?_⟩
 .exact aC.aJ E.o.1 a V
 .have h:=E.o.2.2;exact⟨a.os.trans h.os,a.tape.trans h.tape,a.output.trans h.output,ς h.size a.size,λk C hm=>(a.block k (ο C h.size) V).trans (h.block k C hm)⟩
def jG(w:World)(s:ByteArray):Calls prog 159 #[.string s] w λe w'=>e=.returned (.pointer (some (z w.heap.size)))/\w'=w.alloc (.cells #[.string s,.bool false] 277):=by go_enter func159,ntmps159;go_wp2;go_ret;exact⟨rfl,rfl⟩
def zC(w:World)(rb:Nat)(s:ByteArray)(h:mO w rb s)(a:ay s=[]):Calls prog 162 #[.pointer (some (z rb))] w λe w'=>e=.returned (.bool true)/\w'=w:=by have b:s=⟨#[]⟩:=nY a;subst b;have c:=(h.cell 0).trans rfl;have d:=(h.cell 1).trans rfl;clear h a;go_enter func162,ntmps162;go_wp2;go_ret;exact⟨rfl,rfl⟩
def okR(r:Nat×Nat):Prop:=(who r.1<=5/\1<=nth r.1/\nth r.1<=501)/\1<=r.2/\r.2<=505/\nth r.1+r.2<=502
structure RS(w:World)(rb:Nat)(rs:List (Nat×Nat))(rest:Thk.Bs)(i:Nat)(v3:Value)(wx:World):Prop where
 rd:∃s,mO wx rb s/\ay s=(rs.drop i).flatMap encR++rest/\s.size<=1000000000
 row:wx.ownsRow w.heap.size 140 2 v3 (bP (rs.take i)).length (bK (bP (rs.take i)))
 aJ:aA (λk=>k=rb) w wx
def sW{w:World}{rb:Nat}{s s':ByteArray}{a b:Thk.Bs}(h:ay s=a++b)(e:ay s'=b)(f:s.size<=1000000000):s'.size<=1000000000:=by
 have c:s'.size=(ay s').length:=by simp[ay]
 have d:s.size=(ay s).length:=by simp[ay]
 rw[e]at c;rw[h,ρ]at d;omega
def WT(rs:List (Nat×Nat))(a:Thk.Bs)(i:Nat)(b:i<rs.length):(rs.drop i).flatMap encR++a=ku rs[i].1++(aZ rs[i].2++((rs.drop (i+1)).flatMap encR++a)):=by rw[List.drop_eq_getElem_cons b,List.flatMap_cons];unfold encR;simp only[ϑl]
def Gn(rs:List (Nat×Nat))(i:Nat)(a:i<rs.length):bP (rs.take (i+1))=bP (rs.take i)++iP rs[i]:=by rw[ν a,wU]
def jH(its:List (Nat×Thk.Bs))(j:Nat):Nat->Option Value:=λd=>((its.take j).reverse.find? (λx=>x.1==d)).bind (λx=>match Thk.read x.2 with | .inr c=>some (sK c) | .inl _=>none)
def TL(a:List (Nat×Thk.Bs))(j:Nat)(g:j<a.length)(c:Thk.Ch)(f:Thk.read a[j].2=.inr c):jH a (j+1)=λd=>if d=a[j].1 then some (sK c)else jH a j d:=by
 funext d;unfold jH;rw[ν g,List.reverse_append,List.reverse_singleton,List.singleton_append,List.find?_cons];by_cases e:d=a[j].1
 .subst e;simp[f]
 .have b:(a[j].1==d)=false:=by simpa using λh=>e h.symm
  rw[b,ύ e]
def I8{b:List (Nat×Thk.Bs)}{P:Nat->Prop}(h:∀x∈b,P x.1)(j d:Nat)(a:jH b j d≠none):P d:=by
 unfold jH at a;cases hf:(b.take j).reverse.find? (λx=>x.1==d) with
 | none=>rw[hf]at a;exact absurd rfl a
 | some x =>
  have c:=List.find?_some hf;have e:=List.mem_of_find?_eq_some hf;have f:x.1=d:=by simpa using c
  rw[<- f];exact h x (List.mem_of_mem_take (List.mem_reverse.1 e))
def TM{b:List (Nat×Thk.Bs)}{d:Nat}{v:Value}(a:jH b j d=some v):Ad v:=by
 unfold jH at a;cases hf:(b.take j).reverse.find? (λx=>x.1==d) with
 | none=>rw[hf]at a;cases a
 | some x =>
  rw[hf]at a;simp only[Option.bind_some]at a;split at a
  .cases a;exact⟨_,_,_,_,rfl⟩
  .cases a
def TN(a:List (Nat×Thk.Bs))(r:Thk.Bs)(j:Nat)(b:j<a.length):(a.drop j).flatMap encI++r=ku a[j].1++(aZ a[j].2.length++a[j].2++((a.drop (j+1)).flatMap encI++r)):=by rw[List.drop_eq_getElem_cons b,List.flatMap_cons];unfold encI;simp only[ϑl]
def Py{base:Nat}{v:Value}{ns:List Nat}(h:w.ownsRow base 140 2 v ns.length (bK ns)):dN w v ns:=by
 have m:=h.lt;have e:=λg(a:v.ownBlock=some g)=>h.cells a;rcases h.2 with⟨b,i⟩|⟨g,f,n,b,_,_,k,_⟩
 .exact τ ⟨b,ϑr i⟩
 .subst b;refine υ ⟨g,0,f,rfl,k,(m g rfl).2,λj l=>?_⟩;have a:=wQ ns j l;have c:=e g rfl _ _ a.1;have d:=e g rfl _ _ a.2;rw[QZ]at c d;rw[Nat.zero_add];exact⟨c,d⟩
structure RT(w:World)(rb:Nat)(its:List (Nat×Thk.Bs))(u3:Value)(fl:List Nat)(mb j:Nat)(wx:World):Prop where
 row:wx.ownsRow w.heap.size 140 2 u3 fl.length (bK fl)
 mp:∃N,dB prog 140 wx mb N (im (jH its j))
 kr:aC wx w.heap.size #[.map none,.map none,.map none] 101
 aJ:aA (λk=>k=rb) w wx
 new:w.heap.size<mb
 rbw:rb<w.heap.size
def RT.to{d:List (Nat×Thk.Bs)}{u3:Value}{b:List Nat}{e:Nat}{wx wy:World}(h:RT w rb d u3 b e j wx)(a:aA (λl=>l=rb) wx wy):RT w rb d u3 b e j wy:=by have f:=h.new;have i:=h.rbw;obtain⟨N,c⟩:=h.mp;exact⟨bG h.row a (λg k m=>by have:=(h.row.lt g k).1;omega),⟨N,c.block (a.block _ c.lt V)⟩,h.kr.aJ a V,h.aJ.trans a,f,i⟩
def RT.put{b:List (Nat×Thk.Bs)}{u3:Value}{i:List Nat}{mb N:Nat}{wx wy:World}(h:RT w rb b u3 i mb j wx)(t:j<b.length)(c:Thk.Ch)(q:Thk.read b[j].2=.inr c)(r:wx.grownBy wy (some mb))(f:dB prog 140 wy mb N (upd (im (jH b j)) (aW b[j].1) (sK c))):RT w rb b u3 i mb (j+1) wy:=by
 have n:=h.new;have o:=h.rbw;obtain⟨v,p⟩:=h.mp;have a:aA (λk=>k=mb) wx wy:=(aA.refl _ wx).grown r (λk e=>by cases e;exact τ rfl);have u:∀g,u3.ownBlock=some g->g≠mb:=λg l e=>by rw[e]at l;exact ownsRow_ne h.row (λx y s=>p.l7 s) l
 refine⟨bG h.row a u,⟨N,by rw[TL b j t c q,<- IJ];exact f⟩,h.kr.aJ a V, ?_,n,o⟩;have d:=h.aJ;exact⟨a.os.trans d.os,a.tape.trans d.tape,a.output.trans d.output,ς d.size a.size,λk m f=>(a.block k (ο m d.size) V).trans (d.block k m f)⟩
def Dy(w:World)(hG:Glob w)(rb:Nat)(bk:3<rb)(s:ByteArray)(rs:List (Nat×Nat))(a:List (Nat×Thk.Bs))(r:Thk.Bs)(h:mO w rb s)(hs:ay s=encS rs a++r)(bm:s.size<=1000000000)(cs:rs.length<=505)(ap:∀x∈rs,okR x)(cn:a.length<=505)(Vm:∀x∈a,(who x.1<=5/\1<=nth x.1/\nth x.1<=501)/\x.2.length<16384/\∃o,Thk.read x.2=.inr o/\jq o.act=true):Calls prog 161 #[.pointer (some (z rb))] w λe w'=>∃S R T f,e=.returned (.agg #[.map (some S),.map (some R),.map (some T)])/\aP w' S R T (λd=>jH a a.length d≠none\/d∈bP rs) (jH a a.length)/\mO w' rb f/\ay f=r/\(w.heap.size<=S/\w.heap.size<=R/\w.heap.size<=T)/\aA (λk=>k=rb) w w':=by
 have cq:=@run_makeMap prog;obtain⟨i0,hi,cf,cg,a7⟩:=info_parts Tryz.infoDot;have c7:=h.lt;have az:=ω ap;have H:=ω Vm;have bp:=ω hG;obtain⟨rest,ao⟩:∃rest,rest=aZ a.length++(a.flatMap encI++r):=⟨_,rfl⟩;have cy:ay s=aZ rs.length++(rs.flatMap encR++rest):=by rw[hs,ao];unfold encS;simp only[ϑl]
 have bu:=ω ao;have b0:∀i,i<=rs.length->(bP (rs.take i)).length<=i*505:=by
  intro i;induction i with
  | zero=>intro _;simp[bP]
  | succ i ih =>intro h;rw[Gn rs i V,ρ,sS];have:=ih V;have q:=(ap rs[i] (κ V)).2.2.1;omega
 have b1:=ω b0;have HN:J<|∀l,Calls prog 160 #[.pointer (some (z rb)),I 0,I 505] (w.alloc l) λe w'=>e=.returned (I rs.length)/\RS w rb rs rest 0 (.slice none 0 0) w'/\aA (λk=>k=rb) (w.alloc l) w':=λl=>by refine ψ (iK (w.alloc l) rb s rs.length 0 505 (rs.flatMap encR++rest) (h.alloc l) cy V V V V bm) ?_;rintro e w'⟨f,rfl,E,q,C⟩;have u:=(aA.of_below ((φ _ w).alloc (χ _) l):aA (λk=>k=rb) w _).trans C;exact⟨rfl,⟨⟨f,E,q,sW (w:=w) (rb:=rb) cy q bm⟩,ϑj _ _ _ _,u⟩,C⟩
 clear h hs cy ao ap Vm hG b0;go_enter func161,ntmps161;go_wp2_with fail;refine ψ (HN.o _) ?_;rintro e w1⟨rfl,b3,sV⟩;have bn:aC w1 w.heap.size #[.map none,.map none,.map none] 101:=(aC.new w _ _).aJ sV V;have ae:J<|RS w rb rs rest 0 (.slice none 0 0) w1/\aC w1 w.heap.size #[.map none,.map none,.map none] 101:=⟨b3,bn⟩;clear HN b3 sV bn;go_wp2_with fail;go_loopg [3,9] rs.length (λg v3 v9 wx=>∃i:Nat,i+g=rs.length/\v9=I i/\RS w rb rs rest i v3 wx/\aC wx w.heap.size #[.map none,.map none,.map none] 101);case atStart=>exact⟨0,V,rfl,ae.o.1,ae.o.2⟩
 case round =>
  obtain⟨i,cl,rfl,hR,bh⟩:=hrel;have G:J<|RS w rb rs rest i u3 wr/\aC wr w.heap.size #[.map none,.map none,.map none] 101:=⟨hR,bh⟩;clear ae bh;by_cases al:i<rs.length
  .have bj:=az.o _ (κ al);obtain⟨Q,L,c,D⟩:=hR.rd;rw[WT rs rest i al]at c;have HE:=ω<|Gn rs i al
   have aj:=b1.o i V;obtain⟨x,m⟩:∃x,rs[i]=x:=⟨_,rfl⟩;rw[m]at bj c HE;obtain⟨d,cz⟩:=x;simp only at c;obtain⟨K,c8,c9,bv⟩:=bj;simp only at K c8 c9 bv;obtain⟨B,a0⟩:∃B,B=(rs.drop (i+1)).flatMap encR++rest:=⟨_,rfl⟩;have ah:=ω a0;rw[<- a0]at c;have WU:J<|_:=Lm wr rb Q d (aZ cz++B) L c ⟨K.1,K.2.1,ς K.2.2 Ψ⟩ D;have Pv:J<|∀b y l,mO b rb y->ay y=aZ cz++B->Calls prog 160 #[.pointer (some (z rb)),I 1,I 505] (b.alloc l) λe w'=>∃f,e=.returned (I cz)/\(mO w' rb f/\ay f=B/\f.size<=1000000000)/\aA (λk=>k=rb) (b.alloc l) w':=λb y l q cy=>by have a7:=sW (w:=w) (rb:=rb) c cy D;refine ψ (iK (b.alloc l) rb y cz 1 505 B (q.alloc l) cy V V V V a7) ?_;rintro e w'⟨f,rfl,E,q,C⟩;exact⟨f,rfl,⟨E,q,sW (w:=w) (rb:=rb) cy q a7⟩,C⟩
   clear L c D hR m a0;go_wp2_with fail;refine ψ WU.o ?_;rintro e b⟨y,rfl,da,cy,U⟩;have bi:=da.lt;have ad:=ω U;have av:J<|_:=λl=>Pv.o b y l da cy;clear WU Pv da cy U;go_wp2_with fail;refine ψ (av.o _) ?_;rintro e w3⟨s3,rfl,Wn,ai⟩;have a8:aC w3 b.heap.size #[I (who d),I (nth d),I 0] 239:=(aC.new b _ _).aJ ai V;have xG:=ω<|ad.o.trans ((aA.of_below ((φ _ b).alloc (χ _) _):aA (λk=>k=rb) b _).trans ai)
   have ck:=bi;have cv:=ad.o.size;have x0:=(a8.cell 0).trans rfl;have x1:=(a8.cell 1).trans rfl;have x2:=(a8.cell 2).trans rfl;have fx:=a8.frozen;have af:=ω Wn;have Hd:J<|∀wx,Calls prog 217 #[.agg #[I (who d),I (nth d),I cz]] wx λe w'=>∃v,e=.returned v/\w'.ownsRow wx.heap.size 140 2 v cz (bK (iP (d,cz)))/\Below wx.heap.size wx w':=λwx=>Le wx d cz V;have Y9:=a8.lt;clear av Wn ai a8 ad;go_wp2_with fail;refine ψ (Hd.o _) ?_;rintro e w5⟨v5,rfl,an,Z⟩;have bb:aA (λk=>k=b.heap.size) w3 (w3.setCell (O b.heap.size 2) (I cz)):=(aA.refl (λk=>k=b.heap.size) w3).setCell (p:=(O b.heap.size 2)) rfl _;have bt:(w3.setCell (O b.heap.size 2) (I cz)).heap.size=w3.heap.size:=Ω
   have X:=bb.trans (aA.of_below Z);have aa:aA (λk=>k=rb) wr w5:=by have cx:=xG.o;exact⟨X.os.trans cx.os,X.tape.trans cx.tape,X.output.trans cx.output,ς cx.size X.size,λk A hm=>(X.block k (ο A cx.size) V).trans (cx.block k A hm)⟩
   have ak:=λg hg=>(G.o.1.row.lt g hg).1;have b6:w5.ownsRow w.heap.size 140 2 u3 (bP (rs.take i)).length (bK (bP (rs.take i))):=bG G.o.1.row aa (λg hg e=>by have:=ak g hg;omega);have bf:mO w5 rb s3:=aC.aJ af.o.1 X V;have b4:=G.o.2.aJ aa V;obtain⟨g5,bw,cc⟩:=dK an V;subst cc;have br:=ω<|an.cells (g:=g5) rfl
   have Zu:=ω b6;have ac:J<|mO w5 rb s3/\aC w5 w.heap.size #[.map none,.map none,.map none] 101/\aA (λk=>k=rb) w w5:=⟨bf,b4,G.o.1.aJ.trans aa⟩;have c3:=ς G.o.1.aJ.size aa.size;have bx:(bP (rs.take i)).length+cz<=maxLen:=by unfold maxLen;omega
   have bz:((bP (rs.take i)).length+cz)*16<=140737488355328:=V
   have ca:(bK (iP (d,cz))).length=cz*2:=by rw[Du,sS]
   clear bb bt X aa b6 bf b4 an Z Hd xG x0 x1 x2 fx aj;generalize c4:(bP (rs.take i)).length=fn at *;go_wp2_with (first|(at_builtin;refine wpList_append_own_at _ rfl (.tmp 17) (.tmp 19) 143 rfl w.heap.size 140 i0 (.agg #[I 0,I 0]) 2 16 underlying143 hi cf cg a7 rfl Ψ _ _ _ rfl Zu.o (z g5) cz bw (bK (iP (d,cz))) rfl ca br.o (Dv _) bx bz c3 ?_;intro v6 w6 kL eG ET yE));have W:aA (λk=>u3.ownBlock=some k) w5 w6:=(aA.refl _ w5).grown eG (λk e=>τ e);go_roundg (rs.length-(i+1));case measure=>omega
   case rel =>
    refine⟨i+1,V,Λ,⟨⟨s3,aC.aJ ac.o.1 W (λe=>by have:=ak _ e;omega),by rw[<- ah.o];exact af.o.2.1,af.o.2.2⟩, ?_, ?_⟩, ?_⟩
    .rw[HE.o,Dt,ρ,sS,c4];exact kL
    .have cx:=ac.o.2.2;exact⟨W.os.trans cx.os,W.tape.trans cx.tape,W.output.trans cx.output,ς cx.size W.size,λk A hm=>(W.block k (ο A cx.size) (λe=>by have:=ak _ e;omega)).trans (cx.block k A hm)⟩
    .exact ac.o.2.1.aJ W (λe=>ownsRow_ne Zu.o (λcj fz hh=>by rw[show w5.heap[w.heap.size]?=_ from ac.o.2.1]at hh;cases hh) e)
  .have e:i=rs.length:=V
   subst e;obtain⟨Q,L,c,D⟩:=hR.rd;rw[List.drop_length,List.flatMap_nil,List.nil_append,bu.o]at c;have aq:=G.o.1.row;rw[ϑm]at aq;have HN:J<|∀l,Calls prog 160 #[.pointer (some (z rb)),I 0,I 505] (wr.alloc l) λe w'=>∃f,e=.returned (I a.length)/\(mO w' rb f/\ay f=(a.drop 0).flatMap encI++r/\f.size<=1000000000)/\aA (λk=>k=rb) (wr.alloc l) w':=λl=>by refine ψ (iK (wr.alloc l) rb Q a.length 0 505 (a.flatMap encI++r) (L.alloc l) c V V V V D) ?_;rintro e w'⟨f,rfl,E,q,C⟩;exact⟨f,rfl,⟨E,q,sW (w:=w) (rb:=rb) c q D⟩,C⟩
   have cd:=G.o.2.lt;have b2:=dB.made wr prog 140;have ax:J<|RT w rb a u3 (bP rs) wr.heap.size 0 (wr.alloc (.map #[] 0)):=by
    have Y:Below wr.heap.size wr (wr.alloc (.map #[] 0)):=(φ _ wr).alloc (χ _) _;refine⟨own_below aq Y,⟨0, ?_⟩,G.o.2.below Y,G.o.1.aJ.below Y,cd,c7⟩;have e0:jH a 0=λ_=>none:=by funext d;unfold jH;simp
    rw[e0,yh];exact b2
   clear hR L c D b2 aq;go_wp2_with fail;refine ψ (HN.o _) ?_;rintro e b⟨y,rfl,b7,U⟩;have ag:J<|RT w rb a u3 (bP rs) wr.heap.size 0 b/\∃s,mO b rb s/\ay s=(a.drop 0).flatMap encI++r/\s.size<=1000000000:=⟨ax.o.to U,y,b7⟩;clear HN b7 U ax G;go_wp2_with fail;generalize wr.heap.size=M at *;go_loopg [25] a.length (λg ch wx=>∃j:Nat,j+g=a.length/\ch=I j/\RT w rb a u3 (bP rs) M j wx/\∃s,mO wx rb s/\ay s=(a.drop j).flatMap encI++r/\s.size<=1000000000);case atStart=>exact⟨0,V,rfl,ag.o.1,ag.o.2⟩
   case round =>
    obtain⟨j,co,rfl,F,Q,L,c,D⟩:=hrel;have HT:=ω F;clear ag;by_cases hj:j<a.length
    .obtain⟨K,ht,o,u,he⟩:=H.o _ (κ hj);rw[TN a r j hj]at c;obtain⟨N0,a9⟩:=F.mp;have c1:N0<=3072:=jY a9 (λd hd=>I8 (P:=okD) (λx m=>⟨(H.o x m).1.1,(H.o x m).1.2.1,by have:=(H.o x m).1.2.2;omega⟩) j d hd);have bq:J<|∀wx N,dB prog 140 wx M N (im (jH a j))->N<maxLen:=λwx N hN=>by have:=jY hN (λd hd=>I8 (P:=okD) (λx m=>⟨(H.o x m).1.1,(H.o x m).1.2.1,by have:=(H.o x m).1.2.2;omega⟩) j d hd);unfold maxLen;omega
     have HP:J<|∀wx wy N,RT w rb a u3 (bP rs) M j wx->wx.grownBy wy (some M)->dB prog 140 wy M N (upd (im (jH a j)) (aW a[j].1) (sK o))->RT w rb a u3 (bP rs) M (j+1) wy:=λwx wy N E q C=>E.put hj o u q C;obtain⟨x,m⟩:∃x,a[j]=x:=⟨_,rfl⟩;rw[m]at K ht u c HP;obtain⟨d,t⟩:=x;simp only at K ht u c HP;obtain⟨kl,bg⟩:=keyE d V;obtain⟨B,a0⟩:∃B,B=(a.drop (j+1)).flatMap encI++r:=⟨_,rfl⟩;have ah:=ω a0;rw[<- a0]at c;have WU:J<|_:=Lm wr rb Q d (aZ t.length++t++B) L c ⟨K.1,K.2.1,ς K.2.2 Ψ⟩ D;have ci:=F.new;have bs:=F.rbw;have ar:J<|∀b y wx,RT w rb a u3 (bP rs) M j b->mO b rb y->ay y=aZ t.length++t++B->aC wx b.heap.size #[I (who d),I (nth d)] 140->Below b.heap.size b wx->Calls prog 218 #[.pointer (some (z rb))] wx λe w'=>∃f,e=.returned (.agg #[.string ⟨o.path.toArray⟩,.int .u8 (o.act.toNat:Int),.string (aG o.act ⟨o.val.toArray⟩),I o.n])/\(mO w' rb f/\ay f=B/\f.size<=1000000000)/\RT w rb a u3 (bP rs) M j w'/\aC w' b.heap.size #[I (who d),I (nth d)] 140:=λb y wx q da cy c6 Y=>by have a7:=sW (w:=w) (rb:=rb) c cy D;have c0:Glob wx:=(bp.o.aJ q.aJ (λk A=>by subst A;exact bk)).mono Y;refine ψ (Lp wx c0 rb bk y t B o (da.below Y) cy ht a7 u he) ?_;rintro e w'⟨f,rfl,C,h4,h5⟩;have bi:=da.lt;exact⟨f,rfl,⟨C,h4,sW (w:=w) (rb:=rb) cy h4 a7⟩,(q.to (aA.of_below Y)).to h5,c6.aJ h5 V⟩
     clear L c D F m a0 a9 u he ht c1;go_wp2_with fail;refine ψ WU.o ?_;rintro e b⟨y,rfl,da,cy,U⟩;have b8:=HT.o.to U;have kd:=aC.new b #[I (who d),I (nth d)] 140;have ba:Below b.heap.size b (b.alloc (.cells #[I (who d),I (nth d)] 140)):=(φ _ b).alloc (χ _) _;have bo:J<|∀wx,wx.heap=(b.alloc (.cells #[I (who d),I (nth d)] 140)).heap->wx.os=b.os->wx.tape=b.tape->wx.output=b.output->Calls prog 218 #[.pointer (some (z rb))] wx _:=λwx E C h4 h5=>ar.o b y wx b8 da cy (by unfold aC;rw[E];exact kd) ⟨C,h4,h5,by rw[E];simp,λk A=>by rw[E];exact ba.block k A⟩;have z0:=(kd.cell 0).trans rfl;have z1:=(kd.cell 1).trans rfl;clear WU ar da cy U b8 ba;unfold sK at HP;go_wp2_with fail;go_region_with (go_at_call 218;refine ψ (bo.o _ rfl rfl rfl rfl) ?_;rintro e w4⟨s4,rfl,lV,b9,be⟩;have y0:=(be.cell 0).trans rfl;have y1:=(be.cell 1).trans rfl;obtain⟨N4,b5⟩:=b9.mp;obtain⟨w6,ct,Bq,eG,cu⟩:=b5.store jE underlying95 (bq.o _ _ b5) (.agg #[.string ⟨o.path.toArray⟩,.int .u8 (o.act.toNat:Int),.string (aG o.act ⟨o.val.toArray⟩),I o.n]) bg);all_goals
      have c2:=HP.o _ _ _ b9 eG Bq;have c5:mO w6 rb s4:=aC.grown lV.1 eG V;go_wp2_with fail;go_roundg (a.length-(j+1));case measure=>omega
      case rel=>exact⟨j+1,V,Λ,c2,s4,c5,by rw[<- ah.o];exact lV.2.1,lV.2.2⟩
    .have e:j=a.length:=V
     subst e;rw[List.drop_length,List.flatMap_nil,List.nil_append]at c;obtain⟨N0,a9⟩:=F.mp;have bd:∀d∈bP rs,okD d:=λd hd=>by unfold bP at hd;obtain⟨x,m,bc⟩:=List.mem_flatMap.1 hd;have ce:=az.o x m;unfold iP at bc;obtain⟨k,A,rfl⟩:=ι.1 bc;have cp:=ϑp.1 A;obtain⟨⟨a1,a2,a3⟩,a4,a5,a6⟩:=ce;exact⟨by rw[yC V];exact a1,by rw[uO V];omega,by rw[uO V];omega⟩
     have aj:(bP rs).length<=1000000:=by have:=b1.o rs.length (χ _);rw[ϑm]at this;omega
     have aw:J<|_:=OJ wr (some M) u3 (jH a a.length) (bP rs) N0 (υ ⟨M,rfl,a9⟩) (λn v hv=>TM hv) (λn hn=>I8 (P:=okD) (λx m=>⟨(H.o x m).1.1,(H.o x m).1.2.1,by have:=(H.o x m).1.2.2;omega⟩) a.length n hn) (Py F.row) aj bd;have cw:=F.aJ.size;have bs:=F.rbw;have bg:=F.kr.lt;have HX:J<|mO wr rb Q/\ay Q=r:=⟨L,c⟩;clear F a9 L c D bd;go_wp2_with fail;refine ψ aw.o ?_;rintro e w5⟨S,R,T,rfl,bl,cr,Z⟩;have ab:=HT.o.kr.below Z;have r0:=(ab.cell 0).trans rfl;have r1:=(ab.cell 1).trans rfl;have r2:=(ab.cell 2).trans rfl;have f0:=ab.frozen;have HS:J<|aP w5 S R T (λd=>jH a a.length d≠none\/d∈bP rs) (jH a a.length)/\aA (λk=>k=rb) w w5/\mO w5 rb Q:=⟨bl,HT.o.aJ.below Z,HX.o.1.below Z⟩;clear bl Z ab aw;go_wp2_with fail;have u:aA (λk=>k=w.heap.size) w5 (((w5.setCell (z w.heap.size) (.map (some S))).setCell (O w.heap.size 1) (.map (some R))).setCell (O w.heap.size 2) (.map (some T))):=(((aA.refl (λk=>k=w.heap.size) w5).setCell (p:=(z w.heap.size)) rfl _).setCell (p:=(O w.heap.size 1)) rfl _).setCell (p:=(O w.heap.size 2)) rfl _;refine ϐ (v:=.agg #[.map (some S),.map (some R),.map (some T)]) (by simp[results,Tryz.results161,go_sem,r0,r1,r2,bV,aT,World.cell?_setCell_other]) rfl ⟨S,R,T,Q,rfl,HS.o.1.aJ u V V V,aC.aJ HS.o.2.2 u V,HX.o.2,V, ?_⟩;have cx:=HS.o.2.1;exact⟨u.os.trans cx.os,u.tape.trans cx.tape,u.output.trans cx.output,ς cx.size u.size,λk A hm=>(u.block k (ο A cx.size) V).trans (cx.block k A hm)⟩
end
section
open Go.Proofs.Tryz Go.RowKit Go.Maps Go.ChangeMaps Go.MapKept
def Gp:∀l:List Value,(∀v∈l,∃n,v=aW n)->∃a:List Nat,l=a.map aW
 | [],_=>⟨[],rfl⟩
 | v::l,h=>by obtain⟨n,rfl⟩:=h v Ω;obtain⟨a,rfl⟩:=Gp l (λv b=>h v (by simp[b]));exact⟨n::a,rfl⟩
def Lr{w:World}{v:Value}{N:Nat}{It:Nat->Option Value}(h:dQ prog 140 w v N (im It)):∃b:List Nat,b.Nodup/\b.length=N/\∀n,n∈b↔It n≠none:=by
 rcases h with⟨rfl,rfl,h⟩|⟨j,rfl,h⟩
 .exact⟨[],List.nodup_nil,rfl,λn=>⟨λh=>(List.not_mem_nil h).elim,λa=>by rw[<- jh It n,h]at a;exact absurd rfl a⟩⟩
 .obtain⟨l,d,f,c⟩:=h.count jE;obtain⟨b,rfl⟩:=Gp l (λv i=>by
   have:=(c v).1 i;cases e:im It v with
   | none=>exact absurd e this
   | some u=>obtain⟨n,a,_⟩:=oZ e;exact⟨n,a⟩)
  refine⟨b, ?_,by simpa using f,λn=>?_⟩
  .exact(List.nodup_iff_pairwise_ne.1 d |> List.pairwise_map.1).imp (λh e=>h (by rw[e]))
  .rw[<- jh It n,<- c];constructor
   .intro a;exact List.mem_map_of_mem a
   .intro a;obtain⟨k,g,e⟩:=ι.1 a;rw[<- iW e];exact g
def own_base{w:World}{B a:Nat}{e:TypeId}{size:Nat}{v:Value}{n:Nat}{xs:List Value}(h:w.ownsRow B e size v n xs)(j:a<=B):w.ownsRow a e size v n xs:=by obtain⟨k,h⟩:=h;refine⟨k,h.imp_right ?_⟩;rintro⟨g,b,c,d,f,i⟩;exact⟨g,b,c,d,ς j f,i⟩
def TP(w:World)(io co lo:Option Nat)(c:Nat->Nat)(L:Nat->Bool)(m:ni w (.map co) (.map lo) c L):Calls prog 175 #[.agg #[.map io,.map co,.map lo]] w λe w'=>∃v a b,e=.returned v/\NR a/\(∀d,d∈a↔1<=nth d/\oW c L d)/\Runs a a.length b/\w'.ownsRow w.heap.size 239 3 v b.length (gI b)/\Below w.heap.size w w':=by
 have o:J<|∀l,Calls prog 220 #[.agg #[.map co,.map lo]] (w.alloc l) λe w'=>∃v a b,e=.returned v/\NR a/\(∀d,d∈a↔1<=nth d/\oW c L d)/\Runs a a.length b/\w'.ownsRow w.heap.size 239 3 v b.length (gI b)/\Below w.heap.size w w':=λl=>by have k:Below w.heap.size w (w.alloc l):=(φ _ w).alloc (χ _) _;refine ψ (WO _ co lo c L (m.below k)) ?_;rintro e w'⟨v,a,b,rfl,f,g,h,i,j⟩;exact⟨v,a,b,rfl,f,g,h,own_base i Ω,k.trans (j.mono k.size)⟩
 clear m;go_enter func175,ntmps175;go_wp2_with fail;refine ψ (o.o _) ?_;rintro e p⟨v,a,b,rfl,f,g,h,i,j⟩;have n:J<|_:=And.intro f (And.intro g (And.intro h (And.intro i j)));clear f g h i j;go_wp2;go_ret;exact⟨v,a,b,rfl,n.o⟩
def PD(w:World)(io co lo:Option Nat)(N:Nat)(m:Value->Option Value)(h:dQ prog 140 w (.map io) N m):Calls prog 177 #[.agg #[.map io,.map co,.map lo]] w λe w'=>e=.returned (I N)/\Below w.heap.size w w':=by have c:J<|∀a b,(Builtin.len_ #[95] b #[.map io]).run prog (w.alloc a)=.ok (I N) (w.alloc a):=λa b=>(h.below ((φ _ w).alloc (χ _) _)).len underlying95 b;have d:∀a,Below w.heap.size w (w.alloc a):=λa=>(φ _ w).alloc (χ _) _;clear h;go_enter func177,ntmps177;go_wp2_with fail;rw[c.o];go_wp2;go_ret;exact⟨rfl,d _⟩
def Ls(w:World)(a m k:Nat)(f:Bool)(g d e:Value)(Y:a<=5)(Z:m<=505)(y:k<=1):Calls prog 157 #[.agg #[I a,I m,.bool f,g,d,e],I k] w λh w'=>∃v',h=.returned v'/\bU w.heap.size w' v' (aZ k++aZ a++aZ m)/\dV w.heap.size w w':=by
 have M:=aO k;have L:=aO a;have U:J<|([]:Thk.Bs)++aZ k++aZ a++aZ m=aZ k++aZ a++aZ m:=ω<|by rw[List.nil_append]
 have n:=aC.new w #[I a,I m,.bool f,g,d,e] 103;have t:J<|dV w.heap.size w (w.alloc (.cells #[I a,I m,.bool f,g,d,e] 103)):=dV.of_below ((φ _ w).alloc (χ _) _);go_enter func157,ntmps157;go_wp2_with fail;generalize w.alloc (.cells #[I a,I m,.bool f,g,d,e] 103)=i at *;have D:i.cell? (z w.heap.size)=some (I a):=(n.cell 0).trans rfl;have E:i.cell? (O w.heap.size 1)=some (I m):=(n.cell 1).trans rfl;have l:∀(q:Nat)(o:Thk.Bs)b c u,(bU w.heap.size c u o/\dV w.heap.size w c/\aC c w.heap.size #[I a,I m,.bool f,g,d,e] 103)->o.length<=1000000->q<16384->b.heap=c.heap->b.os=c.os->b.tape=c.tape->b.output=c.output->Calls prog 174 #[u,I q] b λh w'=>∃v',h=.returned v'/\(bU w.heap.size w' v' (o++aZ q)/\dV w.heap.size w w'/\aC w' w.heap.size #[I a,I m,.bool f,g,d,e] 103)/\w'.cell? (z w.heap.size)=some (I a)/\w'.cell? (O w.heap.size 1)=some (I m):=λq o b c u j N R s P S Q=>by
  obtain⟨T,hF,y⟩:=j;have x:=hF.trans (dV.heap s P S Q);have W:aC b w.heap.size #[I a,I m,.bool f,g,d,e] 103:=by unfold aC;rw[s];exact y
  refine ψ (Pn w.heap.size b u _ q (T.heap s) x.size N R) ?_;rintro h w'⟨v',rfl,G,v⟩;have p:=v.blk W Ψ;exact⟨v',rfl,⟨G,x.trans v,p⟩,(p.cell 0).trans rfl,(p.cell 1).trans rfl⟩
 have A:J<|∀b,b.heap=i.heap->b.os=i.os->b.tape=i.tape->b.output=i.output->Calls prog 174 #[.slice none 0 0,I k] b _:=λb=>l k [] b i (.slice none 0 0) ⟨bU.nil _ _,t.o,n⟩ Ω V;have C:J<|∀b c u,(bU w.heap.size c u ([]++aZ k)/\dV w.heap.size w c/\aC c w.heap.size #[I a,I m,.bool f,g,d,e] 103)->b.heap=c.heap->b.os=c.os->b.tape=c.tape->b.output=c.output->Calls prog 174 #[u,I a] b _:=λb c u j=>l a _ b c u j Θ V;have B:J<|∀b c u,(bU w.heap.size c u ([]++aZ k++aZ a)/\dV w.heap.size w c/\aC c w.heap.size #[I a,I m,.bool f,g,d,e] 103)->b.heap=c.heap->b.os=c.os->b.tape=c.tape->b.output=c.output->Calls prog 174 #[u,I m] b _:=λb c u j=>l m _ b c u j Θ V;clear n M L t l;go_region_held3 (λw'=>w'.cell? (z w.heap.size)=some (I a)/\w'.cell? (O w.heap.size 1)=some (I m)) (first|assumption|exact⟨D,E⟩|exact g0|exact f0|exact F) (first|(go_at_call 174;refine ψ (B.o _ X _ K rfl rfl rfl rfl) ?_;rintro h w5⟨v5,rfl,r,g0⟩)|(go_at_call 174;refine ψ (C.o _ c _ H rfl rfl rfl rfl) ?_;rintro h X⟨e,rfl,K,f0⟩)|(go_at_call 174;refine ψ (A.o _ rfl rfl rfl rfl) ?_;rintro h c⟨d,rfl,H,F⟩));go_wp2_with fail;go_ret;rw[U.o]at r;exact⟨_,rfl,r.1,r.2.1⟩
end
section
open Go.Proofs.Tryz Go.RowKit Go.Maps
variable{v v':Value}{w w':World}
structure dZ(v:Value)(w:World)(v':Value)(w':World):Prop where
 aJ:aA (λk=>v.ownBlock=some k) w w'
 loc:∀g,v'.ownBlock=some g->v.ownBlock=some g\/w.heap.size<=g
def dZ.trans{c d:Value}{w1 w2:World}(h:dZ v w c w1)(k:dZ c w1 d w2):dZ v w d w2:=by
 have l:=h.aJ.size;refine⟨⟨k.aJ.os.trans h.aJ.os,k.aJ.tape.trans h.aJ.tape,k.aJ.output.trans h.aJ.output,ς l k.aJ.size,λj i b=>?_⟩,λg f=>?_⟩
 .refine(k.aJ.block j V (λe=>?_)).trans (h.aJ.block j i b);rcases h.loc j e with a|a
  .exact b a
  .omega
 .rcases k.loc g f with a|a
  .exact h.loc g a
  .right;omega
def dZ.of_below(a:Below w.heap.size w w'):dZ v w v w':=⟨aA.of_below a,λ_ h=>τ h⟩
def dZ.heap(a:w'.heap=w.heap)(b:w'.os=w.os)(d:w'.tape=w.tape)(c:w'.output=w.output):dZ v w v w' :=
 ⟨⟨b,d,c,by rw[a];exact χ _,λk _ _=>by rw[a]⟩,λ_ h=>τ h⟩
def dZ.app0(a:w.grownBy w' v.ownBlock)(b:v'.ownBlock=v.ownBlock\/v'.ownBlock=some w.heap.size):dZ v w v' w':=by
 refine⟨(aA.refl _ w).grown a (λk e=>τ e),λg h=>?_⟩;rcases b with e|e
 .exact τ (e▸h)
 .rw[e]at h;cases h;exact υ (χ _)
def dZ.app{o:Obj}(a:(w.alloc o).grownBy w' v.ownBlock)(b:v'.ownBlock=v.ownBlock\/v'.ownBlock=some (w.alloc o).heap.size):dZ v w v' w' :=
 (dZ.of_below ((φ _ w).alloc (χ _) o)).trans (dZ.app0 a b)
def dZ.blk{B:Nat}{l:Thk.Bs}{b:Nat}{cs:Array Value}{t:TypeId}(h:dZ v w v' w')(c:bU B w v l)(k:aC w b cs t)(d:t≠5):aC w' b cs t:=by
 refine k.aJ h.aJ (λa=>ownsRow_ne c (λf g e=>?_) a);rw[show w.heap[b]?=_ from k]at e;cases e
 exact d rfl
def dZ.yG{B:Nat}{l:Thk.Bs}(h:dZ v w v' w')(c:bU B w v l):dV B w w':=by
 refine h.aJ.mono (λk i e=>?_);rcases c.2 with⟨rfl,_⟩|⟨g,d,f,rfl,a,b,_⟩
 .cases e
 .cases e;exact⟨a,_,_,b⟩
section
variable{P:Program}{w:World}
open Go.Lib in
def PE(base:Nat)(t u b e:TypeId)(i:TypeInfo)(h:P.underlying t=some (.slice e))(j:P.underlying u=some .string)(c:P.info? e=some i)(m:i.zero=some (.int .u8 0))(l:i.size=1)(k:i.bytes=1)(v:Value)(n:Nat)(xs:List Value)(d:w.ownsRow base e 1 v n xs)(s:ByteArray)(p:n+s.size<=maxLen)(A:n+s.size<=140737488355328)(y:base<=w.heap.size):∃v' w',(Builtin.append_ #[t,u] b #[v,.string s]).run P w=.ok v' w'/\w'.ownsRow base e 1 v' (n+s.size) (xs++strCells s)/\w.grownBy w' v.ownBlock/\(v'.ownBlock=v.ownBlock\/v'.ownBlock=some w.heap.size):=by
 obtain⟨v',w',f,q,r,x⟩:=run_append_own_string (P:=P) w base t u b e i h j c m l k v n xs d s p A y;refine⟨v',w',f,q,r, ?_⟩;have N:n+s.size<=9223372036854775807:=by simp only[maxLen]at p;omega
 have G:xs.length=n:=by simpa using d.1
 rcases d.2 with⟨rfl,rfl⟩|⟨g,cap,o,rfl,H,C,M,K,B,Q⟩
 .by_cases D:s.size=0
  .left;rw[x.2 ⟨rfl,D⟩]
  .right;have a:=run_append_nil_string (P:=P) w t u b e i (.int .u8 0) h j c m s V V (by rw[k];omega);rw[f]at a;injection a with h5 h6
   rw[h5];(first|done|rfl)
 .by_cases F:n+s.size<=cap
  .left;have L:o.size=cap:=by simpa using B
   have a:=run_append_room_string (P:=P) w t u b e i h j c l g n cap o C s F V;rw[f]at a;injection a with h5 h6
   rw[h5];(first|done|rfl)
  .right;have E:=d.cells (g:=g) rfl;have a:=run_append_grow_string (P:=P) w t u b e i (.int .u8 0) h j c m (z g) n cap xs (by rw[l];simpa using G) E s V V (by rw[k];exact growslice_fits V V);rw[f]at a;injection a with h5 h6
   rw[h5];(first|done|rfl)
def FB{d:Array Oper}{f:List Oper}{o:Oper}{a:Act}{Q:Exit->Act->World->Prop}(A:o.guard=none)(g x:Operand)(t u:TypeId)(C:o.op=.call { callee:=.builtin .append,args:=#[g,x],argTypes:=#[t,u] })(b:Nat)(e:TypeId)(i:TypeInfo)(H:P.underlying t=some (.slice e))(K:P.underlying u=some .string)(B:P.info? e=some i)(M:i.zero=some (.int .u8 0))(G:i.size=1)(r:i.bytes=1)(v:Value)(n:Nat)(c:List Value)(F:a.eval g=v)(D:w.ownsRow b e 1 v n c)(s:ByteArray)(L:a.eval x=.string s)(m:n+s.size<=maxLen)(y:n+s.size<=140737488355328)(q:b<=w.heap.size)(h:∀v' w',w'.ownsRow b e 1 v' (n+s.size) (c++Lib.strCells s)->w.grownBy w' v.ownBlock->(v'.ownBlock=v.ownBlock\/v'.ownBlock=some w.heap.size)->wpList P d Q f (a.put o.dst v') w'):wpList P d Q (o::f) a w:=by refine wpList_plain A λN p=>?_;obtain⟨v',w',E,j,k,l⟩:=PE (P:=P) b t u o.type e i H K B M G r v n c D s m y q;unfold Oper.wp execOp;simp only[C,resolve,invoke,builtin,Sem.run_bind,Sem.run_pure,Result.andThen_ok,List.map_toArray,List.map_cons,List.map_nil,F,L,E];exact p _ _ (h v' w' j k l)
end
def nD(B:Nat)(w:World)(v:Value)(l:Thk.Bs)(n:Nat)(k:bU B w v l)(T:B<=w.heap.size)(hl:l.length<=1000000)(hn:n<16384):Calls prog 174 #[v,I n] w λQ w'=>∃v',Q=.returned v'/\bU B w' v' (l++aZ n)/\dZ v w v' w':=by
 obtain⟨x,m,s,t,u⟩:=info_parts Tryz.infoU8;have H:=ω k;have A:l.length+1<=maxLen:=by unfold maxLen;omega
 have C:(l.length+1)*1<=140737488355328:=V
 by_cases g:n<128
 .have a2:IntKind.u8.wrap (n:Int)=n:=wrap_u8 n V;have X:((n:Int) > 127)=False:=Θ
  have M:J<|nO (l++aZ n)=nO l++[.int .u8 (n:Int)]:=ω<|by rw[sO g,jd];simp[nO,UInt8.toNat_ofNat'];omega
  clear k;go_enter func174,ntmps174;go_wp2_with fail;go_loopg [0,1] 0 (λj e h f=>e=v/\h=I n/\f=w);case atStart=>exact⟨rfl,rfl,rfl⟩
  case round =>obtain⟨rfl,rfl,rfl⟩:=hrel;go_wp2_with (first|(at_builtin;refine wpList_append_own_at _ rfl (.tmp 16) (.tmp 19) 190 rfl B 5 x (.int .u8 0) 1 1 underlying190 m s t u rfl Ψ _ _ _ rfl (H.o.alloc _) (z wr.heap.size) 1 1 [.int .u8 (n:Int)] rfl rfl (cell_one_new _ _ _) (by intro E a;simp at a;subst a;rfl) A C Θ ?_;intro F G d b y c));go_ret;refine⟨_,rfl, ?_,dZ.app b c⟩;unfold bU;rw[M.o,ρ,sO g];exact d
 .have U:n % 128+128<256:=V
  obtain⟨q,D⟩:∃q,n / 128=q:=⟨_,rfl⟩;obtain⟨r,p⟩:∃r,n % 128+128=r:=⟨_,rfl⟩;have a7:bits .and .i64 (n:Int) 127=(n:Int) % 128:=by rw[I5 n V];omega
  have a8:bits .or .i64 ((n:Int) % 128) 128=(r:Int):=by have:=Dl (n % 128) V;rw[<- p,<- this];congr 1
  have a3:(r:Int) % 256=r:=V
  have a4:(q:Int) % 256=q:=V
  have a5:(n:Int) / 128=(q:Int):=V
  have X:(n:Int) > 127:=V
  have a0:q<128:=V
  have N:J<|nO (l++[UInt8.ofNat r])=nO l++[.int .u8 (r:Int)]:=ω<|by rw[jd];simp[nO,UInt8.toNat_ofNat'];omega
  have P:J<|nO (l++aZ n)=nO (l++[UInt8.ofNat r])++[.int .u8 (q:Int)]:=ω<|by rw[sQ g,p,D,jd,jd,ϑl];simp[nO,UInt8.toNat_ofNat'];omega
  have R:l.length+1+1<=maxLen:=by unfold maxLen;omega
  have S:(l.length+1+1)*1<=140737488355328:=V
  clear D p U;clear k;go_enter func174,ntmps174;go_wp2_with fail;go_loopg [0,1] 1 (λj e h f=>(j=1/\e=v/\h=I n/\f=w)\/(j=0/\h=I q/\f.ownsRow B 5 1 e (l.length+1) (nO (l++[UInt8.ofNat r]))/\dZ v w e f));case atStart=>exact τ ⟨rfl,rfl,rfl,rfl⟩
  case round =>
   rcases hrel with⟨W,rfl,rfl,rfl⟩|⟨W,rfl,o,hF⟩
   .go_wp2_with (first|(at_builtin;refine wpList_append_own_at _ rfl (.tmp 7) (.tmp 12) 190 rfl B 5 x (.int .u8 0) 1 1 underlying190 m s t u rfl Ψ _ _ _ rfl (H.o.alloc _) (z wr.heap.size) 1 1 [.int .u8 (r:Int)] rfl rfl (cell_one_new _ _ _) (by intro E a;simp at a;subst a;rfl) A C Θ ?_;intro F G d b y c;have i:=dZ.app b c;clear b c));go_roundg 0;case measure=>omega
    case rel=>exact υ ⟨rfl,rfl,by rw[N.o];exact d,i⟩
   .have K:=ω hF;have Z:J<|bU B wr u0 (l++[UInt8.ofNat r]):=by unfold J bU;rw[ρ];exact o
    have a1:=ς T hF.aJ.size;have a6:¬((q:Int) > 127):=V
    have L:=ω<|λY=>o.alloc Y
    clear hF o;go_wp2_with (first|(at_builtin;refine wpList_append_own_at _ rfl (.tmp 16) (.tmp 19) 190 rfl B 5 x (.int .u8 0) 1 1 underlying190 m s t u rfl Ψ _ _ _ rfl (L.o _) (z wr.heap.size) 1 1 [.int .u8 (q:Int)] rfl rfl (cell_one_new _ _ _) (by intro E a;simp at a;subst a;rfl) R S Θ ?_;intro F G d b y c;have i:=dZ.app b c;clear b c));go_ret;refine⟨_,rfl, ?_,K.o.trans i⟩;unfold bU;rw[P.o,ρ,sQ g];exact d
def Lu(B:Nat)(w:World)(v:Value)(l:Thk.Bs)(d:Nat)(r:bU B w v l)(K:B<=w.heap.size)(Y:l.length<=900000)(X:who d<=5):Calls prog 176 #[v,aW d] w λf w'=>∃v',f=.returned v'/\bU B w' v' (l++ku d)/\dZ v w v' w':=by
 have Z:=zl d;have C:J<|l++ku d=l++aZ (who d)++aZ (nth d):=by unfold J ku;rw[ϑl]
 rw[C.o];unfold aW;generalize who d=c at *;generalize nth d=n at *;have L:=aO c;have p:J<|bU B (w.alloc (.cells #[I c,I n] 140)) v l:=World.ownsRow.alloc r _;have h:=aC.new w #[I c,I n] 140;have q:J<|dZ v w v (w.alloc (.cells #[I c,I n] 140)):=dZ.of_below ((φ _ w).alloc (χ _) _);clear r;go_enter func176,ntmps176;go_wp2_with fail;generalize w.alloc (.cells #[I c,I n] 140)=e at *;have E:e.cell? (z w.heap.size)=some (I c):=(h.cell 0).trans rfl;have F:e.cell? (O w.heap.size 1)=some (I n):=(h.cell 1).trans rfl;have j:∀(m:Nat)(i:Thk.Bs)a b u,(bU B b u i/\dZ v w u b/\aC b w.heap.size #[I c,I n] 140)->i.length<=1000000->m<16384->a.heap=b.heap->a.os=b.os->a.tape=b.tape->a.output=b.output->Calls prog 174 #[u,I m] a λf w'=>∃v',f=.returned v'/\(bU B w' v' (i++aZ m)/\dZ v w v' w'/\aC w' w.heap.size #[I c,I n] 140)/\w'.cell? (z w.heap.size)=some (I c)/\w'.cell? (O w.heap.size 1)=some (I n):=λm i a b u o N P g Q S R=>by
  obtain⟨y,hF,M⟩:=o;have x:=hF.trans (dZ.heap g Q S R);have T:aC a w.heap.size #[I c,I n] 140:=by unfold aC;rw[g];exact M
  refine ψ (nD B a u _ m (y.heap g) (ς K x.aJ.size) N P) ?_;rintro f w'⟨v',rfl,G,s⟩;have k:=s.blk (y.heap g) T Ψ;exact⟨v',rfl,⟨G,x.trans s,k⟩,(k.cell 0).trans rfl,(k.cell 1).trans rfl⟩
 have A:J<|∀a,a.heap=e.heap->a.os=e.os->a.tape=e.tape->a.output=e.output->Calls prog 174 #[v,I c] a _:=λa=>j c l a e v ⟨p.o,q.o,h⟩ V V;have D:J<|∀a b u,(bU B b u (l++aZ c)/\dZ v w u b/\aC b w.heap.size #[I c,I n] 140)->a.heap=b.heap->a.os=b.os->a.tape=b.tape->a.output=b.output->Calls prog 174 #[u,I n] a _:=λa b u o=>j n _ a b u o Θ V;clear h L p q j;go_region_held3 (λw'=>w'.cell? (z w.heap.size)=some (I c)/\w'.cell? (O w.heap.size 1)=some (I n)) (refine⟨?_, ?_⟩<;>(first|assumption|exact E|exact F)) (first|(go_at_call 174;refine ψ (D.o _ b _ H rfl rfl rfl rfl) ?_;rintro f w4⟨v4,rfl,t,f0,f1⟩)|(go_at_call 174;refine ψ (A.o _ rfl rfl rfl rfl) ?_;rintro f b⟨v3,rfl,H,U,W⟩));go_wp2_with fail;go_ret;exact⟨_,rfl,t.1,t.2.1⟩
def TQ(B:Nat)(w:World)(v:Value)(l:Thk.Bs)(s:ByteArray)(h:bU B w v l)(d:B<=w.heap.size)(A:l.length<=900000)(o:s.size<16384):Calls prog 173 #[v,.string s] w λe w'=>∃v',e=.returned v'/\bU B w' v' (l++aZ s.size++ay s)/\dZ v w v' w':=by
 obtain⟨t,n,p,q,r⟩:=info_parts Tryz.infoU8;have y:=aO s.size;have b:J<|_:=nD B w v l s.size h d V o;clear h;go_enter func173,ntmps173;go_wp2_with fail;refine ψ b.o ?_;rintro e E⟨C,rfl,c,a⟩;have m:=ς d a.aJ.size;have g:=ω c;have f:=ω a;have j:(l++aZ s.size).length+s.size<=maxLen:=by unfold maxLen;simp;omega
 have k:(l++aZ s.size).length+s.size<=140737488355328:=Θ
 clear c a b;go_wp2_with (first|(at_builtin;refine FB rfl (.tmp 8) (.tmp 9) 190 9 rfl B 5 t underlying190 underlying9 n p q r _ _ _ rfl g.o s rfl j k m ?_;intro D F u i x));go_ret;refine⟨_,rfl, ?_,f.o.trans (dZ.app0 i x)⟩;unfold bU;rw[jd,<- yF,ρ];exact u
