import Derived.Test.YtfmmllpjgkgeaaaGreatDoorPartS17
set_option linter.unusedVariables false
set_option linter.unusedSimpArgs false
set_option maxHeartbeats 16000000
set_option maxRecDepth 100000
namespace Go.Proofs.YtfmmllpjgkgeaaaGreatDoor
section
open Go.Proofs.Tryz Go.RowKit Go.Maps Go.WideMaps
variable{j rb:Nat}{w:World}
theorem IY(w:World)(rb:Nat)(s:ByteArray)(t r:Thk.Bs)(h:iC w rb s)(d:toL s=encN t.length++t++r)(x:t.length<16384)(l:s.size<=1000000000):Calls prog 244 #[.pointer (some (z rb))] w λg w'=>∃u m,g=.returned (.string u)/\toL u=t/\iC w' rb m/\toL m=r/\Chg (λk=>k=rb) w w':=by
 have v:=(h.cell 0).trans rfl;have j:s.size=(encN t.length++t++r).length:=by rw[<- d];simp[toL]
 have f:J<|_:=dM w rb s t.length 0 s.size (t++r) h (by rw[d,List.append_assoc]) x (Nat.zero_le _) (by rw[j];simp;omega) l l;clear h j d;go_enter func244,ntmps244;go_wp2_with fail;refine ψ f.o ?_;rintro g n⟨a,rfl,b,c,i⟩;have v:=(b.cell 0).trans rfl;have f0:=b.frozen;have A:t.length<=a.size:=by
  have:a.size=(toL a).length:=by simp[toL]
  rw[this,c];simp
 have q:J<|toL (a.extract 0 t.length)=t:=ω<|by rw[uI,c];simp
 have o:J<|toL (a.extract t.length a.size)=r:=ω<|by rw[uJ,c];simp
 have e:J<|iC n rb a/\Chg (λk=>k=rb) w n:=⟨b,i⟩;have y:(t.length:Int)<=(a.size:Int):=V
 generalize t.length=B at *;clear f b c i;go_wp2_with fail;go_ret;exact⟨_,_,rfl,q.o,e.o.1.set0 _,o.o,e.o.2.setCell (p:=(z rb)) rfl _⟩
theorem BO(w:World)(rb:Nat)(s:ByteArray)(d:Nat)(r:Thk.Bs)(q:iC w rb s)(x:toL s=encD d++r)(X:who d<=5/\1<=nth d/\nth d<=505)(S:s.size<=1000000000):Calls prog 183 #[.pointer (some (z rb))] w λe w'=>∃a,e=.returned (aA d)/\iC w' rb a/\toL a=r/\Chg (λk=>k=rb) w w':=by
 unfold aA encD at *;generalize who d=i at *;generalize nth d=n at *;have Y:=q.lt;have C:J<|∀j,Calls prog 167 #[.pointer (some (z rb)),.int .i64 0,.int .i64 5] (w.alloc j) λe w'=>∃a,e=.returned (.int .i64 i)/\iC w' rb a/\toL a=encN n++r/\Chg (λk=>k=rb) (w.alloc j) w'/\a.size<=1000000000:=λj=>by
  refine ψ (dM (w.alloc j) rb s i 0 5 (encN n++r) (q.alloc j) (by rw[x,List.append_assoc]) V V V V S) ?_;rintro e w'⟨a,rfl,t,m,u⟩;refine⟨a,rfl,t,m,u, ?_⟩;have G:a.size=(toL a).length:=by simp[toL]
  have H:s.size=(toL s).length:=by simp[toL]
  rw[m]at G;rw[x]at H;simp at G H;omega
 have D:J<|∀b g,iC b rb g->toL g=encN n++r->g.size<=1000000000->Calls prog 167 #[.pointer (some (z rb)),.int .i64 1,.int .i64 505] b λe w'=>∃a,e=.returned (.int .i64 n)/\iC w' rb a/\toL a=r/\Chg (λk=>k=rb) b w':=λb g t m u=>dM b rb g n 1 505 r t m V V V V u;clear q x;go_enter func183,ntmps183;go_wp2_with fail;refine ψ (C.o _) ?_;rintro e b⟨g,rfl,L,N,B,T⟩;have E:ah b w.heap.size #[.int .i64 0,.int .i64 0] 134:=(ah.new w _ _).chg B V;have Q:J<|Chg (λk=>k=rb) w b:=(Chg.of_below ((φ _ w).alloc (χ _) _):Chg (λk=>k=rb) w _).trans B;have F:J<|_:=D.o b g L N T;clear C D L N B;go_wp2_with fail;refine ψ F.o ?_;rintro e c⟨A,rfl,M,P,y⟩;have l:=E.chg y V;have U:=(l.cell 0).trans rfl;have W:=(l.cell 1).trans rfl;have f0:=l.frozen;have o:J<|iC c rb A/\toL A=r/\Chg (λk=>k=rb) w c:=⟨M,P,Q.o.trans y⟩;clear E l M P y F;go_wp2_with fail;refine ϐ (v:=.agg #[.int .i64 i,.int .i64 n]) (by simp[results,Tryz.results183,go_sem,U,W,cs_same,cs_oth,World.cell?_setCell_other]) rfl ⟨A,rfl, ?_,o.o.2.1, ?_⟩
 .have f:Chg (λk=>k=w.heap.size) c ((c.setCell (z w.heap.size) (.int .i64 i)).setCell (O w.heap.size 1) (.int .i64 n)):=((Chg.refl (λk=>k=w.heap.size) c).setCell (p:=(z w.heap.size)) rfl _).setCell (p:=(O w.heap.size 1)) rfl _;exact ah.chg o.o.1 f V
 .have f:Chg (λk=>k=w.heap.size) c ((c.setCell (z w.heap.size) (.int .i64 i)).setCell (O w.heap.size 1) (.int .i64 n)):=((Chg.refl (λk=>k=w.heap.size) c).setCell (p:=(z w.heap.size)) rfl _).setCell (p:=(O w.heap.size 1)) rfl _;have h:=o.o.2.2;exact⟨f.os.trans h.os,f.tape.trans h.tape,f.output.trans h.output,ς h.size f.size,λk K R=>(f.block k (ο K h.size) V).trans (h.block k K R)⟩
theorem Glob.chg{M:Nat->Prop}{w':World}(h:Glob w)(b:Chg M w w')(o:∀k,M k->3<k):Glob w':=by have a:Below 4 w w':=⟨b.os,b.tape,b.output,b.size,λk s=>b.block k (by have:=h.size;omega) (λq=>by have:=o k q;omega)⟩;obtain⟨⟨r,e⟩,⟨c,f,i⟩,⟨d,j,l⟩,m,n⟩:=h;refine⟨⟨r,(a.cell (p:=(z 0)) Ψ).trans e⟩,⟨c,(a.cell (p:=(z 1)) Ψ).trans f,i⟩,⟨d,(a.cell (p:=(z 2)) Ψ).trans j,l⟩, ?_,ο n a.size⟩;exact var?_below (g:=3) a (by kernel_rfl) Ψ m
theorem BP(w:World)(Q:Glob w)(rb:Nat)(a0:3<rb)(s:ByteArray)(t r:Thk.Bs)(c:Thk.Ch)(E:iC w rb s)(T:toL s=encN t.length++t++r)(ht:t.length<16384)(a1:s.size<=1000000000)(b:Thk.read t=.inr c)(S:eG c.act=true):Calls prog 185 #[.pointer (some (z rb))] w λe w'=>∃g,e=.returned (chV c)/\iC w' rb g/\toL g=r/\Chg (λk=>k=rb) w w':=by
 have a3:=E.lt;have M:J<|∀j,Calls prog 244 #[.pointer (some (z rb))] (w.alloc j) λe w'=>∃u g,e=.returned (.string u)/\(toL u=t/\iC w' rb g/\toL g=r)/\Chg (λk=>k=rb) (w.alloc j) w'/\Glob w':=λj=>by have hb:Below w.heap.size w (w.alloc j):=(φ _ w).alloc (χ _) _;refine ψ (IY (w.alloc j) rb s t r (E.alloc j) T ht a1) ?_;rintro e w'⟨u,g,rfl,h1,h2,h3,P⟩;exact⟨u,g,rfl,⟨h1,h2,h3⟩,P,(Q.mono hb).chg P (λk B=>by subst B;exact a0)⟩
 clear E T Q;go_enter func185,ntmps185;go_wp2_with fail;refine ψ (M.o _) ?_;rintro e C⟨u,d,rfl,m,H,R⟩;have N:ah C w.heap.size #[.string ⟨#[]⟩,.int .u8 0,.string ⟨#[]⟩,.int .i64 0] 86:=(ah.new w _ _).chg H V;have hu:u.size<=1048576:=by
  have:u.size=(toL u).length:=by simp[toL]
  rw[this,m.1];omega
 have y:J<|_:=o9 u C hu R;have o:J<|iC C rb d/\toL d=r/\Chg (λk=>k=rb) w C:=⟨m.2.1,m.2.2,(Chg.of_below ((φ _ w).alloc (χ _) _):Chg (λk=>k=rb) w _).trans H⟩;rw[m.1,b]at y;unfold Gy at y;unfold chV at *;clear M m H R b;go_wp2_with fail;refine ψ y.o ?_;rintro e a⟨rfl,A⟩;have f:=N.below A;have L:J<|iC a rb d/\toL d=r/\Chg (λk=>k=rb) w a:=⟨o.o.1.below A,o.o.2.1,o.o.2.2.below A⟩;have a2:w.heap.size<a.heap.size:=f.lt;have W:=(f.cell 0).trans rfl;have X:=(f.cell 1).trans rfl;have Y:=(f.cell 2).trans rfl;have Z:=(f.cell 3).trans rfl;have f0:=f.frozen;have K:J<|∀n,Calls prog 90 #[.agg #[.string ⟨c.path.toArray⟩,.int .u8 (c.act.toNat:Int),.string (au c.act ⟨c.val.toArray⟩),.int .i64 c.n]] n λe w'=>e=.returned (.bool true)/\Below n.heap.size n w':=λn=>by have:=oV ⟨c.path.toArray⟩ c.act (au c.act ⟨c.val.toArray⟩) c.n n;rw[S]at this;exact this
 have U:=ah.new a #[.string ⟨c.path.toArray⟩,.int .u8 (c.act.toNat:Int),.string (au c.act ⟨c.val.toArray⟩),.int .i64 c.n] 86;have F:Below a.heap.size a (a.alloc (.cells #[.string ⟨c.path.toArray⟩,.int .u8 (c.act.toNat:Int),.string (au c.act ⟨c.val.toArray⟩),.int .i64 c.n] 86)):=(φ _ a).alloc (χ _) _;have q:J<|iC a rb d/\toL d=r/\Chg (λk=>k=rb) w a:=L.o;clear N A y o S;go_wp2_with fail;generalize a.alloc (.cells #[.string ⟨c.path.toArray⟩,.int .u8 (c.act.toNat:Int),.string (au c.act ⟨c.val.toArray⟩),.int .i64 c.n] 86)=w3 at *;refine ψ (K.o _) ?_;rintro e w4⟨rfl,G⟩;have l:=U.below G;have g0:=(l.cell 0).trans rfl;have g1:=(l.cell 1).trans rfl;have g2:=(l.cell 2).trans rfl;have g3:=(l.cell 3).trans rfl;have x:Below a.heap.size a w4:=F.trans (G.mono F.size);have h:=f.below x;have W:=(h.cell 0).trans rfl;have X:=(h.cell 1).trans rfl;have Y:=(h.cell 2).trans rfl;have Z:=(h.cell 3).trans rfl;have f0:=h.frozen;have D:J<|iC w4 rb d/\toL d=r/\Chg (λk=>k=rb) w w4:=⟨q.o.1.below x,q.o.2.1,q.o.2.2.below x⟩;clear U l F G x f h K L q;go_wp2_with fail;have b:Chg (λk=>k=w.heap.size) w4 ((((w4.setCell (z w.heap.size) (.string ⟨c.path.toArray⟩)).setCell (O w.heap.size 1) (.int .u8 (c.act.toNat:Int))).setCell (O w.heap.size 2) (.string (au c.act ⟨c.val.toArray⟩))).setCell (O w.heap.size 3) (.int .i64 c.n)):=((((Chg.refl (λk=>k=w.heap.size) w4).setCell (p:=(z w.heap.size)) rfl _).setCell (p:=(O w.heap.size 1)) rfl _).setCell (p:=(O w.heap.size 2)) rfl _).setCell (p:=(O w.heap.size 3)) rfl _;refine ϐ (v:=.agg #[.string ⟨c.path.toArray⟩,.int .u8 (c.act.toNat:Int),.string (au c.act ⟨c.val.toArray⟩),.int .i64 c.n]) (by simp[results,Tryz.results185,go_sem,W,X,Y,Z,cs_same,cs_oth,World.cell?_setCell_other]) rfl ⟨d,rfl, ?_,D.o.2.1, ?_⟩
 .exact ah.chg D.o.1 b V
 .have i:=D.o.2.2;exact⟨b.os.trans i.os,b.tape.trans i.tape,b.output.trans i.output,ς i.size b.size,λk B hm=>(b.block k (ο B i.size) V).trans (i.block k B hm)⟩
theorem jC(w:World)(s:ByteArray):Calls prog 124 #[.string s] w λe w'=>e=.returned (.pointer (some (z w.heap.size)))/\w'=w.alloc (.cells #[.string s,.bool false] 245):=by go_enter func124,ntmps124;go_wp2;go_ret;exact⟨rfl,rfl⟩
theorem qH(w:World)(rb:Nat)(s:ByteArray)(h:iC w rb s)(a:toL s=[]):Calls prog 168 #[.pointer (some (z rb))] w λe w'=>e=.returned (.bool true)/\w'=w:=by have b:s=⟨#[]⟩:=ji a;subst b;have c:=(h.cell 0).trans rfl;have d:=(h.cell 1).trans rfl;clear h a;go_enter func168,ntmps168;go_wp2;go_ret;exact⟨rfl,rfl⟩
def okR(r:Nat×Nat):Prop:=(who r.1<=5/\1<=nth r.1/\nth r.1<=501)/\1<=r.2/\r.2<=505/\nth r.1+r.2<=502
structure RS(w:World)(rb:Nat)(rs:List (Nat×Nat))(rest:Thk.Bs)(i:Nat)(v3:Value)(wx:World):Prop where
 rd:∃s,iC wx rb s/\toL s=(rs.drop i).flatMap encR++rest/\s.size<=1000000000
 row:wx.ownsRow w.heap.size 134 2 v3 (flatR (rs.take i)).length (aF (flatR (rs.take i)))
 chg:Chg (λk=>k=rb) w wx
theorem lY{w:World}{rb:Nat}{s c:ByteArray}{a b:Thk.Bs}(h:toL s=a++b)(f:toL c=b)(g:s.size<=1000000000):c.size<=1000000000:=by
 have d:c.size=(toL c).length:=by simp[toL]
 have e:s.size=(toL s).length:=by simp[toL]
 rw[f]at d;rw[h,ρ]at e;omega
theorem LY(rs:List (Nat×Nat))(a:Thk.Bs)(i:Nat)(b:i<rs.length):(rs.drop i).flatMap encR++a=encD rs[i].1++(encN rs[i].2++((rs.drop (i+1)).flatMap encR++a)):=by rw[List.drop_eq_getElem_cons b,List.flatMap_cons];unfold encR;simp only[List.append_assoc]
theorem xY(rs:List (Nat×Nat))(i:Nat)(a:i<rs.length):flatR (rs.take (i+1))=flatR (rs.take i)++runD rs[i]:=by rw[ν a,oG]
def itsC(its:List (Nat×Thk.Bs))(j:Nat):Nat->Option Value:=λd=>((its.take j).reverse.find? (λx=>x.1==d)).bind (λx=>match Thk.read x.2 with | .inr c=>some (chV c) | .inl _=>none)
theorem I5(a:List (Nat×Thk.Bs))(j:Nat)(g:j<a.length)(c:Thk.Ch)(f:Thk.read a[j].2=.inr c):itsC a (j+1)=λd=>if d=a[j].1 then some (chV c)else itsC a j d:=by
 funext d;unfold itsC;rw[ν g,List.reverse_append,List.reverse_singleton,List.singleton_append,List.find?_cons];by_cases e:d=a[j].1
 .subst e;simp[f]
 .have b:(a[j].1==d)=false:=by simpa using λh=>e h.symm
  rw[b,ύ e]
theorem zD{b:List (Nat×Thk.Bs)}{P:Nat->Prop}(h:∀x∈b,P x.1)(j d:Nat)(a:itsC b j d≠none):P d:=by
 unfold itsC at a;cases hf:(b.take j).reverse.find? (λx=>x.1==d) with
 | none=>rw[hf]at a;exact absurd rfl a
 | some x =>
  have c:=List.find?_some hf;have e:=List.mem_of_find?_eq_some hf;have f:x.1=d:=by simpa using c
  rw[<- f];exact h x (List.mem_of_mem_take (List.mem_reverse.1 e))
theorem I7{b:List (Nat×Thk.Bs)}{d:Nat}{v:Value}(a:itsC b j d=some v):nX v:=by
 unfold itsC at a;cases hf:(b.take j).reverse.find? (λx=>x.1==d) with
 | none=>rw[hf]at a;cases a
 | some x =>
  rw[hf]at a;simp only[Option.bind_some]at a;split at a
  .cases a;exact⟨_,_,_,_,rfl⟩
  .cases a
theorem I8(a:List (Nat×Thk.Bs))(r:Thk.Bs)(j:Nat)(b:j<a.length):(a.drop j).flatMap encI++r=encD a[j].1++(encN a[j].2.length++a[j].2++((a.drop (j+1)).flatMap encI++r)):=by rw[List.drop_eq_getElem_cons b,List.flatMap_cons];unfold encI;simp only[List.append_assoc]
theorem E8{base:Nat}{v:Value}{ns:List Nat}(h:w.ownsRow base 134 2 v ns.length (aF ns)):aU w v ns:=by
 have m:=h.lt;have e:=λg(a:v.ownBlock=some g)=>h.cells a;rcases h.2 with⟨b,i⟩|⟨g,f,n,b,_,_,k,_⟩
 .exact τ ⟨b,List.eq_nil_of_length_eq_zero i⟩
 .subst b;refine υ ⟨g,0,f,rfl,k,(m g rfl).2,λj l=>?_⟩;have a:=oC ns j l;have c:=e g rfl _ _ a.1;have d:=e g rfl _ _ a.2;rw[GL]at c d;rw[Nat.zero_add];exact⟨c,d⟩
structure RT(w:World)(rb:Nat)(its:List (Nat×Thk.Bs))(u3:Value)(fl:List Nat)(mb j:Nat)(wx:World):Prop where
 row:wx.ownsRow w.heap.size 134 2 u3 fl.length (aF fl)
 mp:∃N,aP prog 134 wx mb N (im (itsC its j))
 kr:ah wx w.heap.size #[.map none,.map none,.map none] 102
 chg:Chg (λk=>k=rb) w wx
 new:w.heap.size<mb
 Yo:rb<w.heap.size
theorem RT.to{d:List (Nat×Thk.Bs)}{u3:Value}{b:List Nat}{e:Nat}{wx wy:World}(h:RT w rb d u3 b e j wx)(a:Chg (λl=>l=rb) wx wy):RT w rb d u3 b e j wy:=by have f:=h.new;have i:=h.Yo;obtain⟨N,c⟩:=h.mp;exact⟨ownsRow_chg h.row a (λg k m=>by have:=(h.row.lt g k).1;omega),⟨N,c.block (a.block _ c.lt V)⟩,h.kr.chg a V,h.chg.trans a,f,i⟩
theorem RT.put{b:List (Nat×Thk.Bs)}{u3:Value}{i:List Nat}{mb N:Nat}{wx wy:World}(h:RT w rb b u3 i mb j wx)(t:j<b.length)(c:Thk.Ch)(q:Thk.read b[j].2=.inr c)(r:wx.grownBy wy (some mb))(f:aP prog 134 wy mb N (upd (im (itsC b j)) (aA b[j].1) (chV c))):RT w rb b u3 i mb (j+1) wy:=by
 have n:=h.new;have o:=h.Yo;obtain⟨v,p⟩:=h.mp;have a:Chg (λk=>k=mb) wx wy:=(Chg.refl _ wx).grown r (λk e=>by cases e;exact τ rfl);have u:∀g,u3.ownBlock=some g->g≠mb:=λg l e=>by rw[e]at l;exact ownsRow_ne h.row (λx y s=>p.jH s) l
 refine⟨ownsRow_chg h.row a u,⟨N,by rw[I5 b j t c q,<- yZ];exact f⟩,h.kr.chg a V, ?_,n,o⟩;have d:=h.chg;exact⟨a.os.trans d.os,a.tape.trans d.tape,a.output.trans d.output,ς d.size a.size,λk m f=>(a.block k (ο m d.size) V).trans (d.block k m f)⟩
theorem Fa(w:World)(hG:Glob w)(rb:Nat)(b6:3<rb)(s:ByteArray)(rs:List (Nat×Nat))(a:List (Nat×Thk.Bs))(r:Thk.Bs)(h:iC w rb s)(hs:toL s=encS rs a++r)(b8:s.size<=1000000000)(c8:rs.length<=505)(ak:∀x∈rs,okR x)(c2:a.length<=505)(J6:∀x∈a,(who x.1<=5/\1<=nth x.1/\nth x.1<=501)/\x.2.length<16384/\∃m,Thk.read x.2=.inr m/\eG m.act=true):Calls prog 126 #[.pointer (some (z rb))] w λe w'=>∃T S W f,e=.returned (.agg #[.map (some T),.map (some S),.map (some W)])/\ay w' T S W (λd=>itsC a a.length d≠none\/d∈flatR rs) (itsC a a.length)/\iC w' rb f/\toL f=r/\(w.heap.size<=T/\w.heap.size<=S/\w.heap.size<=W)/\Chg (λk=>k=rb) w w':=by
 have c5:=@run_makeMap prog;obtain⟨i0,hi,bu,bv,a7⟩:=info_parts Tryz.infoDot;have bn:=h.lt;have ap:J<|∀x∈rs,okR x:=ak;have K:J<|∀x∈a,(who x.1<=5/\1<=nth x.1/\nth x.1<=501)/\x.2.length<16384/\∃m,Thk.read x.2=.inr m/\eG m.act=true:=J6;have ba:J<|Glob w:=hG;obtain⟨rest,aj⟩:∃rest,rest=encN a.length++(a.flatMap encI++r):=⟨_,rfl⟩;have o:toL s=encN rs.length++(rs.flatMap encR++rest):=by rw[hs,aj];unfold encS;simp only[List.append_assoc]
 have WO:J<|rest=encN a.length++(a.flatMap encI++r):=aj;have QW:∀i,i<=rs.length->(flatR (rs.take i)).length<=i*505:=by
  intro i;induction i with
  | zero=>intro _;simp[flatR]
  | succ i ih =>intro h;rw[xY rs i V,ρ,lW];have:=ih V;have cg:=(ak rs[i] (κ V)).2.2.1;omega
 have QX:J<|∀i,i<=rs.length->(flatR (rs.take i)).length<=i*505:=QW;have HN:J<|∀l,Calls prog 167 #[.pointer (some (z rb)),.int .i64 0,.int .i64 505] (w.alloc l) λe w'=>e=.returned (.int .i64 rs.length)/\RS w rb rs rest 0 (.slice none 0 0) w'/\Chg (λk=>k=rb) (w.alloc l) w':=λl=>by refine ψ (dM (w.alloc l) rb s rs.length 0 505 (rs.flatMap encR++rest) (h.alloc l) o V V V V b8) ?_;rintro e w'⟨f,rfl,E,cg,C⟩;have y:Chg (λk=>k=rb) w w':=(Chg.of_below ((φ _ w).alloc (χ _) l):Chg (λk=>k=rb) w _).trans C;exact⟨rfl,⟨⟨f,E,cg,lY (w:=w) (rb:=rb) o cg b8⟩,World.ownsRow_nil _ _ _ _,y⟩,C⟩
 clear h hs o aj ak J6 hG QW;go_enter func126,ntmps126;go_wp2_with fail;refine ψ (HN.o _) ?_;rintro e w1⟨rfl,WQ,wU⟩;have QV:ah w1 w.heap.size #[.map none,.map none,.map none] 102:=(ah.new w _ _).chg wU V;have ac:J<|RS w rb rs rest 0 (.slice none 0 0) w1/\ah w1 w.heap.size #[.map none,.map none,.map none] 102:=⟨WQ,QV⟩;clear HN WQ wU QV;go_wp2_with fail;go_loopg [3,9] rs.length (λg v3 v9 wx=>∃i:Nat,i+g=rs.length/\v9=.int .i64 i/\RS w rb rs rest i v3 wx/\ah wx w.heap.size #[.map none,.map none,.map none] 102);case atStart=>exact⟨0,V,rfl,ac.o.1,ac.o.2⟩
 case round =>
  obtain⟨i,c1,rfl,hR,b3⟩:=hrel;have H:J<|RS w rb rs rest i u3 wr/\ah wr w.heap.size #[.map none,.map none,.map none] 102:=⟨hR,b3⟩;clear ac b3;by_cases ai:i<rs.length
  .have b5:=ap.o _ (κ ai);obtain⟨R,M,c,D⟩:=hR.rd;rw[LY rs rest i ai]at c;have HE:J<|flatR (rs.take (i+1))=flatR (rs.take i)++runD rs[i]:=xY rs i ai;have af:=QX.o i V;obtain⟨x,cf⟩:∃x,rs[i]=x:=⟨_,rfl⟩;rw[cf]at b5 c HE;obtain⟨d,q⟩:=x;simp only at c;obtain⟨L,bo,QD,WR⟩:=b5;simp only at L bo QD WR;obtain⟨ch,a0⟩:∃ch,ch=(rs.drop (i+1)).flatMap encR++rest:=⟨_,rfl⟩;have Z9:J<|ch=(rs.drop (i+1)).flatMap encR++rest:=a0;rw[<- a0]at c;have LZ:J<|_:=BO wr rb R d (encN q++ch) M c ⟨L.1,L.2.1,ς L.2.2 Ψ⟩ D;have IZ:J<|∀b A l,iC b rb A->toL A=encN q++ch->Calls prog 167 #[.pointer (some (z rb)),.int .i64 1,.int .i64 505] (b.alloc l) λe w'=>∃f,e=.returned (.int .i64 q)/\(iC w' rb f/\toL f=ch/\f.size<=1000000000)/\Chg (λk=>k=rb) (b.alloc l) w':=λb A l cg o=>by have a7:=lY (w:=w) (rb:=rb) c o D;refine ψ (dM (b.alloc l) rb A q 1 505 ch (cg.alloc l) o V V V V a7) ?_;rintro e w'⟨f,rfl,E,cg,C⟩;exact⟨f,rfl,⟨E,cg,lY (w:=w) (rb:=rb) o cg a7⟩,C⟩
   clear M c D hR cf a0;go_wp2_with fail;refine ψ LZ.o ?_;rintro e b⟨A,rfl,Q,o,U⟩;have b4:=Q.lt;have ab:J<|Chg (λk=>k=rb) wr b:=U;have TI:J<|_:=λl=>IZ.o b A l Q o;clear LZ IZ Q o U;go_wp2_with fail;refine ψ (TI.o _) ?_;rintro e ci⟨s3,rfl,Le,TJ⟩;have UU:ah ci b.heap.size #[.int .i64 (who d),.int .i64 (nth d),.int .i64 0] 250:=(ah.new b _ _).chg TJ V;have oM:J<|Chg (λk=>k=rb) wr ci:=ab.o.trans ((Chg.of_below ((φ _ b).alloc (χ _) _):Chg (λk=>k=rb) b _).trans TJ);have c0:rb<b.heap.size:=b4;have cc:wr.heap.size<=b.heap.size:=ab.o.size;have x0:=(UU.cell 0).trans rfl;have x1:=(UU.cell 1).trans rfl;have x2:=(UU.cell 2).trans rfl;have fx:=UU.frozen;have ad:J<|iC ci rb s3/\toL s3=ch/\s3.size<=1000000000:=Le;have Hd:J<|∀wx,Calls prog 184 #[.agg #[.int .i64 (who d),.int .i64 (nth d),.int .i64 q]] wx λe w'=>∃v,e=.returned v/\w'.ownsRow wx.heap.size 134 2 v q (aF (runD (d,q)))/\Below wx.heap.size wx w':=λwx=>BK wx d q V;have O6:b.heap.size<ci.heap.size:=UU.lt;clear TI Le TJ UU ab;go_wp2_with fail;refine ψ (Hd.o _) ?_;rintro e w5⟨v5,rfl,TF,Z⟩;have ax:Chg (λk=>k=b.heap.size) ci (ci.setCell (O b.heap.size 2) (.int .i64 q)):=(Chg.refl (λk=>k=b.heap.size) ci).setCell (p:=(O b.heap.size 2)) rfl _;have RY:(ci.setCell (O b.heap.size 2) (.int .i64 q)).heap.size=ci.heap.size:=Ω
   have X:Chg (λk=>k=b.heap.size) ci w5:=ax.trans (Chg.of_below Z);have a9:Chg (λk=>k=rb) wr w5:=by have ce:=oM.o;exact⟨X.os.trans ce.os,X.tape.trans ce.tape,X.output.trans ce.output,ς ce.size X.size,λk B hm=>(X.block k (ο B ce.size) V).trans (ce.block k B hm)⟩
   have ag:∀g,u3.ownBlock=some g->w.heap.size<=g:=λg hg=>(H.o.1.row.lt g hg).1;have WJ:w5.ownsRow w.heap.size 134 2 u3 (flatR (rs.take i)).length (aF (flatR (rs.take i))):=ownsRow_chg H.o.1.row a9 (λg hg e=>by have:=ag g hg;omega);have b1:iC w5 rb s3:=ah.chg ad.o.1 X V;have WS:=H.o.2.chg a9 V;obtain⟨g5,bd,br⟩:=own_some TF V;subst br;have VH:J<|∀j u,(aF (runD (d,q)))[j]?=some u->w5.cell? (((z g5):Addr).add j)=some u:=TF.cells (g:=g5) rfl;have LJ:J<|w5.ownsRow w.heap.size 134 2 u3 (flatR (rs.take i)).length (aF (flatR (rs.take i))):=WJ;have UQ:J<|iC w5 rb s3/\ah w5 w.heap.size #[.map none,.map none,.map none] 102/\Chg (λk=>k=rb) w w5:=⟨b1,WS,H.o.1.chg.trans a9⟩;have bj:w.heap.size<=w5.heap.size:=ς H.o.1.chg.size a9.size;have be:(flatR (rs.take i)).length+q<=maxLen:=by unfold maxLen;omega
   have bf:((flatR (rs.take i)).length+q)*16<=140737488355328:=V
   have bp:(aF (runD (d,q))).length=q*2:=by rw[uO,lW]
   clear ax RY X a9 WJ b1 WS TF Z Hd oM x0 x1 x2 fx af;generalize bk:(flatR (rs.take i)).length=fn at *;go_wp2_with (first|(at_builtin;refine wpList_append_own_at _ rfl (.tmp 17) (.tmp 19) 137 rfl w.heap.size 134 i0 (.agg #[.int .i64 0,.int .i64 0]) 2 16 underlying137 hi bu bv a7 rfl Ψ _ _ _ rfl LJ.o (z g5) q bd (aF (runD (d,q))) rfl bp VH.o (uP _) be bf bj ?_;intro v6 w6 bq aa c6 qg));have zC:Chg (λk=>u3.ownBlock=some k) w5 w6:=(Chg.refl _ w5).grown aa (λk e=>τ e);go_roundg (rs.length-(i+1));case measure=>omega
   case rel =>
    refine⟨i+1,V,Λ,⟨⟨s3,ah.chg UQ.o.1 zC (λe=>by have:=ag _ e;omega),by rw[<- Z9.o];exact ad.o.2.1,ad.o.2.2⟩, ?_, ?_⟩, ?_⟩
    .rw[HE.o,uN,ρ,lW,bk];exact bq
    .have ce:=UQ.o.2.2;exact⟨zC.os.trans ce.os,zC.tape.trans ce.tape,zC.output.trans ce.output,ς ce.size zC.size,λk B hm=>(zC.block k (ο B ce.size) (λe=>by have:=ag _ e;omega)).trans (ce.block k B hm)⟩
    .exact UQ.o.2.1.chg zC (λe=>ownsRow_ne LJ.o (λbz fz hh=>by rw[show w5.heap[w.heap.size]?=_ from UQ.o.2.1]at hh;cases hh) e)
  .have e:i=rs.length:=V
   subst e;obtain⟨R,M,c,D⟩:=hR.rd;rw[List.drop_length,List.flatMap_nil,List.nil_append,WO.o]at c;have al:=H.o.1.row;rw[List.take_length]at al;have HN:J<|∀l,Calls prog 167 #[.pointer (some (z rb)),.int .i64 0,.int .i64 505] (wr.alloc l) λe w'=>∃f,e=.returned (.int .i64 a.length)/\(iC w' rb f/\toL f=(a.drop 0).flatMap encI++r/\f.size<=1000000000)/\Chg (λk=>k=rb) (wr.alloc l) w':=λl=>by refine ψ (dM (wr.alloc l) rb R a.length 0 505 (a.flatMap encI++r) (M.alloc l) c V V V V D) ?_;rintro e w'⟨f,rfl,E,cg,C⟩;exact⟨f,rfl,⟨E,cg,lY (w:=w) (rb:=rb) c cg D⟩,C⟩
   have bs:w.heap.size<wr.heap.size:=H.o.2.lt;have QY:=aP.made wr prog 134;have ao:J<|RT w rb a u3 (flatR rs) wr.heap.size 0 (wr.alloc (.map #[] 0)):=by
    have Y:Below wr.heap.size wr (wr.alloc (.map #[] 0)):=(φ _ wr).alloc (χ _) _;refine⟨own_below al Y,⟨0, ?_⟩,H.o.2.below Y,H.o.1.chg.below Y,bs,bn⟩;have e0:itsC a 0=λ_=>none:=by funext d;unfold itsC;simp
    rw[e0,oZ];exact QY
   clear hR M c D QY al;go_wp2_with fail;refine ψ (HN.o _) ?_;rintro e b⟨A,rfl,ar,U⟩;have ae:J<|RT w rb a u3 (flatR rs) wr.heap.size 0 b/\∃s,iC b rb s/\toL s=(a.drop 0).flatMap encI++r/\s.size<=1000000000:=⟨ao.o.to U,A,ar⟩;clear HN ar U ao H;go_wp2_with fail;generalize wr.heap.size=G at *;go_loopg [25] a.length (λg bw wx=>∃j:Nat,j+g=a.length/\bw=.int .i64 j/\RT w rb a u3 (flatR rs) G j wx/\∃s,iC wx rb s/\toL s=(a.drop j).flatMap encI++r/\s.size<=1000000000);case atStart=>exact⟨0,V,rfl,ae.o.1,ae.o.2⟩
   case round =>
    obtain⟨j,c3,rfl,F,R,M,c,D⟩:=hrel;have HT:J<|RT w rb a u3 (flatR rs) G j wr:=F;clear ae;by_cases hj:j<a.length
    .obtain⟨L,ht,m,y,he⟩:=K.o _ (κ hj);rw[I8 a r j hj]at c;obtain⟨N0,a8⟩:=F.mp;have bh:N0<=3072:=fM a8 (λd hd=>zD (P:=okD) (λx cf=>⟨(K.o x cf).1.1,(K.o x cf).1.2.1,by have:=(K.o x cf).1.2.2;omega⟩) j d hd);have bb:J<|∀wx N,aP prog 134 wx G N (im (itsC a j))->N<maxLen:=λwx N hN=>by have:=fM hN (λd hd=>zD (P:=okD) (λx cf=>⟨(K.o x cf).1.1,(K.o x cf).1.2.1,by have:=(K.o x cf).1.2.2;omega⟩) j d hd);unfold maxLen;omega
     have HP:J<|∀wx wy N,RT w rb a u3 (flatR rs) G j wx->wx.grownBy wy (some G)->aP prog 134 wy G N (upd (im (itsC a j)) (aA a[j].1) (chV m))->RT w rb a u3 (flatR rs) G (j+1) wy:=λwx wy N E cg C=>E.put hj m y cg C;obtain⟨x,cf⟩:∃x,a[j]=x:=⟨_,rfl⟩;rw[cf]at L ht y c HP;obtain⟨d,t⟩:=x;simp only at L ht y c HP;obtain⟨kl,b2⟩:=keyE d V;obtain⟨ch,a0⟩:∃ch,ch=(a.drop (j+1)).flatMap encI++r:=⟨_,rfl⟩;have Z9:J<|ch=(a.drop (j+1)).flatMap encI++r:=a0;rw[<- a0]at c;have LZ:J<|_:=BO wr rb R d (encN t.length++t++ch) M c ⟨L.1,L.2.1,ς L.2.2 Ψ⟩ D;have bx:=F.new;have bc:=F.Yo;have WT:J<|∀b A wx,RT w rb a u3 (flatR rs) G j b->iC b rb A->toL A=encN t.length++t++ch->ah wx b.heap.size #[.int .i64 (who d),.int .i64 (nth d)] 134->Below b.heap.size b wx->Calls prog 185 #[.pointer (some (z rb))] wx λe w'=>∃f,e=.returned (.agg #[.string ⟨m.path.toArray⟩,.int .u8 (m.act.toNat:Int),.string (au m.act ⟨m.val.toArray⟩),.int .i64 m.n])/\(iC w' rb f/\toL f=ch/\f.size<=1000000000)/\RT w rb a u3 (flatR rs) G j w'/\ah w' b.heap.size #[.int .i64 (who d),.int .i64 (nth d)] 134:=λb A wx cg Q o bm Y=>by have a7:=lY (w:=w) (rb:=rb) c o D;have bg:Glob wx:=(ba.o.chg cg.chg (λk B=>by subst B;exact b6)).mono Y;refine ψ (BP wx bg rb b6 A t ch m (Q.below Y) o ht a7 y he) ?_;rintro e w'⟨f,rfl,C,h4,h5⟩;have b4:=Q.lt;exact⟨f,rfl,⟨C,h4,lY (w:=w) (rb:=rb) o h4 a7⟩,(cg.to (Chg.of_below Y)).to h5,bm.chg h5 V⟩
     clear M c D F cf a0 a8 y he ht bh;go_wp2_with fail;refine ψ LZ.o ?_;rintro e b⟨A,rfl,Q,o,U⟩;have av:=HT.o.to U;have kd:=ah.new b #[.int .i64 (who d),.int .i64 (nth d)] 134;have aw:Below b.heap.size b (b.alloc (.cells #[.int .i64 (who d),.int .i64 (nth d)] 134)):=(φ _ b).alloc (χ _) _;have b9:J<|∀wx,wx.heap=(b.alloc (.cells #[.int .i64 (who d),.int .i64 (nth d)] 134)).heap->wx.os=b.os->wx.tape=b.tape->wx.output=b.output->Calls prog 185 #[.pointer (some (z rb))] wx _:=λwx E C h4 h5=>WT.o b A wx av Q o (by unfold ah;rw[E];exact kd) ⟨C,h4,h5,by rw[E];simp,λk B=>by rw[E];exact aw.block k B⟩;have z0:=(kd.cell 0).trans rfl;have z1:=(kd.cell 1).trans rfl;clear LZ WT Q o U av aw;unfold chV at HP;go_wp2_with fail;go_region_with (go_at_call 185;refine ψ (b9.o _ rfl rfl rfl rfl) ?_;rintro e w4⟨s4,rfl,jo,QZ,b0⟩;have y0:=(b0.cell 0).trans rfl;have y1:=(b0.cell 1).trans rfl;obtain⟨N4,aq⟩:=QZ.mp;obtain⟨w6,c9,sF,aa,ca⟩:=aq.store fG underlying96 (bb.o _ _ aq) (.agg #[.string ⟨m.path.toArray⟩,.int .u8 (m.act.toNat:Int),.string (au m.act ⟨m.val.toArray⟩),.int .i64 m.n]) b2);all_goals
      have bi:=HP.o _ _ _ QZ aa sF;have bl:iC w6 rb s4:=ah.grown jo.1 aa V;go_wp2_with fail;go_roundg (a.length-(j+1));case measure=>omega
      case rel=>exact⟨j+1,V,Λ,bi,s4,bl,by rw[<- Z9.o];exact jo.2.1,jo.2.2⟩
    .have e:j=a.length:=V
     subst e;rw[List.drop_length,List.flatMap_nil,List.nil_append]at c;obtain⟨N0,a8⟩:=F.mp;have az:∀d∈flatR rs,okD d:=λd hd=>by unfold flatR at hd;obtain⟨x,cf,UO⟩:=List.mem_flatMap.1 hd;have bt:=ap.o x cf;unfold runD at UO;obtain⟨k,B,rfl⟩:=ι.1 UO;have c4:=List.mem_range.1 B;obtain⟨⟨a1,a2,a3⟩,a4,a5,a6⟩:=bt;exact⟨by rw[pz V];exact a1,by rw[ni V];omega,by rw[ni V];omega⟩
     have af:(flatR rs).length<=1000000:=by have:=QX.o rs.length (χ _);rw[List.take_length]at this;omega
     have an:J<|_:=EI wr (some G) u3 (itsC a a.length) (flatR rs) N0 (υ ⟨G,rfl,a8⟩) (λn v hv=>I7 hv) (λn hn=>zD (P:=okD) (λx cf=>⟨(K.o x cf).1.1,(K.o x cf).1.2.1,by have:=(K.o x cf).1.2.2;omega⟩) a.length n hn) (E8 F.row) af az;have cd:=F.chg.size;have bc:=F.Yo;have b2:=F.kr.lt;have HX:J<|iC wr rb R/\toL R=r:=⟨M,c⟩;clear F a8 M c D az;go_wp2_with fail;refine ψ an.o ?_;rintro e w5⟨T,S,W,rfl,b7,c7,Z⟩;have Q5:=HT.o.kr.below Z;have r0:=(Q5.cell 0).trans rfl;have r1:=(Q5.cell 1).trans rfl;have r2:=(Q5.cell 2).trans rfl;have f0:=Q5.frozen;have HS:J<|ay w5 T S W (λd=>itsC a a.length d≠none\/d∈flatR rs) (itsC a a.length)/\Chg (λk=>k=rb) w w5/\iC w5 rb R:=⟨b7,HT.o.chg.below Z,HX.o.1.below Z⟩;clear b7 Z Q5 an;go_wp2_with fail;have y:Chg (λk=>k=w.heap.size) w5 (((w5.setCell (z w.heap.size) (.map (some T))).setCell (O w.heap.size 1) (.map (some S))).setCell (O w.heap.size 2) (.map (some W))):=(((Chg.refl (λk=>k=w.heap.size) w5).setCell (p:=(z w.heap.size)) rfl _).setCell (p:=(O w.heap.size 1)) rfl _).setCell (p:=(O w.heap.size 2)) rfl _;refine ϐ (v:=.agg #[.map (some T),.map (some S),.map (some W)]) (by simp[results,Tryz.results126,go_sem,r0,r1,r2,cs_same,cs_oth,World.cell?_setCell_other]) rfl ⟨T,S,W,R,rfl,HS.o.1.chg y V V V,ah.chg HS.o.2.2 y V,HX.o.2,V, ?_⟩;have ce:=HS.o.2.1;exact⟨y.os.trans ce.os,y.tape.trans ce.tape,y.output.trans ce.output,ς ce.size y.size,λk B hm=>(y.block k (ο B ce.size) V).trans (ce.block k B hm)⟩
end
section
open Go.Proofs.Tryz Go.RowKit Go.Maps Go.ChangeMaps Go.MapKept
theorem xZ:∀l:List Value,(∀v∈l,∃n,v=aA n)->∃a:List Nat,l=a.map aA
 | [],_=>⟨[],rfl⟩
 | v::l,h=>by obtain⟨n,rfl⟩:=h v Ω;obtain⟨a,rfl⟩:=xZ l (λv b=>h v (by simp[b]));exact⟨n::a,rfl⟩
theorem BQ{w:World}{v:Value}{N:Nat}{It:Nat->Option Value}(h:aW prog 134 w v N (im It)):∃b:List Nat,b.Nodup/\b.length=N/\∀n,n∈b↔It n≠none:=by
 rcases h with⟨rfl,rfl,h⟩|⟨j,rfl,h⟩
 .exact⟨[],List.nodup_nil,rfl,λn=>⟨λh=>(List.not_mem_nil h).elim,λa=>by rw[<- eP It n,h]at a;exact absurd rfl a⟩⟩
 .obtain⟨l,d,f,c⟩:=h.count fG;obtain⟨b,rfl⟩:=xZ l (λv i=>by
   have:=(c v).1 i;cases e:im It v with
   | none=>exact absurd e this
   | some u=>obtain⟨n,a,_⟩:=jJ e;exact⟨n,a⟩)
  refine⟨b, ?_,by simpa using f,λn=>?_⟩
  .exact(List.nodup_iff_pairwise_ne.1 d |> List.pairwise_map.1).imp (λh e=>h (by rw[e]))
  .rw[<- eP It n,<- c];constructor
   .intro a;exact List.mem_map_of_mem a
   .intro a;obtain⟨k,g,e⟩:=ι.1 a;rw[<- dR e];exact g
theorem own_base{w:World}{B a:Nat}{e:TypeId}{size:Nat}{v:Value}{n:Nat}{xs:List Value}(h:w.ownsRow B e size v n xs)(j:a<=B):w.ownsRow a e size v n xs:=by obtain⟨k,h⟩:=h;refine⟨k,h.imp_right ?_⟩;rintro⟨g,b,c,d,f,i⟩;exact⟨g,b,c,d,ς j f,i⟩
theorem I9(w:World)(io co lo:Option Nat)(c:Nat->Nat)(L:Nat->Bool)(m:iI w (.map co) (.map lo) c L):Calls prog 221 #[.agg #[.map io,.map co,.map lo]] w λe w'=>∃v a b,e=.returned v/\BN a/\(∀d,d∈a↔1<=nth d/\iP c L d)/\Runs a a.length b/\w'.ownsRow w.heap.size 250 3 v b.length (dA b)/\Below w.heap.size w w':=by
 have o:J<|∀l,Calls prog 268 #[.agg #[.map co,.map lo]] (w.alloc l) λe w'=>∃v a b,e=.returned v/\BN a/\(∀d,d∈a↔1<=nth d/\iP c L d)/\Runs a a.length b/\w'.ownsRow w.heap.size 250 3 v b.length (dA b)/\Below w.heap.size w w':=λl=>by have k:Below w.heap.size w (w.alloc l):=(φ _ w).alloc (χ _) _;refine ψ (LU _ co lo c L (m.below k)) ?_;rintro e w'⟨v,a,b,rfl,f,g,h,i,j⟩;exact⟨v,a,b,rfl,f,g,h,own_base i Ω,k.trans (j.mono k.size)⟩
 clear m;go_enter func221,ntmps221;go_wp2_with fail;refine ψ (o.o _) ?_;rintro e p⟨v,a,b,rfl,f,g,h,i,j⟩;have n:J<|_:=And.intro f (And.intro g (And.intro h (And.intro i j)));clear f g h i j;go_wp2;go_ret;exact⟨v,a,b,rfl,n.o⟩
theorem Fe(w:World)(io co lo:Option Nat)(N:Nat)(m:Value->Option Value)(h:aW prog 134 w (.map io) N m):Calls prog 223 #[.agg #[.map io,.map co,.map lo]] w λe w'=>e=.returned (.int .i64 N)/\Below w.heap.size w w':=by have c:J<|∀a b,(Builtin.len_ #[96] b #[.map io]).run prog (w.alloc a)=.ok (.int .i64 N) (w.alloc a):=λa b=>(h.below ((φ _ w).alloc (χ _) _)).len underlying96 b;have d:∀a,Below w.heap.size w (w.alloc a):=λa=>(φ _ w).alloc (χ _) _;clear h;go_enter func223,ntmps223;go_wp2_with fail;rw[c.o];go_wp2;go_ret;exact⟨rfl,d _⟩
theorem BR(w:World)(a m k:Nat)(e:Bool)(f c d:Value)(X:a<=5)(Y:m<=505)(x:k<=1):Calls prog 164 #[.agg #[.int .i64 a,.int .i64 m,.bool e,f,c,d],.int .i64 k] w λg w'=>∃v',g=.returned v'/\aH w.heap.size w' v' (encN k++encN a++encN m)/\aY w.heap.size w w':=by
 have L:=encN_len k;have K:=encN_len a;have T:J<|([]:Thk.Bs)++encN k++encN a++encN m=encN k++encN a++encN m:=ω<|by rw[List.nil_append]
 have l:=ah.new w #[.int .i64 a,.int .i64 m,.bool e,f,c,d] 104;have s:J<|aY w.heap.size w (w.alloc (.cells #[.int .i64 a,.int .i64 m,.bool e,f,c,d] 104)):=aY.of_below ((φ _ w).alloc (χ _) _);go_enter func164,ntmps164;go_wp2_with fail;generalize w.alloc (.cells #[.int .i64 a,.int .i64 m,.bool e,f,c,d] 104)=h at *;have C:h.cell? (z w.heap.size)=some (.int .i64 a):=(l.cell 0).trans rfl;have D:h.cell? (O w.heap.size 1)=some (.int .i64 m):=(l.cell 1).trans rfl;have j:∀(q:Nat)(n:Thk.Bs)wx b u,(aH w.heap.size b u n/\aY w.heap.size w b/\ah b w.heap.size #[.int .i64 a,.int .i64 m,.bool e,f,c,d] 104)->n.length<=1000000->q<16384->wx.heap=b.heap->wx.os=b.os->wx.tape=b.tape->wx.output=b.output->Calls prog 220 #[u,.int .i64 q] wx λg w'=>∃v',g=.returned v'/\(aH w.heap.size w' v' (n++encN q)/\aY w.heap.size w w'/\ah w' w.heap.size #[.int .i64 a,.int .i64 m,.bool e,f,c,d] 104)/\w'.cell? (z w.heap.size)=some (.int .i64 a)/\w'.cell? (O w.heap.size 1)=some (.int .i64 m):=λq n wx b u i M Q r N R P=>by
  obtain⟨S,hF,x⟩:=i;have v:aY w.heap.size w wx:=hF.trans (aY.heap r N R P);have U:ah wx w.heap.size #[.int .i64 a,.int .i64 m,.bool e,f,c,d] 104:=by unfold ah;rw[r];exact x
  refine ψ (EY w.heap.size wx u _ q (S.heap r) v.size M Q) ?_;rintro g w'⟨v',rfl,F,t⟩;have o:=t.blk U Ψ;exact⟨v',rfl,⟨F,v.trans t,o⟩,(o.cell 0).trans rfl,(o.cell 1).trans rfl⟩
 have B:J<|∀wx,wx.heap=h.heap->wx.os=h.os->wx.tape=h.tape->wx.output=h.output->Calls prog 220 #[.slice none 0 0,.int .i64 k] wx _:=λwx=>j k [] wx h (.slice none 0 0) ⟨aH.nil _ _,s.o,l⟩ Ω V;have y:J<|∀wx b u,(aH w.heap.size b u ([]++encN k)/\aY w.heap.size w b/\ah b w.heap.size #[.int .i64 a,.int .i64 m,.bool e,f,c,d] 104)->wx.heap=b.heap->wx.os=b.os->wx.tape=b.tape->wx.output=b.output->Calls prog 220 #[u,.int .i64 a] wx _:=λwx b u i=>j a _ wx b u i Θ V;have A:J<|∀wx b u,(aH w.heap.size b u ([]++encN k++encN a)/\aY w.heap.size w b/\ah b w.heap.size #[.int .i64 a,.int .i64 m,.bool e,f,c,d] 104)->wx.heap=b.heap->wx.os=b.os->wx.tape=b.tape->wx.output=b.output->Calls prog 220 #[u,.int .i64 m] wx _:=λwx b u i=>j m _ wx b u i Θ V;clear l L K s j;go_region_held3 (λw'=>w'.cell? (z w.heap.size)=some (.int .i64 a)/\w'.cell? (O w.heap.size 1)=some (.int .i64 m)) (first|assumption|exact⟨C,D⟩|exact g0|exact f0|exact E) (first|(go_at_call 220;refine ψ (A.o _ W _ H rfl rfl rfl rfl) ?_;rintro g w5⟨Z,rfl,p,g0⟩)|(go_at_call 220;refine ψ (y.o _ b _ G rfl rfl rfl rfl) ?_;rintro g W⟨d,rfl,H,f0⟩)|(go_at_call 220;refine ψ (B.o _ rfl rfl rfl rfl) ?_;rintro g b⟨c,rfl,G,E⟩));go_wp2_with fail;go_ret;rw[T.o]at p;exact⟨_,rfl,p.1,p.2.1⟩
end
section
open Go.Proofs.Tryz Go.RowKit Go.Maps
variable{v v':Value}{w w':World}
structure bG(v:Value)(w:World)(v':Value)(w':World):Prop where
 chg:Chg (λk=>v.ownBlock=some k) w w'
 loc:∀g,v'.ownBlock=some g->v.ownBlock=some g\/w.heap.size<=g
theorem bG.trans{c d:Value}{w1 w2:World}(h:bG v w c w1)(k:bG c w1 d w2):bG v w d w2:=by
 have l:=h.chg.size;refine⟨⟨k.chg.os.trans h.chg.os,k.chg.tape.trans h.chg.tape,k.chg.output.trans h.chg.output,ς l k.chg.size,λj i b=>?_⟩,λg f=>?_⟩
 .refine(k.chg.block j V (λe=>?_)).trans (h.chg.block j i b);rcases h.loc j e with a|a
  .exact b a
  .omega
 .rcases k.loc g f with a|a
  .exact h.loc g a
  .right;omega
theorem bG.of_below(a:Below w.heap.size w w'):bG v w v w':=⟨Chg.of_below a,λ_ h=>τ h⟩
theorem bG.heap(a:w'.heap=w.heap)(b:w'.os=w.os)(d:w'.tape=w.tape)(c:w'.output=w.output):bG v w v w' :=
 ⟨⟨b,d,c,by rw[a];exact χ _,λk _ _=>by rw[a]⟩,λ_ h=>τ h⟩
theorem bG.app0(a:w.grownBy w' v.ownBlock)(b:v'.ownBlock=v.ownBlock\/v'.ownBlock=some w.heap.size):bG v w v' w':=by
 refine⟨(Chg.refl _ w).grown a (λk e=>τ e),λg h=>?_⟩;rcases b with e|e
 .exact τ (e▸h)
 .rw[e]at h;cases h;exact υ (χ _)
theorem bG.app{o:Obj}(a:(w.alloc o).grownBy w' v.ownBlock)(b:v'.ownBlock=v.ownBlock\/v'.ownBlock=some (w.alloc o).heap.size):bG v w v' w' :=
 (bG.of_below ((φ _ w).alloc (χ _) o)).trans (bG.app0 a b)
theorem bG.blk{B:Nat}{l:Thk.Bs}{b:Nat}{cs:Array Value}{t:TypeId}(h:bG v w v' w')(c:aH B w v l)(k:ah w b cs t)(d:t≠5):ah w' b cs t:=by
 refine k.chg h.chg (λa=>ownsRow_ne c (λf g e=>?_) a);rw[show w.heap[b]?=_ from k]at e;cases e
 exact d rfl
theorem bG.pI{B:Nat}{l:Thk.Bs}(h:bG v w v' w')(c:aH B w v l):aY B w w':=by
 refine h.chg.mono (λk i e=>?_);rcases c.2 with⟨rfl,_⟩|⟨g,d,f,rfl,a,b,_⟩
 .cases e
 .cases e;exact⟨a,_,_,b⟩
section
variable{P:Program}{w:World}
open Go.Lib in
theorem Fg(base:Nat)(t u b e:TypeId)(i:TypeInfo)(h:P.underlying t=some (.slice e))(k:P.underlying u=some .string)(c:P.info? e=some i)(o:i.zero=some (.int .u8 0))(m:i.size=1)(l:i.bytes=1)(v:Value)(n:Nat)(xs:List Value)(d:w.ownsRow base e 1 v n xs)(s:ByteArray)(q:n+s.size<=maxLen)(B:n+s.size<=140737488355328)(A:base<=w.heap.size):∃v' w',(Builtin.append_ #[t,u] b #[v,.string s]).run P w=.ok v' w'/\w'.ownsRow base e 1 v' (n+s.size) (xs++strCells s)/\w.grownBy w' v.ownBlock/\(v'.ownBlock=v.ownBlock\/v'.ownBlock=some w.heap.size):=by
 obtain⟨v',w',f,r,x,y⟩:=run_append_own_string (P:=P) w base t u b e i h k c o m l v n xs d s q B A;refine⟨v',w',f,r,x, ?_⟩;have Q:n+s.size<=9223372036854775807:=by simp only[maxLen]at q;omega
 have H:xs.length=n:=by simpa using d.1
 rcases d.2 with⟨rfl,rfl⟩|⟨g,cap,p,rfl,K,D,N,L,C,R⟩
 .by_cases E:s.size=0
  .left;rw[y.2 ⟨rfl,E⟩]
  .right;have a:=run_append_nil_string (P:=P) w t u b e i (.int .u8 0) h k c o s V V (by rw[l];omega);rw[f]at a;injection a with h5 h6
   rw[h5];(first|done|rfl)
 .by_cases G:n+s.size<=cap
  .left;have M:p.size=cap:=by simpa using C
   have a:=run_append_room_string (P:=P) w t u b e i h k c m g n cap p D s G V;rw[f]at a;injection a with h5 h6
   rw[h5];(first|done|rfl)
  .right;have F:∀j u,xs[j]?=some u->w.cell? (((z g):Addr).add j)=some u:=d.cells (g:=g) rfl;have a:=run_append_grow_string (P:=P) w t u b e i (.int .u8 0) h k c o (z g) n cap xs (by rw[m];simpa using H) F s V V (by rw[l];exact growslice_fits V V);rw[f]at a;injection a with h5 h6
   rw[h5];(first|done|rfl)
theorem wV{d:Array Oper}{f:List Oper}{o:Oper}{a:Act}{Q:Exit->Act->World->Prop}(A:o.guard=none)(g x:Operand)(t u:TypeId)(C:o.op=.call { callee:=.builtin .append,args:=#[g,x],argTypes:=#[t,u] })(b:Nat)(e:TypeId)(i:TypeInfo)(H:P.underlying t=some (.slice e))(K:P.underlying u=some .string)(B:P.info? e=some i)(M:i.zero=some (.int .u8 0))(G:i.size=1)(r:i.bytes=1)(v:Value)(n:Nat)(c:List Value)(F:a.eval g=v)(D:w.ownsRow b e 1 v n c)(s:ByteArray)(L:a.eval x=.string s)(m:n+s.size<=maxLen)(y:n+s.size<=140737488355328)(q:b<=w.heap.size)(h:∀v' w',w'.ownsRow b e 1 v' (n+s.size) (c++Lib.strCells s)->w.grownBy w' v.ownBlock->(v'.ownBlock=v.ownBlock\/v'.ownBlock=some w.heap.size)->wpList P d Q f (a.put o.dst v') w'):wpList P d Q (o::f) a w:=by refine wpList_plain A λN p=>?_;obtain⟨v',w',E,j,k,l⟩:=Fg (P:=P) b t u o.type e i H K B M G r v n c D s m y q;unfold Oper.wp execOp;simp only[C,resolve,invoke,builtin,Sem.run_bind,Sem.run_pure,Result.andThen_ok,List.map_toArray,List.map_cons,List.map_nil,F,L,E];exact p _ _ (h v' w' j k l)
end
theorem iY(B:Nat)(w:World)(v:Value)(l:Thk.Bs)(n:Nat)(k:aH B w v l)(U:B<=w.heap.size)(hl:l.length<=1000000)(hn:n<16384):Calls prog 220 #[v,.int .i64 n] w λS w'=>∃v',S=.returned v'/\aH B w' v' (l++encN n)/\bG v w v' w':=by
 obtain⟨x,m,s,t,u⟩:=info_parts Tryz.infoU8;have H:J<|aH B w v l:=k;have A:l.length+1<=maxLen:=by unfold maxLen;omega
 have C:(l.length+1)*1<=140737488355328:=V
 by_cases g:n<128
 .have a1:IntKind.u8.wrap (n:Int)=n:=wrap_u8 n V;have Y:((n:Int) > 127)=False:=Θ
  have N:J<|iQ (l++encN n)=iQ l++[.int .u8 (n:Int)]:=ω<|by rw[lU g,dZ];simp[iQ,UInt8.toNat_ofNat'];omega
  clear k;go_enter func220,ntmps220;go_wp2_with fail;go_loopg [0,1] 0 (λj e h f=>e=v/\h=.int .i64 n/\f=w);case atStart=>exact⟨rfl,rfl,rfl⟩
  case round =>obtain⟨rfl,rfl,rfl⟩:=hrel;go_wp2_with (first|(at_builtin;refine wpList_append_own_at _ rfl (.tmp 16) (.tmp 19) 93 rfl B 5 x (.int .u8 0) 1 1 underlying93 m s t u rfl Ψ _ _ _ rfl (H.o.alloc _) (z wr.heap.size) 1 1 [.int .u8 (n:Int)] rfl rfl (cell_one_new _ _ _) (by intro F a;simp at a;subst a;rfl) A C Θ ?_;intro G K d b D c));go_ret;refine⟨_,rfl, ?_,bG.app b c⟩;unfold aH;rw[N.o,ρ,lU g];exact d
 .have W:n % 128+128<256:=V
  obtain⟨q,E⟩:∃q,n / 128=q:=⟨_,rfl⟩;obtain⟨r,p⟩:∃r,n % 128+128=r:=⟨_,rfl⟩;have a6:bits .and .i64 (n:Int) 127=(n:Int) % 128:=by rw[zx n V];omega
  have a7:bits .or .i64 ((n:Int) % 128) 128=(r:Int):=by have:=uM (n % 128) V;rw[<- p,<- this];congr 1
  have a2:(r:Int) % 256=r:=V
  have a3:(q:Int) % 256=q:=V
  have a4:(n:Int) / 128=(q:Int):=V
  have Y:(n:Int) > 127:=V
  have WG:q<128:=V
  have P:J<|iQ (l++[UInt8.ofNat r])=iQ l++[.int .u8 (r:Int)]:=ω<|by rw[dZ];simp[iQ,UInt8.toNat_ofNat'];omega
  have Q:J<|iQ (l++encN n)=iQ (l++[UInt8.ofNat r])++[.int .u8 (q:Int)]:=ω<|by rw[lV g,p,E,dZ,dZ,List.append_assoc];simp[iQ,UInt8.toNat_ofNat'];omega
  have T:l.length+1+1<=maxLen:=by unfold maxLen;omega
  have R:(l.length+1+1)*1<=140737488355328:=V
  clear E p W;clear k;go_enter func220,ntmps220;go_wp2_with fail;go_loopg [0,1] 1 (λj e h f=>(j=1/\e=v/\h=.int .i64 n/\f=w)\/(j=0/\h=.int .i64 q/\f.ownsRow B 5 1 e (l.length+1) (iQ (l++[UInt8.ofNat r]))/\bG v w e f));case atStart=>exact τ ⟨rfl,rfl,rfl,rfl⟩
  case round =>
   rcases hrel with⟨X,rfl,rfl,rfl⟩|⟨X,rfl,o,hF⟩
   .go_wp2_with (first|(at_builtin;refine wpList_append_own_at _ rfl (.tmp 7) (.tmp 12) 93 rfl B 5 x (.int .u8 0) 1 1 underlying93 m s t u rfl Ψ _ _ _ rfl (H.o.alloc _) (z wr.heap.size) 1 1 [.int .u8 (r:Int)] rfl rfl (cell_one_new _ _ _) (by intro F a;simp at a;subst a;rfl) A C Θ ?_;intro G K d b D c;have i:=bG.app b c;clear b c));go_roundg 0;case measure=>omega
    case rel=>exact υ ⟨rfl,rfl,by rw[P.o];exact d,i⟩
   .have L:J<|bG v w u0 wr:=hF;have Z:J<|aH B wr u0 (l++[UInt8.ofNat r]):=by unfold J aH;rw[ρ];exact o
    have a0:B<=wr.heap.size:=ς U hF.chg.size;have a5:¬((q:Int) > 127):=V
    have M:J<|∀y,(wr.alloc y).ownsRow B 5 1 u0 (l.length+1) (iQ (l++[UInt8.ofNat r])):=λy=>o.alloc y;clear hF o;go_wp2_with (first|(at_builtin;refine wpList_append_own_at _ rfl (.tmp 16) (.tmp 19) 93 rfl B 5 x (.int .u8 0) 1 1 underlying93 m s t u rfl Ψ _ _ _ rfl (M.o _) (z wr.heap.size) 1 1 [.int .u8 (q:Int)] rfl rfl (cell_one_new _ _ _) (by intro F a;simp at a;subst a;rfl) T R Θ ?_;intro G K d b D c;have i:=bG.app b c;clear b c));go_ret;refine⟨_,rfl, ?_,L.o.trans i⟩;unfold aH;rw[Q.o,ρ,lV g];exact d
theorem BU(B:Nat)(w:World)(v:Value)(l:Thk.Bs)(d:Nat)(q:aH B w v l)(H:B<=w.heap.size)(X:l.length<=900000)(W:who d<=5):Calls prog 222 #[v,aA d] w λe w'=>∃v',e=.returned v'/\aH B w' v' (l++encD d)/\bG v w v' w':=by
 have Y:=qx d;have y:J<|l++encD d=l++encN (who d)++encN (nth d):=by unfold J encD;rw[List.append_assoc]
 rw[y.o];unfold aA;generalize who d=b at *;generalize nth d=n at *;have K:=encN_len b;have o:J<|aH B (w.alloc (.cells #[.int .i64 b,.int .i64 n] 134)) v l:=World.ownsRow.alloc q _;have g:=ah.new w #[.int .i64 b,.int .i64 n] 134;have p:J<|bG v w v (w.alloc (.cells #[.int .i64 b,.int .i64 n] 134)):=bG.of_below ((φ _ w).alloc (χ _) _);clear q;go_enter func222,ntmps222;go_wp2_with fail;generalize w.alloc (.cells #[.int .i64 b,.int .i64 n] 134)=c at *;have D:c.cell? (z w.heap.size)=some (.int .i64 b):=(g.cell 0).trans rfl;have E:c.cell? (O w.heap.size 1)=some (.int .i64 n):=(g.cell 1).trans rfl;have i:∀(m:Nat)(h:Thk.Bs)wx a u,(aH B a u h/\bG v w u a/\ah a w.heap.size #[.int .i64 b,.int .i64 n] 134)->h.length<=1000000->m<16384->wx.heap=a.heap->wx.os=a.os->wx.tape=a.tape->wx.output=a.output->Calls prog 220 #[u,.int .i64 m] wx λe w'=>∃v',e=.returned v'/\(aH B w' v' (h++encN m)/\bG v w v' w'/\ah w' w.heap.size #[.int .i64 b,.int .i64 n] 134)/\w'.cell? (z w.heap.size)=some (.int .i64 b)/\w'.cell? (O w.heap.size 1)=some (.int .i64 n):=λm h wx a u k M N f P R Q=>by
  obtain⟨x,hF,L⟩:=k;have t:bG v w u wx:=hF.trans (bG.heap f P R Q);have S:ah wx w.heap.size #[.int .i64 b,.int .i64 n] 134:=by unfold ah;rw[f];exact L
  refine ψ (iY B wx u _ m (x.heap f) (ς H t.chg.size) M N) ?_;rintro e w'⟨v',rfl,F,r⟩;have j:=r.blk (x.heap f) S Ψ;exact⟨v',rfl,⟨F,t.trans r,j⟩,(j.cell 0).trans rfl,(j.cell 1).trans rfl⟩
 have C:J<|∀wx,wx.heap=c.heap->wx.os=c.os->wx.tape=c.tape->wx.output=c.output->Calls prog 220 #[v,.int .i64 b] wx _:=λwx=>i b l wx c v ⟨o.o,p.o,g⟩ V V;have A:J<|∀wx a u,(aH B a u (l++encN b)/\bG v w u a/\ah a w.heap.size #[.int .i64 b,.int .i64 n] 134)->wx.heap=a.heap->wx.os=a.os->wx.tape=a.tape->wx.output=a.output->Calls prog 220 #[u,.int .i64 n] wx _:=λwx a u k=>i n _ wx a u k Θ V;clear g K o p i;go_region_held3 (λw'=>w'.cell? (z w.heap.size)=some (.int .i64 b)/\w'.cell? (O w.heap.size 1)=some (.int .i64 n)) (refine⟨?_, ?_⟩<;>(first|assumption|exact D|exact E)) (first|(go_at_call 220;refine ψ (A.o _ a _ G rfl rfl rfl rfl) ?_;rintro e w4⟨v4,rfl,s,f0,f1⟩)|(go_at_call 220;refine ψ (C.o _ rfl rfl rfl rfl) ?_;rintro e a⟨Z,rfl,G,T,U⟩));go_wp2_with fail;go_ret;exact⟨_,rfl,s.1,s.2.1⟩
theorem Ja(B:Nat)(w:World)(v:Value)(l:Thk.Bs)(s:ByteArray)(h:aH B w v l)(f:B<=w.heap.size)(D:l.length<=900000)(r:s.size<16384):Calls prog 224 #[v,.string s] w λe w'=>∃v',e=.returned v'/\aH B w' v' (l++encN s.size++toL s)/\bG v w v' w':=by
 obtain⟨y,p,t,u,x⟩:=info_parts Tryz.infoU8;have C:=encN_len s.size;have c:J<|_:=iY B w v l s.size h f V r;clear h;go_enter func224,ntmps224;go_wp2_with fail;refine ψ c.o ?_;rintro e b⟨g,rfl,d,a⟩;have n:B<=b.heap.size:=ς f a.chg.size;have j:J<|aH B b g (l++encN s.size):=d;have i:J<|bG v w g b:=a;have k:(l++encN s.size).length+s.size<=maxLen:=by unfold maxLen;simp;omega
 have m:(l++encN s.size).length+s.size<=140737488355328:=Θ
 clear d a c;go_wp2_with (first|(at_builtin;refine wV rfl (.tmp 8) (.tmp 9) 93 9 rfl B 5 y underlying93 underlying9 p t u x _ _ _ rfl j.o s rfl k m n ?_;intro E F q o A));go_ret;refine⟨_,rfl, ?_,i.o.trans (bG.app0 o A)⟩;unfold aH;rw[dZ,<- pG,ρ];exact q
