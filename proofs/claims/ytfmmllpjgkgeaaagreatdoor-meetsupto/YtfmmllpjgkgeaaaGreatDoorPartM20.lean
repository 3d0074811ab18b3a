import Derived.Deep.RegionLaw
import Derived.Test.YtfmmllpjgkgeaaaGreatDoorPartM11
set_option linter.unusedVariables false
set_option linter.unusedSimpArgs false
set_option maxHeartbeats 16000000
set_option maxRecDepth 100000
namespace Go.Proofs.YtfmmllpjgkgeaaaGreatDoor
open Go.Proofs.Tryz Go.RowKit Go.Maps Go.WideMaps
variable{nb ns:List Nat}{cap:Nat}{A:Nat->Nat}{s:jh}{v:Value}{w w':World}
theorem nX(g:Nat):∀(vs:List Value)(o:Nat)(w:World)(cur:Array Value)(e:TypeId),w.heap[g]?=some (.cells cur e (0,0))->o+vs.length<=cur.size -> ∃cur',(w.setCells g o vs).heap[g]?=some (.cells cur' e (0,0))/\cur'.size=cur.size/\∀j,cur'[j]?=if o<=j/\j<o+vs.length then vs[j-o]? else cur[j]?
 | [],o,w,cur,e,h,_=>⟨cur,h,rfl,λj=>by rw[if_neg (by simp only[List.length_nil];omega)]⟩
 | v::r,o,w,cur,e,h,hl=>by
  simp only[List.length_cons]at hl;have h1:(w.setCell ⟨g,o,none⟩ v).heap[g]?=some (.cells (cur.setIfInBounds o v) e (0,0)):=by simp[World.setCell,Array.getElem?_modify,h]
  obtain⟨cur',h2,h3,h4⟩:=nX g r (o+1) _ _ e h1 (by simp;omega);refine⟨cur',h2,by rw[h3];simp,λj=>?_⟩;rw[h4 j,List.length_cons];by_cases hj:o+1<=j/\j<o+1+r.length
  ·rw[if_pos hj,if_pos (by omega),show j-o=(j-(o+1))+1 by omega,List.getElem?_cons_succ]
  ·rw[if_neg hj];by_cases e2:j=o
   ·subst e2;have hj2:j<cur.size:=by omega
    rw[if_pos (by omega),Nat.sub_self];simp[hj2]
   ·rw[if_neg (by omega),Array.getElem?_setIfInBounds,if_neg (by omega)]
theorem nY(g:Nat):∀(vs:List Value)(o:Nat)(w:World),ay (λk=>k=g) w (w.setCells g o vs)/\(w.setCells g o vs).heap.size=w.heap.size
 | [],o,w=>⟨ay.refl _ _,rfl⟩
 | v::r,o,w=>by have h:=nY g r (o+1) (w.setCell ⟨g,o,none⟩ v);exact⟨((ay.refl (λk=>k=g) w).setCell (p:=⟨g,o,none⟩) rfl v).trans h.1,h.2.trans (by simp)⟩
theorem AV{P:Program}(w:World)(t e ty:TypeId)(z:Value)(ht:P.underlying t=some (.slice e))(hv:∀w,(zeroValue e).run P w=.ok z w)(cells:List Value)(hz:(Builtin.zeroCells z.cells 1).toList=cells)(h1:∀u∈cells,u.oneCell'=true)(b o c:Nat)(hc:∀j,j<cells.length->(w.cell? ⟨b,o+j,none⟩).isSome=true)(hf:∀j,j<cells.length->w.frozen? ⟨b,o+j,none⟩=false):(Builtin.clear_ #[t] ty #[.slice (some ⟨b,o,none⟩) 1 c]).run P w=.ok (.tuple #[]) (w.setCells b o cells):=by have hst:=run_storeCells_cells (P:=P) b o cells 0 w (by simpa using hc) (by simpa using hf) h1;simp only[Nat.add_zero]at hst;simp[Builtin.clear_,run_underlying ht,hv,hz,hst]
structure jA where
 mark:Nat
 fr:Nat
 st:jh
def jA.cells(p:jA):List Value:=[.int .i64 p.mark,.int .i64 p.fr,.map p.st.io,.map p.st.co,.map p.st.lo]
def bK(ps:List jA):List Value:=ps.flatMap jA.cells
theorem qB(p:jA)(ps:List jA):bK (p::ps)=p.cells++bK ps:=rfl
theorem Gg(ps:List jA)(p:jA):bK (ps++[p])=bK ps++p.cells:=by simp[bK]
theorem lD(ps:List jA):(bK ps).length=ps.length*5:=by
 induction ps with
 | nil=>rfl
 | cons p r ih=>rw[qB,List.length_append,ih];simp[jA.cells];omega
theorem JJ(ps:List jA):∀u∈bK ps,u.oneCell'=true:=by intro u hu;obtain⟨x,_,hx⟩:=List.mem_flatMap.1 hu;simp[jA.cells]at hx;rcases hx with rfl|rfl|rfl|rfl|rfl<;>rfl
theorem BP(ps:List jA):∀(i:Nat)(h:i<ps.length),(bK ps)[i*5]?=some (.int .i64 (ps[i].mark))/\(bK ps)[i*5+1]?=some (.int .i64 (ps[i].fr))/\(bK ps)[i*5+2]?=some (.map ps[i].st.io)/\(bK ps)[i*5+3]?=some (.map ps[i].st.co)/\(bK ps)[i*5+4]?=some (.map ps[i].st.lo):=by
 induction ps with
 | nil=>intro i h;simp at h
 | cons p r ih =>
  intro i h;rw[qB];cases i with
  | zero=>simp[jA.cells]
  | succ i =>
   have hl:p.cells.length=5:=rfl;have e:∀k,(p.cells++bK r)[(i+1)*5+k]?=(bK r)[i*5+k]?:=λk=>by rw[List.getElem?_append_right (by omega),hl];congr 1;omega
   have:=ih i (by simpa using h);have e0:=e 0;rw[Nat.add_zero,Nat.add_zero]at e0;rw[e0,e 1,e 2,e 3,e 4];simpa using this
theorem Tryz.infoPc:(prog.info? 222).map (λi=>(i.zero,i.size,i.bytes))=some (some (.agg #[.int .i64 0,.int .i64 0,.map none,.map none,.map none]),5,40):=by kernel_rfl
theorem zPc(w:World):(zeroValue 222).run prog w=.ok (.agg #[.int .i64 0,.int .i64 0,.map none,.map none,.map none]) w:=by kernel_rfl
theorem Ut{W1:World}{base g:Nat}{p:jA}{ps:List jA}{z5:List Value}(hz:z5.length=5)(h:w.ownsRow base 222 5 (.slice (some ⟨g,0,none⟩) (ps.length+1) cap) (ps.length+1) (bK (p::ps)))(hW:W1=w.drew.setCells g 0 (bK ps)):(W1.setCells g (ps.length*5) z5).ownsRow base 222 5 (.slice (some ⟨g,0,none⟩) ps.length cap) ps.length (bK ps)/\ay (λk=>k=g) w (W1.setCells g (ps.length*5) z5)/\(W1.setCells g (ps.length*5) z5).heap.size=w.heap.size /\ (∀j,j<5->(W1.cell? ⟨g,ps.length*5+j,none⟩).isSome=true)/\(∀j,W1.frozen? ⟨g,j,none⟩=false):=by
 obtain⟨hl,⟨h1,_⟩|⟨g',cap',cur,h1,h2,h3,h4,h5,h6,h7⟩⟩:=h
 ·cases h1
 ·simp only[Value.slice.injEq,Option.some.injEq,Addr.mk.injEq,and_true,true_and]at h1;obtain⟨rfl,rfl⟩:=h1;have hw:w.drew.heap[g]?=some (.cells cur 222 (0,0)):=h3;obtain⟨c1,a1,a2,a3⟩:=nX g (bK ps) 0 w.drew cur _ hw (by rw[lD];omega);rw[<- hW]at a1;obtain⟨c2,b1,b2,b3⟩:=nX g z5 (ps.length*5) W1 c1 _ a1 (by omega);have hc1:=nY g (bK ps) 0 w.drew;have hc2:=nY g z5 (ps.length*5) W1;rw[<- hW]at hc1;refine⟨⟨lD _,Or.inr ⟨g,cap,c2,rfl,h2,b1,by omega,h5,by omega, ?_⟩⟩, ?_,by rw[hc2.2,hc1.2];rfl,λj hj=>?_,λj=>?_⟩
  ·refine List.ext_getElem? λj=>?_;rw[List.getElem?_take];by_cases hj:j<ps.length*5
   ·rw[if_pos hj,Array.getElem?_toList,b3,if_neg (by omega),a3,if_pos (by rw[lD];omega),Nat.sub_zero]
   ·rw[if_neg hj,List.getElem?_eq_none (by rw[lD];omega)]
  ·have:ay (λk=>k=g) w w.drew:=ay.of_below (Below.refl _ w).drew;exact(this.trans hc1.1).trans hc2.1
  ·have:ps.length*5+j<c1.size:=by omega
   simp[World.cell?,a1,this]
  ·simp[World.frozen?,a1]
theorem JK(w:World)(base g cap:Nat)(p:jA)(ps:List jA)(h:w.ownsRow base 222 5 (.slice (some ⟨g,0,none⟩) (ps.length+1) cap) (ps.length+1) (bK (p::ps)))(hl:ps.length<=1000):Calls prog 227 #[.slice (some ⟨g,0,none⟩) ((ps.length+1:Nat)) cap,.int .i64 0,.int .i64 1] w λe w'=>e=.returned (.slice (some ⟨g,0,none⟩) ps.length cap)/\w'.ownsRow base 222 5 (.slice (some ⟨g,0,none⟩) ps.length cap) ps.length (bK ps)/\ay (λk=>k=g) w w'/\w'.heap.size=w.heap.size:=by
 obtain⟨i0,hi,hz0,hz1,hz2⟩:=info_parts Tryz.infoPc;obtain⟨W1,hW1⟩:∃W1,W1=w.drew.setCells g 0 (bK ps):=⟨_,rfl⟩;have hd:=Ut (z5:=[.int .i64 0,.int .i64 0,.map none,.map none,.map none]) rfl h hW1;have hcap:ps.length+1<=cap/\cap<=9223372036854775807:=by
  obtain⟨_,⟨h1,_⟩|⟨g',cap',cur,h1,h2,h3,h4,h5,h6,h7⟩⟩:=h
  ·cases h1
  ·simp only[Value.slice.injEq]at h1;obtain⟨_,_,rfl⟩:=h1;unfold maxLen at h5;omega
 have Vs:∀j u,(bK ps)[j]?=some u->w.drew.cell? ⟨g,5+j,none⟩=some u:=λj u hj=>by have:=h.cells (g:=g) rfl (5+j) u (by rw[qB,List.getElem?_append_right (by simp[jA.cells])];simpa[jA.cells]using hj);rw[Addr.add_lit,Nat.zero_add]at this;exact this
 obtain⟨A,hA,hsrc⟩:∃A:Addr,(if cap=1 then some (⟨g,0,none⟩:Addr)else some ⟨g,5,none⟩)=some A/\Hid (∀t u,(bK ps)[t]?=some u->w.drew.cell? (A.add t)=some u):=by
  by_cases hc:cap=1
  ·refine⟨⟨g,0,none⟩,by simp[hc],λt u hu=>?_⟩;have:ps=[]:=List.length_eq_zero_iff.1 (by omega);subst this;simp[bK]at hu
  ·exact⟨⟨g,5,none⟩,by simp[hc],λt u hu=>by rw[Addr.add_lit];exact Vs t u hu⟩
 have s1:Hid ((bK ps).length=ps.length*5):=lD ps;have s2:Hid (∀u∈bK ps,u.oneCell'=true):=JJ ps;have s3:Hid (∀t,t<(bK ps).length->(w.drew.cell? ⟨g,0+0*5+t,none⟩).isSome=true/\w.drew.frozen? ⟨g,0+0*5+t,none⟩=false):=λt ht=>by
  obtain⟨_,⟨h1,_⟩|⟨g',cap',cur,h1,h2,h3,h4,h5,h6,h7⟩⟩:=h
  ·cases h1
  ·simp only[Value.slice.injEq,Option.some.injEq,Addr.mk.injEq,and_true,true_and]at h1;obtain⟨rfl,rfl⟩:=h1;rw[s1.out]at ht;have:t<cur.size:=by omega
   refine⟨?_, ?_⟩
   ·show(w.cell? _).isSome=true;simp[World.cell?,h3,this]
   ·show w.frozen? _=false;simp[World.frozen?,h3]
 have hcl:∀ty c,(Builtin.clear_ #[218] ty #[.slice (some ⟨g,ps.length*5,none⟩) 1 c]).run prog W1=.ok (.tuple #[]) (W1.setCells g (ps.length*5) [.int .i64 0,.int .i64 0,.map none,.map none,.map none]) :=
  λty c=>AV W1 _ _ ty _ underlying218 zPc _ (by kernel_rfl) (by simp[Value.oneCell']) g (ps.length*5) c hd.2.2.2.1 (λj _=>hd.2.2.2.2 _)
 have HD:Hid (_):=hd;have hW:Hid (W1=w.drew.setCells g (0+0*5) (bK ps)):=by unfold Hid;simpa using hW1
 have hc1:(1:Nat)<=cap:=by omega
 have hl1:ps.length<=cap:=by omega
 have h1i:(1:Int)<=(ps.length:Int)+1:=by omega
 clear hW1 hd h Vs;go_enter func227,ntmps227;go_wp2_with fail
 go_region_law (refine step_append_room rfl (.tmp 22) (.tmp 25) 218 rfl 222 i0 5 underlying218 hi hz1 g 0 0 cap (by simp[Act.eval,Act.put]) A ps.length (cap-1) (bK ps) (by simp[Act.eval,Act.put]) s1.out hsrc.out s2.out (by omega) s3.out ?_;rw[<- hW.out])
 go_wp2;go_ret;exact⟨rfl,HD.out.1,HD.out.2.1,HD.out.2.2.1⟩
noncomputable def am(nb:List Nat)(A:Nat->Nat):Value->Option Value:=λkey=>@dite _ (∃a:Nat,key=.int .i64 a) (Classical.propDecidable _) (λh=>if Classical.choose h∈nb then some (.int .i64 (A (Classical.choose h)))else none) (λ_=>none)
theorem BQ(nb:List Nat)(A:Nat->Nat)(a:Nat):am nb A (.int .i64 a)=if a∈nb then some (.int .i64 (A a))else none:=by
 unfold am;have h:∃b:Nat,Value.int .i64 a=.int .i64 b:=⟨a,rfl⟩;rw[dif_pos h];have e:Classical.choose h=a:=by have hs:=Classical.choose_spec h;generalize Classical.choose h=b at *;simp at hs;omega
 rw[e]
theorem QB{key:Value}(h:am nb A key=some v):∃a:Nat,key=.int .i64 a/\v=.int .i64 (A a)/\a∈nb:=by
 by_cases hk:∃a:Nat,key=.int .i64 a
 ·obtain⟨a,rfl⟩:=hk;rw[BQ]at h;by_cases ha:a∈nb
  ·rw[if_pos ha]at h;cases h;exact⟨a,rfl,rfl,ha⟩
  ·rw[if_neg ha]at h;cases h
 ·unfold am at h;rw[dif_neg hk]at h;cases h
theorem JL{m:Value->Option Value}(h1:∀a:Nat,m (.int .i64 a)=if a∈nb then some (.int .i64 (A a))else none)(h2:∀key,(∀a:Nat,key≠.int .i64 a)->m key=none):m=am nb A:=by
 funext key;by_cases hk:∃a:Nat,key=.int .i64 a
 ·obtain⟨a,rfl⟩:=hk;rw[BQ,h1]
 ·rw[h2 key (λa e=>hk ⟨a,e⟩)];unfold am;rw[dif_neg hk]
theorem QC(nb:List Nat)(A:Nat->Nat)(a m:Nat):upd (am nb A) (.int .i64 a) (.int .i64 m)=am (if a∈nb then nb else nb++[a]) (λx=>if x=a then m else A x):=by
 refine JL (λx=>?_) (λkey hk=>?_)
 ·by_cases e:x=a
  ·subst e;rw[upd_same,if_pos rfl,if_pos];by_cases h:x∈nb
   ·rw[if_pos h];exact h
   ·rw[if_neg h];simp
  ·have:¬(Value.int IntKind.i64 (x:Int)=.int .i64 a):=λh=>e (by simp at h;omega);rw[iG this,BQ,if_neg e];by_cases h:a∈nb
   ·rw[if_pos h]
   ·rw[if_neg h];by_cases hx:x∈nb
    ·rw[if_pos hx,if_pos (List.mem_append.2 (Or.inl hx))]
    ·rw[if_neg hx,if_neg (λh=>by rcases List.mem_append.1 h with h|h;exact hx h;exact e (by simpa using h))]
 ·rw[iG (hk a)];unfold am;rw[dif_neg (λ⟨b,hb⟩=>hk b hb)]
theorem NK{a m:Nat}(h:a∈nb):upd (am nb A) (.int .i64 a) (.int .i64 m)=am nb (λx=>if x=a then m else A x):=by rw[QC,if_pos h]
theorem Xc(A:Nat->Nat):am [] A=λ_=>none:=(JL (λa=>by simp) (λ_ _=>rfl)).symm
def jh.own(s:jh)(k:Nat):Prop:=s.io=some k\/s.co=some k\/s.lo=some k
theorem jh.At.Xd{M:Nat->Prop}(h:s.At w)(hc:ay M w w')(hm:∀k,s.own k->¬M k):s.At w' :=
 h.aJ hc (λb hb=>hm b (by rcases hb with h|h|h<;>simp only[Value.map.injEq]at h<;>simp[jh.own,h]))
theorem jh.At.lt(h:s.At w){k:Nat}(hk:s.own k):k<w.heap.size:=h.r.lt k (by rcases hk with h|h|h<;>rw[h]<;>simp)
structure dJ(w:World)(kb room:Nat)(pv:Value)(dr ab:Nat)(nb:List Nat)(A:Nat->Nat)(ps:List jA):Prop where
 blk:aA w kb #[.int .i64 room,pv,.int .i64 dr,.map (some ab)] 220
 row:w.ownsRow 0 222 5 pv ps.length (bK ps)
 ack:∃N,bM prog 3 w ab N (am nb A)
 st:∀p∈ps,p.st.At w
 r50:room<=50
 len:ps.length<=room
 bnd:(∀p∈ps,p.mark<=100000/\p.fr<=5)/\dr<=100000/\∀j,A j<=100000
 Ya:∀j∈nb,j<=5
 apart:∀p∈ps,¬p.st.own ab
def DZ(kb:Nat)(pv:Value)(ab:Nat)(ps:List jA)(k:Nat):Prop:=k=kb\/pv.ownBlock=some k\/k=ab\/∃p∈ps,p.st.own k
theorem qU{M:Nat->Prop}{B:Nat}{e:TypeId}{n size:Nat}{xs:List Value}(h:w.ownsRow B e size v n xs)(hc:ay M w w')(hm:∀k,v.ownBlock=some k->¬M k):w'.ownsRow B e size v n xs:=by
 obtain⟨h1,h2|⟨g,cap,cur,a1,a2,a3,a4⟩⟩:=h
 ·exact⟨h1,Or.inl h2⟩
 ·refine⟨h1,Or.inr ⟨g,cap,cur,a1,a2, ?_,a4⟩⟩;rw[hc.block g (by have:=Array.getElem?_eq_some_iff.1 a3;exact this.1) (hm g (by rw[a1];rfl))];exact a3
section
variable{w w':World}{kb room:Nat}{pv:Value}{dr ab:Nat}{nb:List Nat}{A:Nat->Nat}{ps:List jA}
theorem dJ.aJ{M:Nat->Prop}(h:dJ w kb room pv dr ab nb A ps)(hc:ay M w w')(hm:∀k,DZ kb pv ab ps k->¬M k):dJ w' kb room pv dr ab nb A ps :=
 ⟨h.blk.aJ hc (hm kb (Or.inl rfl)),qU h.row hc (λk hk=>hm k (Or.inr (Or.inl hk))),h.ack.imp λN g=>g.block (hc.block _ g.lt (hm ab (Or.inr (Or.inr (Or.inl rfl))))),λp hp=>(h.st p hp).Xd hc (λk hk=>hm k (Or.inr (Or.inr (Or.inr ⟨p,hp,hk⟩)))),h.r50,h.len,h.bnd,h.Ya,h.apart⟩
theorem dJ.below(h:dJ w kb room pv dr ab nb A ps)(hb:Below w.heap.size w w'):dJ w' kb room pv dr ab nb A ps:=h.aJ (M:=λ_=>False) (ay.of_below hb) (λ_ _ h=>h)
theorem dJ.lt(h:dJ w kb room pv dr ab nb A ps){k:Nat}(hk:DZ kb pv ab ps k):k<w.heap.size:=by
 rcases hk with rfl|hk|rfl|⟨p,hp,hk⟩
 ·exact h.blk.lt
 ·exact(h.row.lt k hk).2
 ·obtain⟨N,g⟩:=h.ack;exact g.lt
 ·exact(h.st p hp).lt hk
theorem dJ.ne(h:dJ w kb room pv dr ab nb A ps):kb≠ab/\pv.ownBlock≠some kb/\pv.ownBlock≠some ab:=by
 obtain⟨N,g⟩:=h.ack;refine⟨λe=>?_,ownsRow_ne h.row (λcur fz e=>?_),ownsRow_ne h.row (λcur fz e=>g.mP e)⟩
 ·subst e;exact g.mP (show w.heap[kb]?=_ from h.blk)
 ·have:=h.blk;unfold aA at this;rw[this]at e;cases e
theorem dJ.shape(h:dJ w kb room pv dr ab nb A ps):∃ao cap,pv=.slice ao ps.length cap:=by
 rcases h.row.2 with⟨h1,h2⟩|⟨g,cap,cur,h1,_⟩
 ·exact⟨none,0,by rw[h1,h2]⟩
 ·exact⟨_,cap,h1⟩
theorem jh.At.iZ{s:jh}(h:s.At w){k:Nat}(hk:s.own k){cs:Array Value}{t:TypeId}{fz:Nat×Nat}:w.heap[k]?≠some (.cells cs t fz):=by
 obtain⟨⟨c,L,⟨⟨N1,h1⟩,⟨N2,h2⟩,_⟩,_⟩,⟨N3,h3⟩,_⟩:=h.r;have key:∀{P:Program}{kt:TypeId}{v:Option Nat}{N:Nat}{m:Value->Option Value},cZ P kt w (.map v) N m->v=some k->w.heap[k]?≠some (.cells cs t fz):=λ{P kt v N m}hm hv=>by
  subst hv;rcases hm with⟨h,_⟩|⟨b,h,g⟩
  ·cases h
  ·cases h;exact g.mP
 rcases hk with hk|hk|hk
 ·exact key h3 hk
 ·exact key h1 hk
 ·exact key h2 hk
end
theorem zk(w:World)(kb room:Nat)(pv:Value)(dr ab:Nat)(nb:List Nat)(A:Nat->Nat)(p:jA)(ps:List jA)(hblk:aA w kb #[.int .i64 room,pv,.int .i64 dr,.map (some ab)] 220)(hrow:w.ownsRow 0 222 5 pv (ps.length+1) (bK (p::ps)))(hl:ps.length<=1000)(hm:p.mark<=100000):Calls prog 171 #[.pointer (some ⟨kb,0,none⟩)] w λe w'=>e=.returned (.tuple #[])/\∃pv',aA w' kb #[.int .i64 room,pv',.int .i64 p.mark,.map (some ab)] 220/\w'.ownsRow 0 222 5 pv' ps.length (bK ps)/\pv'.ownBlock=pv.ownBlock/\ay (λk=>k=kb\/pv.ownBlock=some k) w w'/\w'.heap.size=w.heap.size:=by
 obtain⟨g,cap,hpv⟩:=dL hrow (by omega);subst hpv;have hne:g≠kb:=λe=>by subst e;refine ownsRow_ne hrow (k:=g) (λcur fz e=>?_) rfl;have h2:=hblk;unfold aA at h2;rw[h2]at e;cases e
 have hc:=(BP (p::ps) 0 (by simp)).1;have m0:=hrow.cells (g:=g) rfl 0 _ (by simpa using hc);rw[Addr.add_lit]at m0;simp only[Nat.zero_add,List.getElem_cons_zero]at m0;have q1:=(hblk.cell 1).trans rfl;have q2:=(hblk.cell 2).trans rfl;have qf:=hblk.frozen;have hkl:=hblk.lt;have hi:(0:Int)<(ps.length:Int)+1:=by omega
 have Hd:Hid (∀wx,wx=w.setCell ⟨kb,2,none⟩ (.int .i64 p.mark)->aA wx kb #[.int .i64 room,.slice (some ⟨g,0,none⟩) (ps.length+1) cap,.int .i64 p.mark,.map (some ab)] 220/\Calls prog 227 #[.slice (some ⟨g,0,none⟩) (ps.length+1) cap,.int .i64 0,.int .i64 1] wx λe w'=>e=.returned (.slice (some ⟨g,0,none⟩) ps.length cap)/\w'.ownsRow 0 222 5 (.slice (some ⟨g,0,none⟩) ps.length cap) ps.length (bK ps)/\ay (λk=>k=g) wx w'/\w'.heap.size=wx.heap.size):=λwx hx=>by
  have hch:ay (λk=>k=kb) w wx:=by rw[hx];exact(ay.refl (λk=>k=kb) w).setCell (p:=⟨kb,2,none⟩) rfl _
  refine⟨?_,JK wx 0 g cap p ps (qU hrow hch (λk hk e=>by cases hk;exact hne e)) hl⟩;rw[hx];have:=hblk;unfold aA at this⊢;simp[World.setCell,Array.getElem?_modify,this]
 have ah1:Hid (ay (λk=>k=kb\/k=g) w (w.setCell ⟨kb,2,none⟩ (.int .i64 p.mark))):=(ay.refl (λk=>k=kb\/k=g) w).setCell (p:=⟨kb,2,none⟩) (Or.inl rfl) _;have hsz:(w.setCell ⟨kb,2,none⟩ (.int .i64 p.mark)).heap.size=w.heap.size:=by simp
 clear hrow hblk hc;go_enter func171,ntmps171;go_wp2_with fail;obtain⟨kx,hdc⟩:=Hd.out _ rfl;generalize w.setCell ⟨kb,2,none⟩ (.int .i64 p.mark)=wx at *;refine Calls.mono hdc ?_;rintro e w2⟨rfl,hrow2,nM,hs2⟩;have k2:=kx.aJ nM hne.symm;have r1:=(k2.cell 1).trans rfl;have f2:=k2.frozen;have ZP:Hid (w2.ownsRow 0 222 5 (.slice (some ⟨g,0,none⟩) ps.length cap) ps.length (bK ps)):=hrow2;have MO:Hid (aA w2 kb #[.int .i64 room,.slice (some ⟨g,0,none⟩) (ps.length+1) cap,.int .i64 p.mark,.map (some ab)] 220):=k2;have xk:Hid (ay (λk=>k=g) wx w2/\w2.heap.size=wx.heap.size):=⟨nM,hs2⟩;clear hrow2 k2 nM hs2 Hd hdc kx;go_wp2_with fail;have hcs:ay (λk=>k=kb) w2 (w2.setCell ⟨kb,1,none⟩ (.slice (some ⟨g,0,none⟩) ps.length cap)):=(ay.refl (λk=>k=kb) w2).setCell (p:=⟨kb,1,none⟩) rfl _;refine bodyPost_end (results_none rfl _ _ _) rfl ⟨rfl,.slice (some ⟨g,0,none⟩) ps.length cap, ?_,qU ZP.out hcs (λk hk e=>by cases hk;exact hne e),rfl, ?_, ?_⟩
 ·have:=MO.out;unfold aA at this⊢;simp[World.setCell,Array.getElem?_modify,this]
 ·exact((ah1.out.trans (xk.out.1.mono (λk _ e=>Or.inr e))).trans (hcs.mono (λk _ e=>Or.inl e))).mono (λk _ e=>by rcases e with e|e;exact Or.inl e;exact Or.inr (by rw[e];rfl))
 ·have:=xk.out.2;simp;omega
theorem QD{ab N:Nat}(h:bM prog 3 w ab N (am nb A))(h5:∀j∈nb,j<=5):N<=6 :=
 h.bound mQ (λa:Nat=>.int .i64 a) (λkey hk=>by obtain⟨v,hv⟩:=Option.isSome_iff_exists.1 hk;obtain⟨a,h1,_,h2⟩:=QB hv;exact⟨a,by have:=h5 a h2;omega,h1⟩)
def jq(w:World)(v:Value)(ns:List Nat):Prop:=(v=.slice none 0 0/\ns=[])\/∃b off cap,v=.slice (some ⟨b,off,none⟩) ns.length cap/\ns.length<=cap/\b<w.heap.size/\∀j(h:j<ns.length),w.cell? ⟨b,off+j,none⟩=some (.int .i64 (ns[j]))
theorem jq.below(h:jq w v ns)(hb:Below w.heap.size w w'):jq w' v ns:=by
 rcases h with h|⟨b,off,cap,h1,h2,h3,h4⟩
 ·exact Or.inl h
 ·exact Or.inr ⟨b,off,cap,h1,h2,Nat.lt_of_lt_of_le h3 hb.size,λj hj=>(hb.cell (p:=⟨b,off+j,none⟩) h3).trans (h4 j hj)⟩
theorem jq.shape(h:jq w v ns):∃ao cap,v=.slice ao ns.length cap:=by
 rcases h with⟨rfl,rfl⟩|⟨b,off,cap,rfl,_⟩
 ·exact⟨none,0,rfl⟩
 ·exact⟨_,cap,rfl⟩
theorem jq.at{ao:Option Addr}{n:Nat}(h:jq w (.slice ao n cap) ns)(i:Nat)(hi:i<ns.length):∃b off,ao=some ⟨b,off,none⟩/\n<=cap/\w.cell? ⟨b,off+i,none⟩=some (.int .i64 (ns[i])):=by
 rcases h with⟨_,rfl⟩|⟨b,off,cap',h1,h2,h3,h4⟩
 ·simp at hi
 ·simp only[Value.slice.injEq]at h1;obtain⟨rfl,rfl,rfl⟩:=h1;exact⟨b,off,rfl,h2,h4 i hi⟩
theorem QE(w:World)(room:Nat)(sv:Value)(nb:List Nat)(hsl:jq w sv nb)(hr:room<=50)(h5:∀j∈nb,j<=5)(hl:nb.length<=6):Calls prog 121 #[.int .i64 room,sv] w λe w'=>∃kb ab,e=.returned (.pointer (some ⟨kb,0,none⟩))/\dJ w' kb room (.slice none 0 0) 0 ab nb (λ_=>0) []/\w.heap.size<=kb/\w.heap.size<=ab/\Below w.heap.size w w':=by
 have hmm:=@run_makeMap prog;obtain⟨ao,cap,hs⟩:=hsl.shape;subst hs;have HS:Hid (jq w (.slice ao nb.length cap) nb):=hsl;have H5:Hid (∀j∈nb,j<=5):=h5;clear hsl h5;go_enter func121,ntmps121;go_wp2_with fail;have hbx:Below w.heap.size w ((w.alloc (.map #[] 0)).alloc (.cells #[.int .i64 room,.slice none 0 0,.int .i64 0,.map (some w.heap.size)] 220)):=((Below.refl _ w).alloc (Nat.le_refl _) _).alloc (by simp) _;have kx:aA ((w.alloc (.map #[] 0)).alloc (.cells #[.int .i64 room,.slice none 0 0,.int .i64 0,.map (some w.heap.size)] 220)) (w.heap.size+1) #[.int .i64 room,.slice none 0 0,.int .i64 0,.map (some w.heap.size)] 220:=by have:=aA.new (w.alloc (.map #[] 0)) #[.int .i64 room,.slice none 0 0,.int .i64 0,.map (some w.heap.size)] 220;rwa [World.size_alloc]at this
 have mx:bM prog 3 ((w.alloc (.map #[] 0)).alloc (.cells #[.int .i64 room,.slice none 0 0,.int .i64 0,.map (some w.heap.size)] 220)) w.heap.size 0 (am [] (λ_=>0)):=by rw[Xc];exact(bM.made w prog 3).block (((Below.refl _ (w.alloc (.map #[] 0))).alloc (Nat.le_refl _) _).block _ (by simp))
 generalize ((w.alloc (.map #[] 0)).alloc (.cells #[.int .i64 room,.slice none 0 0,.int .i64 0,.map (some w.heap.size)] 220))=wx at *;have HX:Hid (Below w.heap.size w wx/\aA wx (w.heap.size+1) #[.int .i64 room,.slice none 0 0,.int .i64 0,.map (some w.heap.size)] 220/\bM prog 3 wx w.heap.size 0 (am [] (λ_=>0))):=⟨hbx,kx,mx⟩;clear hbx kx mx;go_loopg [7,14] nb.length (λg v7 v14 wy=>∃i N:Nat,i+g=nb.length/\v14=.int .i64 i/\Below w.heap.size w wy/\aA wy (w.heap.size+1) #[.int .i64 room,.slice none 0 0,.int .i64 0,.map (some w.heap.size)] 220/\(∃l,bM prog 3 wy w.heap.size N (am l (λ_=>0))/\(∀j,j∈l↔j∈nb.take i))/\N<=i);case atStart=>exact⟨0,0,by omega,rfl,HX.out.1,HX.out.2.1,⟨[],HX.out.2.2,by simp⟩,Nat.le_refl _⟩
 case round =>
  obtain⟨i,N,hig,rfl,hb,hk,⟨l,hM,hl2⟩,hNi⟩:=hrel;clear HX;have HB:Hid (Below w.heap.size w wr):=hb;have HK:Hid (aA wr (w.heap.size+1) #[.int .i64 room,.slice none 0 0,.int .i64 0,.map (some w.heap.size)] 220):=hk;have HM:Hid (bM prog 3 wr w.heap.size N (am l (λ_=>0))):=hM;have HL:Hid (∀j,j∈l↔j∈nb.take i):=hl2;by_cases hi:i<nb.length
  ·obtain⟨b,off,rfl,hcp,q0⟩:=(HS.out.below hb).at i hi;obtain⟨n,hn⟩:∃n,n=nb[i]:=⟨_,rfl⟩;rw[<- hn]at q0;have KI:n<=5:=H5.out n (by rw[hn];exact List.getElem_mem hi);have Hn:Hid (n=nb[i]):=hn;clear hn;have z3:=(hk.cell 3).trans rfl;obtain⟨kl,hkl⟩:∃kl,keyOf prog 3 (.int .i64 n)=some kl:=⟨_,uY n (by omega)⟩;have hmx:N<maxLen:=by unfold maxLen;omega
   clear hb hk hM hl2;go_wp2_with (first|(at_mapUpdate;refine gq rfl (.tmp 21) (.tmp 22) (.const (.int .i64 0)) 97 rfl 3 mQ underlying97 rfl HM.out hmx (.int .i64 n) (.int .i64 0) _ rfl rfl hkl ?_;intro w6 xI eG hs6;have KL:=HB.out.grown eG HB.out.size (λk e=>by cases e;exact Nat.le_refl _);have hK6:=HK.out.grown eG (by omega);have hu6:=QC l (λ_=>0) n 0;clear HM HB HK eG hs6;go_frame));go_roundg (nb.length-(i+1));case measure=>omega
   case rel =>
    refine⟨i+1,_,by omega,by go_num,KL,hK6,⟨_,by rw[show(Value.int IntKind.i64 0)=.int .i64 ((0:Nat):Int)from rfl,hu6,show(λx=>if x=n then 0 else(λ_:Nat=>(0:Nat)) x)=λ_=>0 from funext λx=>by split<;>rfl]at xI;exact xI,λj=>?_⟩,by split<;>omega⟩;rw[List.take_succ_eq_append_getElem hi,<- Hn.out,List.mem_append,List.mem_singleton,<- HL.out j];by_cases hnl:n∈l
    ·rw[if_pos hnl];exact⟨Or.inl,λh=>h.elim id (λe=>e▸hnl)⟩
    ·rw[if_neg hnl,List.mem_append,List.mem_singleton]
  ·have htk:nb.take i=nb:=List.take_of_length_le (by omega);clear hb hk hM hl2;go_wp2_with fail;go_ret;have he:am l (λ_=>0)=am nb (λ_=>0):=JL (λa=>by
    rw[BQ];have:=HL.out a;rw[htk]at this;by_cases ha:a∈nb
    ·rw[if_pos ha,if_pos (this.2 ha)]
    ·rw[if_neg ha,if_neg (λh=>ha (this.1 h))]) (λkey hk=>by unfold am;rw[dif_neg (λ⟨b,hb⟩=>hk b hb)])
   exact⟨w.heap.size+1,w.heap.size,rfl,⟨HK.out,World.ownsRow_nil _ _ _ _,⟨N,by rw[<- he];exact HM.out⟩,λp hp=>(by simp at hp),hr,by simp,⟨λp hp=>(by simp at hp),by omega,λ_=>by omega⟩,H5.out,λp hp=>(by simp at hp)⟩,by omega,Nat.le_refl _,HB.out⟩
theorem QF(w:World)(kb room:Nat)(pv:Value)(dr ab:Nat)(nb:List Nat)(A:Nat->Nat)(ps:List jA)(j mark:Nat)(h:dJ w kb room pv dr ab nb A ps)(hm:mark<=100000)(hj:j∈nb):Calls prog 169 #[.pointer (some ⟨kb,0,none⟩),.int .i64 j,.int .i64 mark] w λe w'=>e=.returned (.tuple #[])/\dJ w' kb room pv dr ab nb (λx=>if x=j then max (A j) mark else A x) ps/\ay (λk=>k=ab) w w':=by
 obtain⟨N,hN⟩:=h.ack;have hN6:=QD hN h.Ya;have q3:w.drew.cell? ⟨kb,3,none⟩=some (.map (some ab)):=(h.blk.cell 3).trans rfl;have hj5:=h.Ya j hj;have hkl:=uY j (by omega);have hNd:bM prog 3 w.drew ab N (am nb A):=hN;have hlk:(Instr.lookup 97 (.map (some ab)) (.int .i64 j) false).run prog w.drew=.ok (.int .i64 (A j)) w.drew:=by have:=hNd.look mQ underlying97 (I5 _) hkl;rw[BQ,if_pos hj]at this;exact this
 obtain⟨w1,hst,hM1,hg1,hs1⟩:=hNd.store mQ underlying97 (by unfold maxLen;omega) (.int .i64 ((max (A j) mark:Nat):Int)) hkl;have hch:ay (λk=>k=ab) w w1:=(ay.of_below (Below.refl _ w).drew).trans ((ay.refl _ w.drew).grown hg1 (λk e=>by cases e;exact Or.inl rfl));rw[NK hj]at hM1;have hne:=h.ne;have HF:Hid (dJ w1 kb room pv dr ab nb (λx=>if x=j then max (A j) mark else A x) ps/\ay (λk=>k=ab) w w1):=⟨⟨h.blk.aJ hch hne.1,qU h.row hch (λk hk e=>hne.2.2 (by rw[hk,e])),⟨_,hM1⟩,λp hp=>(h.st p hp).Xd hch (λk hk e=>h.apart p hp (e▸hk)),h.r50,h.len,⟨h.bnd.1,h.bnd.2.1,λx=>by
  have a1:=h.bnd.2.2 j;have a2:=h.bnd.2.2 x;by_cases e:x=j
  ·simp only[if_pos e];omega
  ·simp only[if_neg e];exact a2⟩,h.Ya,h.apart⟩,hch⟩
 have hb:=h.bnd.2.2 j;have hmax:((max (A j) mark:Nat):Int)=if A j<mark then(mark:Int) else(A j:Int):=by split<;>omega
 have Vt:((max (A j) mark:Nat):Int)=max (A j:Int) (mark:Int):=by omega
 have hst2:=hst;rw[Vt]at hst2;rw[hmax]at hst;clear hmax Vt;generalize A j=aj at *;clear h hN hNd hM1 hg1 hs1 hch;go_enter func169,ntmps169;go_wp2_with fail
 go_region
 all_goals go_wp2_with fail
 all_goals exact bodyPost_end (results_none rfl _ _ _) rfl ⟨rfl,HF.out.1,HF.out.2⟩
def xu(room dr:Nat)(ps:List jA)(p:jA):Nat:=if room<ps.length+1 then((ps++[p]).headD p).mark else dr
def uF(room:Nat)(ps:List jA)(p:jA):List jA:=if room<ps.length+1 then(ps++[p]).tail else ps++[p]
theorem QG(w:World)(kb room:Nat)(pv:Value)(dr ab:Nat)(nb:List Nat)(A:Nat->Nat)(ps:List jA)(p:jA)(h:dJ w kb room pv dr ab nb A ps)(hp:p.st.At w)(hpa:¬p.st.own ab)(hm:p.mark<=100000/\p.fr<=5):Calls prog 153 #[.pointer (some ⟨kb,0,none⟩),.agg #[.map p.st.io,.map p.st.co,.map p.st.lo],.int .i64 p.fr,.int .i64 p.mark] w λe w'=>e=.returned (.tuple #[])/\∃pv',dJ w' kb room pv' (xu room dr ps p) ab nb A (uF room ps p)/\(pv'.ownBlock=pv.ownBlock\/∃k,pv'.ownBlock=some k/\w.heap.size<=k)/\ay (λk=>k=kb\/pv.ownBlock=some k) w w':=by
 obtain⟨i0,hi,hz0,hz1,hz2⟩:=info_parts Tryz.infoPc;obtain⟨ao,cap,hs⟩:=h.shape;have HK:Hid (dJ w kb room pv dr ab nb A ps):=h;have HP:Hid (p.st.At w):=hp;have hne:=h.ne;have hkl:=h.blk.lt;have hlen:=h.len;have ah2:=h.r50;have kz:∀o,aA (w.alloc o) kb #[.int .i64 room,pv,.int .i64 dr,.map (some ab)] 220:=λo=>h.blk.alloc o;have XV:=aA.new w #[.map p.st.io,.map p.st.co,.map p.st.lo] 102;have hb0:Below w.heap.size w (w.alloc (.cells #[.map p.st.io,.map p.st.co,.map p.st.lo] 102)):=(Below.refl _ w).alloc (Nat.le_refl _) _;clear h hp;go_enter func153,ntmps153;go_wp2_with fail;have kzz:=kz (.cells #[.map p.st.io,.map p.st.co,.map p.st.lo] 102);generalize w.alloc (.cells #[.map p.st.io,.map p.st.co,.map p.st.lo] 102)=w0 at *;subst hs;have m1:Hid (ps.length+1<=maxLen):=by unfold Hid maxLen;omega
 have m2:Hid ((ps.length+1)*40<=140737488355328):=by unfold Hid;omega
 have hone:Hid (∀u∈p.cells,u.oneCell'=true):=by intro u hu;simp[jA.cells]at hu;rcases hu with rfl|rfl|rfl|rfl|rfl<;>rfl
 have hK0:dJ w0 kb room (.slice ao ps.length cap) dr ab nb A ps:=HK.out.below hb0;have vM:Hid (w0.ownsRow 0 222 5 (.slice ao ps.length cap) ps.length (bK ps)):=hK0.row;have HK0:Hid (aA w0 kb #[.int .i64 room,.slice ao ps.length cap,.int .i64 dr,.map (some ab)] 220):=kzz;have q1:=(kzz.cell 1).trans rfl;have s0:=(XV.cell 0).trans rfl;have s1:=(XV.cell 1).trans rfl;have s2:=(XV.cell 2).trans rfl;have q1A:∀o,(w0.alloc o).cell? ⟨kb,1,none⟩=some (.slice ao ps.length cap):=λo=>((HK0.out.alloc o).cell 1).trans rfl;have Hb0:Hid (Below w.heap.size w w0):=hb0;clear kzz kz XV hb0 hK0;go_cut []from 8 to 20 (λwx=>∃w6 g6 c6,wx=w6.setCell ⟨kb,1,none⟩ (.slice (some ⟨g6,0,none⟩) (ps.length+1) c6)/\ay (λk=>(Value.slice ao ps.length cap).ownBlock=some k) w0 w6/\w6.ownsRow 0 222 5 (.slice (some ⟨g6,0,none⟩) (ps.length+1) c6) (ps.length+1) (bK ps++p.cells)/\((Value.slice ao ps.length cap).ownBlock=some g6\/w.heap.size<=g6))
 case first =>
  go_region_law (first|(refine fG rfl (.tmp 12) (.tmp 17) 218 rfl 222 i0 (.agg #[.int .i64 0,.int .i64 0,.map none,.map none,.map none]) 5 40 underlying218 hi hz0 hz1 hz2 rfl (by decide) (.slice ao ps.length cap) ps.length (bK ps) rfl ?_ _ 1 1 p.cells rfl rfl ?_ hone.out m1.out m2.out (Nat.succ_pos _) ?_;(exact vM.out.alloc _);(intro j u hj;match j,hj with|0,hj=>(cases hj;simp[Addr.add])|1,hj=>(cases hj;simp[Addr.add])|2,hj=>(cases hj;simp[Addr.add])|3,hj=>(cases hj;simp[Addr.add])|4,hj=>(cases hj;simp[Addr.add]));intro g6 c6 w6 hown6 eG pF;have oO:ay (λk=>(Value.slice ao ps.length cap).ownBlock=some k) w0 w6:=ay.grown (ay.of_below (by go_grown)) eG (λk hk=>Or.inl hk);have hk6:=HK0.out.aJ oO hne.2.1;have k1:=(hk6.cell 1).trans rfl;have kf6:=hk6.frozen))
  all_goals
   go_wp2_with fail;go_meet;refine⟨w6,g6,c6,rfl,oO,hown6, ?_⟩;rcases pF with h|h
   ·exact Or.inl h
   ·refine Or.inr (Nat.le_trans Hb0.out.size ?_);simp at h;omega
 case rest =>
 obtain⟨w6,g6,c6,rfl,oO,hown6,pF⟩:=hcut;have hk6:aA w6 kb #[.int .i64 room,.slice ao ps.length cap,.int .i64 dr,.map (some ab)] 220:=HK0.out.aJ oO hne.2.1;have hgk:g6≠kb:=λe=>by subst e;refine ownsRow_ne hown6 (k:=g6) (λcur fz e=>?_) rfl;have h2:=hk6;unfold aA at h2;rw[h2]at e;cases e
 have hcz:ay (λk=>k=kb) w6 (w6.setCell ⟨kb,1,none⟩ (.slice (some ⟨g6,0,none⟩) (ps.length+1) c6)):=(ay.refl (λk=>k=kb) w6).setCell (p:=⟨kb,1,none⟩) rfl _;have kz1:aA (w6.setCell ⟨kb,1,none⟩ (.slice (some ⟨g6,0,none⟩) (ps.length+1) c6)) kb #[.int .i64 room,.slice (some ⟨g6,0,none⟩) (ps.length+1) c6,.int .i64 dr,.map (some ab)] 220:=by have:=hk6;unfold aA at this⊢;simp[World.setCell,Array.getElem?_modify,this]
 have hrow1:(w6.setCell ⟨kb,1,none⟩ (.slice (some ⟨g6,0,none⟩) (ps.length+1) c6)).ownsRow 0 222 5 (.slice (some ⟨g6,0,none⟩) (ps.length+1) c6) (ps.length+1) (bK (ps++[p])):=by rw[Gg];exact qU hown6 hcz (λk hk e=>by cases hk;exact hgk e)
 have Vu:ay (λk=>k=kb\/(Value.slice ao ps.length cap).ownBlock=some k) w (w6.setCell ⟨kb,1,none⟩ (.slice (some ⟨g6,0,none⟩) (ps.length+1) c6)) :=
  ((ay.of_below Hb0.out).trans' (oO.mono (N:=λk=>k=kb\/(Value.slice ao ps.length cap).ownBlock=some k) (λk _ e=>Or.inr e)) (λk _ e=>e)).trans' hcz (λk _ e=>Or.inl e)
 clear hk6 hcz hown6 oO q1 q1A s0 s1 s2 vM HK0;generalize w6.setCell ⟨kb,1,none⟩ (.slice (some ⟨g6,0,none⟩) (ps.length+1) c6)=W at *
 -- what stays,whatever else is dropped
 have Vw:Hid (∀(W':World)(qv:Value)(d:Nat)(qs:List jA),aA W' kb #[.int .i64 room,qv,.int .i64 d,.map (some ab)] 220->W'.ownsRow 0 222 5 qv qs.length (bK qs)->ay (λk=>k=kb\/(Value.slice ao ps.length cap).ownBlock=some k) w W'->qs.length<=room->(∀q∈qs,q∈ps++[p])->d<=100000->dJ W' kb room qv d ab nb A qs):=λW' qv d qs h1 h2 h3 h4 h5 h6=>by
  have hnm:∀(k:Nat)(s:jh),s.At w->s.own k->¬(k=kb\/(Value.slice ao ps.length cap).ownBlock=some k):=λk s hs hk e=>by
   rcases e with rfl|e
   ·exact hs.iZ hk HK.out.blk
   ·obtain⟨_,⟨h1,_⟩|⟨g',cap',cur,h1,h2,h3,_⟩⟩:=HK.out.row
    ·rw[h1]at e;cases e
    ·rw[h1]at e;cases e;exact hs.iZ hk h3
  have hin:∀q∈qs,q.st.At w/\(q.mark<=100000/\q.fr<=5)/\¬q.st.own ab:=λq hq=>by
   rcases List.mem_append.1 (h5 q hq)with h|h
   ·exact⟨HK.out.st q h,HK.out.bnd.1 q h,HK.out.apart q h⟩
   ·rw[List.mem_singleton]at h;subst h;exact⟨HP.out,hm,hpa⟩
  refine⟨h1,h2,HK.out.ack.imp λN g=>g.block (h3.block _ g.lt (λe=>by rcases e with e|e;exact hne.1 e.symm;exact hne.2.2 e)),λq hq=>(hin q hq).1.Xd h3 (λk hk=>hnm k _ (hin q hq).1 hk),ah2,h4,⟨λq hq=>(hin q hq).2.1,h6,HK.out.bnd.2.2⟩,HK.out.Ya,λq hq=>(hin q hq).2.2⟩
 have HW:Hid (aA W kb #[.int .i64 room,.slice (some ⟨g6,0,none⟩) (ps.length+1) c6,.int .i64 dr,.map (some ab)] 220/\W.ownsRow 0 222 5 (.slice (some ⟨g6,0,none⟩) (ps.length+1) c6) (ps.length+1) (bK (ps++[p]))/\ay (λk=>k=kb\/(Value.slice ao ps.length cap).ownBlock=some k) w W):=⟨kz1,hrow1,Vu⟩;have Hdr:Hid (dr<=100000):=HK.out.bnd.2.1;have JI:Hid ((Value.slice ao ps.length cap).ownBlock=some g6\/w.heap.size<=g6):=pF;have e0:W.drew.cell? ⟨kb,0,none⟩=some (.int .i64 room):=(kz1.cell 0).trans rfl;have e1:W.drew.cell? ⟨kb,1,none⟩=some (.slice (some ⟨g6,0,none⟩) (ps.length+1) c6):=(kz1.cell 1).trans rfl;clear kz1 hrow1 Vu pF;by_cases hc:room<ps.length+1
 ·have hcd:decide ((ps.length:Int)+1 > (room:Int))=true:=by simp;omega
  obtain⟨p0,rest,hpr⟩:∃p0 rest,ps++[p]=p0::rest:=by cases ps with
   | nil=>exact⟨p,[],rfl⟩
   | cons a l=>exact⟨a,l++[p],rfl⟩
  have hrl:rest.length=ps.length:=by have:=congrArg List.length hpr;simp at this;omega
  have hp0:p0∈ps++[p]:=by rw[hpr];simp
  have hm0:p0.mark<=100000:=by
   rcases List.mem_append.1 hp0 with h|h
   ·exact(HK.out.bnd.1 p0 h).1
   ·rw[List.mem_singleton]at h;subst h;exact hm.1
  have HD:Hid (_):=zk W.drew kb room (.slice (some ⟨g6,0,none⟩) (ps.length+1) c6) dr ab nb A p0 rest HW.out.1 (by rw[hrl,<- hpr];exact HW.out.2.1) (by omega) hm0;have Hpr:Hid (ps++[p]=p0::rest):=hpr;clear hpr hp0;go_wp2_with fail
  go_region
  go_wp2_with fail;refine Calls.mono HD.out ?_;rintro e w3⟨rfl,qv3,kb3,row3,ob3,ch3,sz3⟩;have hc3:ay (λk=>k=kb\/(Value.slice ao ps.length cap).ownBlock=some k) w w3:=HW.out.2.2.trans' (ay.trans (ay.of_below (Below.refl _ W).drew) ch3) (λk hk e=>by
   rcases e with e|e
   ·exact Or.inl e
   ·have e':g6=k:=by simpa[Value.ownBlock]using e
    rcases JI.out with h|h
    ·exact Or.inr (by rw[h,e'])
    ·omega)
  have hF:=Vw.out w3 qv3 p0.mark rest kb3 row3 hc3 (by omega) (λq hq=>by rw[Hpr.out];simp[hq]) hm0;have HF:Hid (dJ w3 kb room qv3 p0.mark ab nb A rest/\ay (λk=>k=kb\/(Value.slice ao ps.length cap).ownBlock=some k) w w3/\qv3.ownBlock=some g6):=⟨hF,hc3,ob3⟩;clear hF hc3 ob3 kb3 row3 ch3 sz3 HD;go_wp2_with fail;refine bodyPost_end (results_none rfl _ _ _) rfl ⟨rfl,qv3, ?_, ?_,HF.out.2.1⟩
  ·unfold xu uF;rw[if_pos hc,if_pos hc,Hpr.out];exact HF.out.1
  ·rcases JI.out with h|h
   ·exact Or.inl (by rw[HF.out.2.2,h])
   ·exact Or.inr ⟨g6,HF.out.2.2,h⟩
 ·have hcd:decide ((ps.length:Int)+1 > (room:Int))=false:=by simp;omega
  have hF:=Vw.out W.drew _ dr (ps++[p]) HW.out.1 (by rw[List.length_append];exact HW.out.2.1) (ay.trans' HW.out.2.2 (ay.of_below (M:=λ_=>False) (Below.refl _ W).drew) (λ_ _ h=>h.elim)) (by simp;omega) (λq hq=>hq) Hdr.out;have HF:Hid (dJ W.drew kb room (.slice (some ⟨g6,0,none⟩) (ps.length+1) c6) dr ab nb A (ps++[p])/\ay (λk=>k=kb\/(Value.slice ao ps.length cap).ownBlock=some k) w W.drew):=⟨hF,ay.trans' HW.out.2.2 (ay.of_below (M:=λ_=>False) (Below.refl _ W).drew) (λ_ _ h=>h.elim)⟩;clear hF;go_wp2_with fail
  go_region
  go_wp2_with fail;refine bodyPost_end (results_none rfl _ _ _) rfl ⟨rfl,.slice (some ⟨g6,0,none⟩) (ps.length+1) c6, ?_, ?_,HF.out.2⟩
  ·unfold xu uF;rw[if_neg hc,if_neg hc];exact HF.out.1
  ·rcases JI.out with h|h
   ·exact Or.inl h.symm
   ·exact Or.inr ⟨g6,rfl,h⟩
def dP(aS:List jh):List Value:=aS.flatMap λs=>[.map s.io,.map s.co,.map s.lo]
theorem wK(aS:List jh)(s:jh):dP (aS++[s])=dP aS++[.map s.io,.map s.co,.map s.lo]:=by simp[dP]
theorem zl(aS:List jh):(dP aS).length=aS.length*3:=by
 induction aS with
 | nil=>rfl
 | cons s r ih=>simp[dP]at ih⊢;omega
theorem qV(aS:List jh):∀(i:Nat)(h:i<aS.length),(dP aS)[i*3]?=some (.map aS[i].io)/\(dP aS)[i*3+1]?=some (.map aS[i].co)/\(dP aS)[i*3+2]?=some (.map aS[i].lo):=by
 induction aS with
 | nil=>intro i h;simp at h
 | cons s r ih =>
  intro i h;have hc:dP (s::r)=[.map s.io,.map s.co,.map s.lo]++dP r:=rfl;rw[hc];cases i with
  | zero=>simp
  | succ i =>
   have e:∀k,([Value.map s.io,.map s.co,.map s.lo]++dP r)[(i+1)*3+k]?=(dP r)[i*3+k]?:=λk=>by rw[List.getElem?_append_right (by simp;omega)];congr 1;simp;omega
   have:=ih i (by simpa using h);have e0:=e 0;rw[Nat.add_zero,Nat.add_zero]at e0;rw[e0,e 1,e 2];simpa using this
theorem JM{B g:Nat}{aS:List jh}(h:w.ownsRow B 102 3 (.slice (some ⟨g,0,none⟩) aS.length cap) aS.length (dP aS))(hok:∀s∈aS,s.At w):fQ w g 0 aS:=by
 have hc:=h.cells (g:=g) rfl;refine⟨(h.lt g rfl).2,λj hj=>?_,λj hj=>?_,λj hj=>?_,hok⟩
 ·have:=hc _ _ (qV aS j hj).1;rw[Addr.add_lit]at this;exact this
 ·have:=hc _ _ (qV aS j hj).2.1;rw[Addr.add_lit]at this;simpa[Nat.add_assoc]using this
 ·have:=hc _ _ (qV aS j hj).2.2;rw[Addr.add_lit]at this;simpa[Nat.add_assoc]using this
theorem Tryz.infoSt:(prog.info? 102).map (λi=>(i.zero,i.size,i.bytes))=some (some (.agg #[.map none,.map none,.map none]),3,24):=by kernel_rfl
def bV(j h:Nat)(ps:List jA):List jh:=(ps.filter λp=>decide (h<p.mark)&&decide (p.fr≠j)).map jA.st
theorem JO(j h:Nat)(ps:List jA)(p:jA):bV j h (ps++[p])=if h<p.mark/\p.fr≠j then bV j h ps++[p.st]else bV j h ps:=by
 unfold bV;rw[List.filter_append,List.map_append];by_cases hc:h<p.mark/\p.fr≠j
 ·rw[if_pos hc,List.filter_cons_of_pos (by simpa using hc)];(first|done|rfl)
 ·rw[if_neg hc,List.filter_cons_of_neg (by simpa using hc)];simp
theorem NM(j h:Nat)(ps:List jA):(bV j h ps).length<=ps.length:=by unfold bV;rw[List.length_map];exact List.length_filter_le _ _
theorem kY{j h:Nat}{ps:List jA}(hs:s∈bV j h ps):∃p∈ps,p.st=s/\h<p.mark/\p.fr≠j:=by obtain⟨p,hp,rfl⟩:=List.mem_map.1 hs;obtain⟨h1,h2⟩:=List.mem_filter.1 hp;simp at h2;exact⟨p,h1,rfl,h2.1,h2.2⟩
theorem QH(w:World):Calls prog 150 #[.slice none 0 0] w λe w'=>∃ib cb lb,e=.returned (.agg #[.map (some ib),.map (some cb),.map (some lb)])/\aN w' ib cb lb (λ_=>False) (λ_=>none)/\(w.heap.size<=ib/\w.heap.size<=cb/\w.heap.size<=lb)/\Below w.heap.size w w':=by
 go_enter func150,ntmps150;go_wp2_with fail;refine Calls.mono (pY _ (.slice none 0 0) [] (Or.inl ⟨rfl,rfl⟩) (by simp) (by simp)) ?_;rintro e w1⟨ib,cb,lb,rfl,hst,hnew,hb1⟩;have e1:(w.alloc (.cells #[.map none,.map none,.map none] 102)).heap.size=w.heap.size+1:=by simp
 rw[e1]at hnew hb1;have hlt:=hst.lt;have hbw:Below w.heap.size w w1:=((Below.refl _ w).alloc (Nat.le_refl _) _).trans (hb1.mono (by omega));have hr:aA w1 w.heap.size #[.map none,.map none,.map none] 102:=(hb1.block _ (by omega)).trans (heap_alloc_new w _);have hz:=(Below.refl _ w1).alloc (Nat.le_refl _) (.cells #[.map (some ib),.map (some cb),.map (some lb)] 102);have HX:Hid (aN (w1.alloc (.cells #[.map (some ib),.map (some cb),.map (some lb)] 102)) ib cb lb (λ_=>False) (λ_=>none)/\Below w.heap.size w (w1.alloc (.cells #[.map (some ib),.map (some cb),.map (some lb)] 102))):=by have hst2:=hst.below hz;exact⟨⟨hst2.ctx.iff (λn _=>by simp),hst2.its,hst2.ne,λn hn=>absurd rfl hn⟩,hbw.trans (hz.mono hbw.size)⟩
 have kr:=hr.below hz;have kb:=aA.new w1 #[.map (some ib),.map (some cb),.map (some lb)] 102;have am5:w.heap.size<w1.heap.size:=hr.lt;clear hst hb1 hbw hr hz;go_wp2_with fail;generalize w1.alloc (.cells #[.map (some ib),.map (some cb),.map (some lb)] 102)=W at *;have b0:=(kb.cell 0).trans rfl;have b1:=(kb.cell 1).trans rfl;have b2:=(kb.cell 2).trans rfl;have r0:=(kr.cell 0).trans rfl;have r1:=(kr.cell 1).trans rfl;have r2:=(kr.cell 2).trans rfl;have f0:=kr.frozen;go_loopg [11] 0 (λg v11 wx=>g=0/\v11=.int .i64 0/\wx=W);case atStart=>exact⟨rfl,rfl,rfl⟩
 case round =>
  obtain⟨_,rfl,rfl⟩:=hrel;go_wp2_with fail;have hch:ay (λk=>k=w.heap.size) wr (((wr.setCell ⟨w.heap.size,0,none⟩ (.map (some ib))).setCell ⟨w.heap.size,1,none⟩ (.map (some cb))).setCell ⟨w.heap.size,2,none⟩ (.map (some lb))):=(((ay.refl (λk=>k=w.heap.size) wr).setCell (p:=⟨w.heap.size,0,none⟩) rfl _).setCell (p:=⟨w.heap.size,1,none⟩) rfl _).setCell (p:=⟨w.heap.size,2,none⟩) rfl _;refine bodyPost_ret (v:=.agg #[.map (some ib),.map (some cb),.map (some lb)]) (by simp[results,Tryz.results150,go_sem,r0,r1,r2,bQ,aK,World.cell?_setCell_other]) rfl ⟨ib,cb,lb,rfl, ?_,by omega, ?_⟩
  ·exact HX.out.1.aJ hch (by omega) (by omega) (by omega)
  ·exact((HX.out.2.setCell (p:=⟨w.heap.size,0,none⟩) (Nat.le_refl _) _).setCell (p:=⟨w.heap.size,1,none⟩) (Nat.le_refl _) _).setCell (p:=⟨w.heap.size,2,none⟩) (Nat.le_refl _) _
theorem Gh(w:World)(B:Nat)(v:Value)(aS:List jh)(h:w.ownsRow B 102 3 v aS.length (dP aS))(hok:∀s∈aS,s.At w)(hl:aS.length<=1000):Calls prog 150 #[v] w λe w'=>∃ib cb lb It,e=.returned (.agg #[.map (some ib),.map (some cb),.map (some lb)])/\aN w' ib cb lb (λn=>∃s∈aS,s.S n) It /\ (∀n v,It n=some v->(∃s∈aS,s.It n=some v)/\¬bJ aS n)/\(∀n,(∃s∈aS,s.It n≠none)->¬bJ aS n->It n≠none)/\(w.heap.size<=ib/\w.heap.size<=cb/\w.heap.size<=lb)/\Below w.heap.size w w':=by
 have h0:=h;obtain⟨_,⟨rfl,h2⟩|⟨g,cap,cur,rfl,h2,h3,h4,_⟩⟩:=h
 ·have:aS=[]:=List.length_eq_zero_iff.1 h2;subst this;refine Calls.mono (QH w) ?_;rintro e w'⟨ib,cb,lb,rfl,hst,hn,hb⟩;refine⟨ib,cb,lb,λ_=>none,rfl,⟨hst.ctx.iff (λn _=>by simp),hst.its,hst.ne,λn hn=>absurd rfl hn⟩,λn v h=>(by cases h),λn hn=>(by simp at hn),hn,hb⟩
 ·exact PO w g 0 cap aS (JM h0 hok) h4 hl
theorem QI(w:World)(kb room:Nat)(pv:Value)(dr ab:Nat)(nb:List Nat)(A:Nat->Nat)(ps:List jA)(j:Nat)(h:dJ w kb room pv dr ab nb A ps)(hj:j∈nb):Calls prog 99 #[.pointer (some ⟨kb,0,none⟩),.int .i64 j] w λe w'=>Below w.heap.size w w'/\((A j<dr/\e=.returned (.tuple #[.agg #[.map none,.map none,.map none],.bool false])) \/ (dr<=A j/\∃ib cb lb It,e=.returned (.tuple #[.agg #[.map (some ib),.map (some cb),.map (some lb)],.bool true])/\aN w' ib cb lb (λn=>∃s∈bV j (A j) ps,s.S n) It /\ (∀n v,It n=some v->(∃s∈bV j (A j) ps,s.It n=some v)/\¬bJ (bV j (A j) ps) n)/\(∀n,(∃s∈bV j (A j) ps,s.It n≠none)->¬bJ (bV j (A j) ps) n->It n≠none)/\(w.heap.size<=ib/\w.heap.size<=cb/\w.heap.size<=lb))):=by
 obtain⟨i0,hif,hz0,hz1,hz2⟩:=info_parts Tryz.infoSt;obtain⟨N,hN⟩:=h.ack;obtain⟨ao,cap,hs⟩:=h.shape;have q1:=(h.blk.cell 1).trans rfl;have q2:=(h.blk.cell 2).trans rfl;have q3:=(h.blk.cell 3).trans rfl;have z1:∀o,(w.alloc o).cell? ⟨kb,1,none⟩=some pv:=λo=>((h.blk.alloc o).cell 1).trans rfl;have z2:∀o,(w.alloc o).cell? ⟨kb,2,none⟩=some (.int .i64 dr):=λo=>((h.blk.alloc o).cell 2).trans rfl;have z3:∀o,(w.alloc o).cell? ⟨kb,3,none⟩=some (.map (some ab)):=λo=>((h.blk.alloc o).cell 3).trans rfl;have hj5:=h.Ya j hj;have hkl:=uY j (by omega);have hlen:ps.length<=50:=Nat.le_trans h.len h.r50;have hb:=h.bnd;have hu:(am nb A (.int .i64 j)).getD (.int .i64 0)=.int .i64 (A j):=by rw[BQ,if_pos hj];(first|done|rfl)
 have HM:Hid (∀o,bM prog 3 (w.alloc o) ab N (am nb A)):=λo=>hN.block (((Below.refl _ w).alloc (Nat.le_refl _) o).block _ hN.lt);have HK:Hid (dJ w kb room pv dr ab nb A ps):=h;have ah3:=hb.2.2 j;have am6:=hb.2.1;obtain⟨aj,haj⟩:∃aj,A j=aj:=⟨_,rfl⟩;rw[haj]at hu ah3;rw[haj];have hbp:Hid (∀p∈ps,p.mark<=100000/\p.fr<=5):=hb.1;clear h hN hb;subst hs;by_cases hc:aj<dr
 ·have hd:(aj:Int)<(dr:Int):=by omega
  have hdd:decide ((aj:Int)<(dr:Int))=true:=by simpa using hd
  have kr:=aA.new w #[.map none,.map none,.map none] 102;have r0:=(kr.cell 0).trans rfl;have r1:=(kr.cell 1).trans rfl;have r2:=(kr.cell 2).trans rfl;have f0:=kr.frozen;go_enter func99,ntmps99;go_wp2_with (first|(at_lookup;refine pR rfl (.tmp 13) (.tmp 14) 97 rfl 3 mQ underlying97 (I5 _) rfl (HM.out _) (.int .i64 j) _ rfl hkl _ hu ?_));exact bodyPost_ret (v:=.tuple #[.agg #[.map none,.map none,.map none],.bool false]) (by simp[results,Tryz.results99,go_sem,r0,r1,r2]) rfl ⟨(Below.refl _ w).alloc (Nat.le_refl _) _,Or.inl ⟨hc,rfl⟩⟩
 ·have hd:¬(aj:Int)<(dr:Int):=by omega
  have hdd:decide ((aj:Int)<(dr:Int))=false:=by simpa using hd
  have kr:=aA.new w #[.map none,.map none,.map none] 102;have hb0:Below w.heap.size w (w.alloc (.cells #[.map none,.map none,.map none] 102)):=(Below.refl _ w).alloc (Nat.le_refl _) _;have hs0:(w.alloc (.cells #[.map none,.map none,.map none] 102)).heap.size=w.heap.size+1:=by simp
  go_enter func99,ntmps99;go_wp2_with (first|(at_lookup;refine pR rfl (.tmp 13) (.tmp 14) 97 rfl 3 mQ underlying97 (I5 _) rfl (HM.out _) (.int .i64 j) _ rfl hkl _ hu ?_));clear z1 z2 z3 q1 q2 q3 HM;generalize w.alloc (.cells #[.map none,.map none,.map none] 102)=w0 at *;have Hs0:Hid (w0.heap.size=w.heap.size+1):=hs0;have Hb0:Hid (Below w.heap.size w w0/\aA w0 w.heap.size #[.map none,.map none,.map none] 102):=⟨hb0,kr⟩;clear hs0 hb0 kr;go_loopg [7,28] ps.length (λg v7 v28 wx=>∃i:Nat,i+g=ps.length/\v28=.int .i64 i/\Below w0.heap.size w0 wx/\wx.ownsRow w0.heap.size 102 3 v7 (bV j aj (ps.take i)).length (dP (bV j aj (ps.take i))));case atStart=>exact⟨0,by omega,rfl,Below.refl _ _,World.ownsRow_nil _ _ _ _⟩
  case round =>
   obtain⟨i,hig,rfl,hb,hrow⟩:=hrel;have HB:Hid (Below w0.heap.size w0 wr):=hb;have vM:Hid (wr.ownsRow w0.heap.size 102 3 u7 (bV j aj (ps.take i)).length (dP (bV j aj (ps.take i)))):=hrow;have hsh:∃ZQ QJ,u7=.slice ZQ (bV j aj (ps.take i)).length QJ:=by
    rcases hrow.2 with⟨h1,h2⟩|⟨g,cp,cur,h1,_⟩
    ·exact⟨none,0,by rw[h1,h2]⟩
    ·exact⟨_,cp,h1⟩
   obtain⟨ZQ,QJ,rfl⟩:=hsh;have hll:(bV j aj (ps.take i)).length<=50:=Nat.le_trans (NM _ _ _) (by rw[List.length_take];omega);have hKr:dJ wr kb room (.slice ao ps.length cap) dr ab nb A ps:=HK.out.below (Hb0.out.1.trans (hb.mono Hb0.out.1.size));by_cases hi:i<ps.length
   ·have hcl:=hKr.row;obtain⟨g,cp,hg⟩:=dL hcl (by omega);simp only[Value.slice.injEq]at hg;obtain⟨rfl,_,rfl⟩:=hg;have hcp:ps.length<=cap:=by
     obtain⟨_,⟨h1,_⟩|⟨g',cap',cur,h1,h2,h3,h4,_⟩⟩:=hcl
     ·cases h1
     ·simp only[Value.slice.injEq]at h1;obtain⟨_,_,rfl⟩:=h1;exact h4
    have hpc:=BP ps i hi;have hcs:=hcl.cells (g:=g) rfl;have c0:=hcs _ _ hpc.1;have c1:=hcs _ _ hpc.2.1;have c2:=hcs _ _ hpc.2.2.1;have c3:=hcs _ _ hpc.2.2.2.1;have c4:=hcs _ _ hpc.2.2.2.2;simp only[Addr.add_lit,Nat.zero_add]at c0 c1 c2 c3 c4;have hmem:ps[i]∈ps:=List.getElem_mem hi;have hbm:=hbp.out _ hmem;have Ez:Hid (bV j aj (ps.take (i+1))=if aj<ps[i].mark/\ps[i].fr≠j then bV j aj (ps.take i)++[ps[i].st]else bV j aj (ps.take i)):=by unfold Hid;rw[List.take_succ_eq_append_getElem hi];exact JO _ _ _ _
    generalize ps[i]=p at *;generalize bV j aj (ps.take i)=ls at *;have kp:=aA.new wr #[.int .i64 p.mark,.int .i64 p.fr,.map p.st.io,.map p.st.co,.map p.st.lo] 222;have ah4:Below wr.heap.size wr (wr.alloc (.cells #[.int .i64 p.mark,.int .i64 p.fr,.map p.st.io,.map p.st.co,.map p.st.lo] 222)):=(Below.refl _ wr).alloc (Nat.le_refl _) _;have hbw:w0.heap.size<=wr.heap.size:=hb.size;clear hcl hcs hpc hKr hrow hb;by_cases hcc:aj<p.mark/\p.fr≠j
    ·have hd1:decide ((p.mark:Int) > (aj:Int))=true:=by simp;omega
     have hd2:(p.mark:Int) > (aj:Int):=by omega
     have hd3:¬((p.fr:Int)=(j:Int)):=by omega
     have hd4:((p.fr:Int) !=(j:Int))=true:=by simpa using hd3
     have HA:Hid (∀(ob:Obj)(W:World),Below wr.heap.size wr W->(W.alloc ob).ownsRow w0.heap.size 102 3 (.slice ZQ ls.length QJ) ls.length (dP ls)):=λob W hW=>(own_below vM.out hW).alloc ob;have Jh:Hid (∀k u,([.map p.st.io,.map p.st.co,.map p.st.lo]:List Value)[k]?=some u->((wr.alloc (.cells #[.int .i64 p.mark,.int .i64 p.fr,.map p.st.io,.map p.st.co,.map p.st.lo] 222)).alloc (.cells #[.map p.st.io,.map p.st.co,.map p.st.lo] 102)).cell? ((⟨wr.heap.size+1,0,none⟩:Addr).add k)=some u):=λk u hk=>by have kk:=aA.new (wr.alloc (.cells #[.int .i64 p.mark,.int .i64 p.fr,.map p.st.io,.map p.st.co,.map p.st.lo] 222)) #[.map p.st.io,.map p.st.co,.map p.st.lo] 102;rw[World.size_alloc]at kk;rw[Addr.add_lit,kk.cell];simpa using hk
     have h63:ls.length+1<=maxLen:=by unfold maxLen;omega
     have h64:(ls.length+1)*24<=140737488355328:=by omega
     go_wp2_with (first|(at_builtin;refine wpList_append_own_at _ rfl (.tmp 42) (.tmp 45) 205 rfl w0.heap.size 102 i0 (.agg #[.map none,.map none,.map none]) 3 24 underlying205 hif hz0 hz1 hz2 rfl (by decide) _ _ _ rfl (HA.out _ _ ah4) ⟨wr.heap.size+1,0,none⟩ 1 1 [.map p.st.io,.map p.st.co,.map p.st.lo] rfl rfl Jh.out (by simp[Value.oneCell']) h63 h64 (by simp;omega) ?_;intro v6 w6 kF eG Ae uO));have hb6:Below w0.heap.size w0 w6:=by have h1:Below w0.heap.size w0 ((wr.alloc (.cells #[.int .i64 p.mark,.int .i64 p.fr,.map p.st.io,.map p.st.co,.map p.st.lo] 222)).alloc (.cells #[.map p.st.io,.map p.st.co,.map p.st.lo] 102)):=(HB.out.alloc hbw _).alloc (by simp;omega) _;exact h1.grown eG (by simp;omega) (λk e=>(vM.out.lt k e).1)
     go_roundg (ps.length-(i+1));case measure=>omega
     case rel =>refine⟨i+1,by omega,by go_num,hb6, ?_⟩;rw[Ez.out,if_pos hcc,wK,List.length_append];exact kF
    ·have hd4:decide ((p.mark:Int) > (aj:Int))=false\/((p.mark:Int) > (aj:Int)/\(p.fr:Int)=(j:Int)):=by
      by_cases h1:aj<p.mark
      ·exact Or.inr ⟨by omega,by have:p.fr=j:=Classical.byContradiction λh=>hcc ⟨h1,h⟩;omega⟩
      ·exact Or.inl (by simp;omega)
     have hb6:Below w0.heap.size w0 (wr.alloc (.cells #[.int .i64 p.mark,.int .i64 p.fr,.map p.st.io,.map p.st.co,.map p.st.lo] 222)):=HB.out.alloc hbw _;have TT:Hid ((wr.alloc (.cells #[.int .i64 p.mark,.int .i64 p.fr,.map p.st.io,.map p.st.co,.map p.st.lo] 222)).ownsRow w0.heap.size 102 3 (.slice ZQ ls.length QJ) ls.length (dP ls)):=vM.out.alloc _;rcases hd4 with hd4|⟨hd4,hd5⟩
     ·have hd6:¬((p.mark:Int) > (aj:Int)):=by simpa using hd4
      go_wp2_with fail;go_roundg (ps.length-(i+1));case measure=>omega
      case rel =>refine⟨i+1,by omega,by go_num,hb6, ?_⟩;rw[Ez.out,if_neg hcc];exact TT.out
     ·have hd6:decide ((p.mark:Int) > (aj:Int))=true:=by simpa using hd4
      have hje:p.fr=j:=by omega
      clear hd5;subst hje;go_wp2_with fail;go_roundg (ps.length-(i+1));case measure=>omega
      case rel =>refine⟨i+1,by omega,by go_num,hb6, ?_⟩;rw[Ez.out,if_neg hcc];exact TT.out
   ·have htk:ps.take i=ps:=List.take_of_length_le (by omega);rw[htk]at hll;have hrow2:wr.ownsRow w0.heap.size 102 3 (.slice ZQ (bV j aj ps).length QJ) (bV j aj ps).length (dP (bV j aj ps)):=by have:=vM.out;rw[htk]at this;exact this
    have HJ:Hid (_):=Gh wr w0.heap.size _ (bV j aj ps) hrow2 (λs hs=>by obtain⟨p,hp,rfl,_⟩:=kY hs;exact hKr.st p hp) (by omega);have Vo:=Hb0.out.2.below HB.out;clear hKr hrow hb vM hrow2;rw[htk];go_wp2_with fail;refine Calls.mono HJ.out ?_;rintro e w5⟨ib,cb,lb,It,rfl,hst,p1,p2,hnew,hb5⟩;have hs0:=Hs0.out;have hsw:=HB.out.size;have hk5:=Vo.below hb5;have HF:Hid (aN w5 ib cb lb (λn=>∃s∈bV j aj ps,s.S n) It/\(∀n v,It n=some v->(∃s∈bV j aj ps,s.It n=some v)/\¬bJ (bV j aj ps) n)/\(∀n,(∃s∈bV j aj ps,s.It n≠none)->¬bJ (bV j aj ps) n->It n≠none)/\Below w.heap.size w w5):=⟨hst,p1,p2,Hb0.out.1.trans (((HB.out.mono (Nat.le_refl _)).trans (hb5.mono hsw)).mono Hb0.out.1.size)⟩;have r0:=(hk5.cell 0).trans rfl;have r1:=(hk5.cell 1).trans rfl;have r2:=(hk5.cell 2).trans rfl;have f0:=hk5.frozen;clear hst p1 p2 hb5 hk5 Vo HJ;go_wp2_with fail;have hch:ay (λk=>k=w.heap.size) w5 (((w5.setCell ⟨w.heap.size,0,none⟩ (.map (some ib))).setCell ⟨w.heap.size,1,none⟩ (.map (some cb))).setCell ⟨w.heap.size,2,none⟩ (.map (some lb))):=(((ay.refl (λk=>k=w.heap.size) w5).setCell (p:=⟨w.heap.size,0,none⟩) rfl _).setCell (p:=⟨w.heap.size,1,none⟩) rfl _).setCell (p:=⟨w.heap.size,2,none⟩) rfl _;refine bodyPost_ret (v:=.tuple #[.agg #[.map (some ib),.map (some cb),.map (some lb)],.bool true]) (by simp[results,Tryz.results99,go_sem,r0,r1,r2,bQ,aK,World.cell?_setCell_other]) rfl ⟨?_,Or.inr ⟨by omega,ib,cb,lb,It,rfl,HF.out.1.aJ hch (by omega) (by omega) (by omega),HF.out.2.1,HF.out.2.2.1,by omega⟩⟩;exact((HF.out.2.2.2.setCell (p:=⟨w.heap.size,0,none⟩) (Nat.le_refl _) _).setCell (p:=⟨w.heap.size,1,none⟩) (Nat.le_refl _) _).setCell (p:=⟨w.heap.size,2,none⟩) (Nat.le_refl _) _
