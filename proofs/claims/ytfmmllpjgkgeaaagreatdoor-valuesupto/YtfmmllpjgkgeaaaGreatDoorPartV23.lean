import Derived.Test.YtfmmllpjgkgeaaaGreatDoorPartV16
import Derived.Test.YtfmmllpjgkgeaaaGreatDoorPartV17
import Derived.Test.YtfmmllpjgkgeaaaGreatDoorPartV22
set_option linter.unusedVariables false
set_option linter.unusedSimpArgs false
set_option maxHeartbeats 16000000
set_option maxRecDepth 100000
namespace Go.Proofs.YtfmmllpjgkgeaaaGreatDoor
open Go.RowKit Go.Maps Go.WideMaps Go.Shelf

theorem Since_any (w:World) (s o:StD) (h:s.At w) (ho:o.At w) :
  Calls Tryz.prog 151 #[.agg #[.map s.io,.map s.co,.map s.lo],.agg #[.map o.io,.map o.co,.map o.lo]] w fun e w'=>∃ ib cb lb,e=.returned (.agg #[.map (some ib),.map (some cb),.map (some lb)])/\StoreS w' ib cb lb (newS s o) (newI s o)/\(w.heap.size<=ib/\w.heap.size<=cb/\w.heap.size<=lb)/\Below w.heap.size w w' :=
 Since_of (fun w co lo c L h=>all_any w co lo c L h) w s o h ho

structure StoB (S:Nat->Prop) (C:Nat->Option Thk.Ch):Prop where
 ns:∀ ns:List Nat,ns.Nodup->(∀ d∈ns,1<=nth d/\S d)->ns.length<=505
 ok:∀ k,C k≠none->okD k/\S k
 ch:∀ k c,C k=some c->(c.act=43\/c.act=94\/c.act=61\/c.act=62)/\(-9223372036854775808<=c.n/\c.n<=9223372036854775807)/\c.path.length<=1048576/\(keptVal c.act ⟨c.val.toArray⟩).size<=1048576/\(txtC c).length<=1000
 rd:∀ k c,C k=some c->Thk.read (txtC c)=.inr c/\effB c.act=true
structure EncOf (S:Nat->Prop) (C:Nat->Option Thk.Ch) (rs:List (Nat × Nat)) (its:List (Nat × Thk.Bs)):Prop where
 r505:rs.length<=505
 ro:∀ x∈rs,okR x
 i505:its.length<=505
 io:∀ x∈its,(who x.1<=5/\1<=nth x.1/\nth x.1<=501)/\x.2.length<16384/\∃ c,Thk.read x.2=.inr c/\effB c.act=true
 it:itsC its its.length=itOf C
 dots:∀ d,1<=nth d->((itsC its its.length d≠none\/d∈flatR rs)↔S d)

theorem itsC_wIt {C:Nat->Option Thk.Ch} {xs:List Itm} (hx:SAll (itOf C) xs) (hr:∀ d c,C d=some c->Thk.read (txtC c)=.inr c):itsC (wIt C xs) (wIt C xs).length=itOf C:=by
 funext d
 unfold itsC
 rw[List.take_length]
 obtain ⟨⟨_,hmem⟩,_⟩:=hx
 cases hf:(wIt C xs).reverse.find? (fun x=>x.1 == d) with
 | none =>
  rw[List.find?_eq_none] at hf
  have:C d=none:=Classical.byContradiction fun hc=>by
   have h1:=(hmem d).2 (itOf_none.2 hc)
   obtain ⟨x,hx1,hx2⟩:=List.mem_map.1 h1
   refine hf (x.n,_) (List.mem_reverse.2 (List.mem_map.2 ⟨x,hx1,rfl⟩)) ?_
   simpa using hx2
  unfold itOf
  rw[this];(first | done | rfl)
 | some y =>
  have h1:=List.find?_some hf
  have h2:=List.mem_reverse.1 (List.mem_of_find?_eq_some hf)
  obtain ⟨x,hx1,rfl⟩:=List.mem_map.1 h2
  have hd:x.n=d:=by simpa using h1
  have hc:C d≠none:=itOf_none.1 ((hmem d).1 (List.mem_map.2 ⟨x,hx1,hd⟩))
  cases hcd:C d with
  | none=>exact absurd hcd hc
  | some c =>
   unfold itOf
   simp only[Option.bind_some,hd,hcd]
   rw[hr d c hcd]
   rfl

theorem enc_of {S:Nat->Prop} {C:Nat->Option Thk.Ch} (h:StoB S C) {c:Nat->Nat} {L:Nat->Bool} {ns:List Nat} {rs:List (Nat × Nat)} {xs:List Itm} (hS:∀ d,1<=nth d->(S d↔inK c L d))
  (h1:ns.Nodup) (h2:∀ d,d∈ns↔1<=nth d/\inK c L d) (h3:Runs ns ns.length rs) (h4:SAll (itOf C) xs) (hx:xs.length<=505):EncOf S C rs (wIt C xs):=by
 have hit:=itsC_wIt h4 (fun d c hc=>(h.rd d c hc).1)
 have hfl:flatR rs=ns:=by have:=h3.flat;rw[List.take_length] at this;exact this
 have hin:∀ d,d∈ns↔1<=nth d/\S d:=fun d=>by rw[h2];exact and_congr_right fun hd=>(hS d hd).symm
 have hnl:=h.ns ns h1 (fun d hd=>(hin d).1 hd)
 have hwl:(wIt C xs).length=xs.length:=by unfold wIt;simp
 refine ⟨Nat.le_trans h3.len hnl,fun r hr2=>?_,by omega,fun x hx=>?_,hit,fun d hd=>?_⟩
 ·obtain ⟨⟨o1,o2,o3⟩,o4,o5⟩:=h3.ok r hr2
  exact ⟨⟨o1,o2,o3⟩,o4,by omega,o5⟩
 ·obtain ⟨y,hy,rfl⟩:=List.mem_map.1 hx
  have hc:C y.n≠none:=itOf_none.1 ((h4.1.2 y.n).1 (List.mem_map.2 ⟨y,hy,rfl⟩))
  have ho:=(h.ok _ hc).1
  cases hcy:C y.n with
  | none=>exact absurd hcy hc
  | some c =>
   simp only[hcy]
   have:=(h.ch _ c hcy).2.2.2.2
   exact ⟨⟨ho.1,ho.2.1,ho.2.2⟩,by omega,c,h.rd _ c hcy⟩
 ·rw[hit,hfl,itOf_none,hin]
  constructor
  ·rintro (h6 | h6)
   ·exact (h.ok d h6).2
   ·exact h6.2
  ·intro h6
   exact Or.inr ⟨hd,h6⟩

theorem StoB.items {S:Nat->Prop} {C:Nat->Option Thk.Ch} (h:StoB S C) {w:World} {v:Value} {N:Nat} (hm:MapO Tryz.prog 134 w v N (im (itOf C))):N<=505:=by
 obtain ⟨ns,h1,h2,h3⟩:=im_count hm
 rw[<- h2]
 exact h.ns ns h1 (fun d hd=>by have:=h.ok d (itOf_none.1 ((h3 d).1 hd));exact ⟨this.1.2.1,this.2⟩)

structure StC (w:World) (io co lo:Option Nat) (S:Nat->Prop) (C:Nat->Option Thk.Ch):Prop where
 r:StoreR w (.map io) (.map co) (.map lo) S (itOf C)
 b:StoB S C
theorem written_any (w:World) (hG:Glob w) (io co lo:Option Nat) (S:Nat->Prop) (C:Nat->Option Thk.Ch) (h:StC w io co lo S C) :
  Calls Tryz.prog 123 #[.agg #[.map io,.map co,.map lo]] w fun e w'=>∃ s rs its,e=.returned (.string s)/\toL s=encS rs its/\EncOf S C rs its/\s.size<=700000/\Below w.heap.size w w':=by
 obtain ⟨c,L,hC,_,hS⟩:=h.r.ctx
 obtain ⟨N,hN⟩:=h.r.its
 have hN5:=h.b.items hN
 have hg3:=hG.size
 have HW:Hid (∀ ob,Calls Tryz.prog 165 #[.slice none 0 0,.agg #[.map io,.map co,.map lo]] (w.alloc ob) fun e w'=>∃ va n k s rs its,e=.returned (.slice va n k)/\(convert 93 9 (.slice va n k)).run Tryz.prog w'=.ok (.string s) w'/\(toL s=encS rs its/\EncOf S C rs its/\s.size<=700000/\Below w.heap.size w w')):=fun ob=>by
  have hb:Below w.heap.size w (w.alloc ob):=(Below.refl _ w).alloc (Nat.le_refl _) _
  refine Calls.mono (wStore_any (w.alloc ob) (hG.mono hb) w.heap.size hg3 (.slice none 0 0) [] (OutV.nil _ _) hb.size (by simp) io co lo c L C N (hC.below hb) (hN.below hb) (fun k hk=>(h.b.ok k hk).1) hN5 (fun ns h1 h2=>h.b.ns ns h1 (fun d hd=>by have:=(h2 d).1 hd;exact ⟨this.1,(hS d this.1).2 this.2⟩)) h.b.ch) ?_
  rintro e w' ⟨v',ns,rs,xs,rfl,h1,h2,h3,h4,h5,h6⟩
  obtain ⟨va,n,k,rfl⟩:=h5.shape
  have hxN:=all_len hN h4
  have hen:=enc_of h.b hS h1 h2 h3 h4 (by omega)
  rw[List.nil_append] at h5
  refine ⟨va,n,k,_,rs,wIt C xs,rfl,conv_out h5 (by unfold encS;rw[List.append_assoc,List.append_assoc];exact encN_ne _ _),by rw[toL_nums],hen, ?_,hb.trans (h6.below hb.size)⟩
  rw[<- toL_length,toL_nums]
  have:=encS_small (C:=C) (rs:=rs) (xs:=xs) [] (by simp) hen.r505 (by omega) (fun k c hk=>(h.b.ch k c hk).2.2.2.2)
  rw[List.nil_append] at this
  omega
 clear hG hC hN h hS
 go_enter Tryz.func123,Tryz.ntmps123
 go_wp2_with fail
 refine Calls.mono (HW.out _) ?_
 rintro e w2 ⟨va,n,k,s,rs,its,rfl,hcv,hX⟩
 have HX:Hid (toL s=encS rs its/\EncOf S C rs its/\s.size<=700000/\Below w.heap.size w w2):=hX
 clear hX
 go_wp2_with fail
 go_ret
 exact ⟨s,rs,its,rfl,HX.out⟩

structure RD where
 rb:Nat
 a:Nat
 io:Option Nat
 co:Option Nat
 lo:Option Nat
 kb:Nat
 db:Nat
 room:Nat
 pv:Value
 dr:Nat
 ab:Nat
 nb:List Nat
 A:Nat->Nat
 ps:List PcD
 K:Nat->Nat
 C:Nat->Option Thk.Ch
 n:Nat
 cut:Bool
 k:Int
def fst (K:Nat->Nat) (d:Nat):Prop:=nth d<=K (who d)
def RD.known (r:RD):StD:=⟨r.io,r.co,r.lo,fst r.K,itOf r.C⟩
structure RepF (w:World) (r:RD):Prop where
 blk:Blk w r.rb #[.int .i64 (r.a:Int),.map r.io,.map r.co,.map r.lo,.pointer (some ⟨r.kb,0,none⟩),.pointer (some ⟨r.db,0,none⟩),.bool false] 125
 st:StC w r.io r.co r.lo (fst r.K) r.C
 kept:KeptP w r.kb r.room r.pv r.dr r.ab r.nb r.A r.ps
 dsk:∃ rs its,DiskS w r.db r.n (encS rs its) r.cut r.k/\EncOf (fst r.K) r.C rs its
 apart:¬(r.io=some r.ab\/r.co=some r.ab\/r.lo=some r.ab)
 k500:∀ x,r.K x<=500
 a5:r.a<=5
 n:r.n<=sizeK r.K
def RD.own (r:RD) (k:Nat):Prop:=k=r.rb\/(r.io=some k\/r.co=some k\/r.lo=some k)\/keptOwn r.kb r.pv r.ab r.ps k\/k=r.db
theorem RepF.chg {M:Nat->Prop} {w w':World} {r:RD} (h:RepF w r) (hc:Chg M w w') (hm:∀ k,r.own k->¬M k):RepF w' r:=by
 obtain ⟨rs,its,h1,h2⟩:=h.dsk
 exact ⟨h.blk.chg hc (hm _ (Or.inl rfl)),⟨h.st.r.chg hc (fun b hb=>hm b (Or.inr (Or.inl (by rcases hb with h | h | h <;> simp only[Value.map.injEq] at h <;> simp[h])))),h.st.b⟩,h.kept.chg hc (fun k hk=>hm k (Or.inr (Or.inr (Or.inl hk)))),⟨rs,its,h1.chg hc (hm _ (Or.inr (Or.inr (Or.inr rfl)))),h2⟩,h.apart,h.k500,h.a5,h.n⟩
theorem RepF.below {w w':World} {r:RD} (h:RepF w r) (hb:Below w.heap.size w w'):RepF w' r:=h.chg (M:=fun _=>False) (Chg.of_below hb) (fun _ _ h=>h)
theorem DiskS.blk {w:World} {db n:Nat} {t:Thk.Bs} {c:Bool} {k:Int} (h:DiskS w db n t c k):∃ cs,Blk w db cs 229:=by obtain ⟨sl,O,a,_⟩:=h;exact ⟨_,a⟩
theorem RepF.lt {w:World} {r:RD} (h:RepF w r) {k:Nat} (hk:r.own k):k<w.heap.size:=by
 rcases hk with rfl | hk | hk | rfl
 ·exact h.blk.lt
 ·exact h.st.r.lt k (by rcases hk with h | h | h <;> simp[h])
 ·exact h.kept.lt hk
 ·obtain ⟨rs,its,h1,_⟩:=h.dsk
  obtain ⟨cs,hcs⟩:=h1.blk
  exact hcs.lt
theorem RepF.at {w:World} {r:RD} (h:RepF w r):r.known.At w:=⟨h.st.r,fun n x hx=>itOf_item hx⟩
theorem RepF.rep {w:World} {r:RD} (h:RepF w r):RepP w r.rb r.a r.io r.co r.lo r.K r.C:=⟨⟨_,_,_,h.blk⟩,h.st.r,fun k c hc=>(h.st.b.ch k c hc).2.2.1,h.k500,h.a5⟩

theorem wpList_append_full {P:Program} (w:World) {ops:Array Oper} {rest:List Oper} {o:Oper} {a:Act} {Q:Exit->Act->World->Prop}
  (hg:o.guard=none) (s x:Operand) (t:TypeId) (hop:o.op=Op.call { callee:=Callee.builtin Builtin.append,args:=#[s,x],argTypes:=#[t,t] })
  (e:TypeId) (i:TypeInfo) (z:Value) (size bytes:Nat) (h1:P.underlying t=some (.slice e)) (h2:P.info? e=some i) (h3:i.zero=some z) (h4:i.size=size) (h5:i.bytes=bytes) (h6:z.cells.size=size) (h7:0<size)
  (b n:Nat) (olds:List Value) (hs:a.eval s=.slice (some ⟨b,0,none⟩) n n) (hlo:olds.length=n*size) (holds:∀ j u,olds[j]? = some u->w.cell? ((⟨b,0,none⟩:Addr).add j)=some u)
  (ad:Addr) (m c:Nat) (news:List Value) (hx:a.eval x=.slice (some ad) m c) (hn:news.length=m*size) (hc:∀ j u,news[j]? = some u->w.cell? (ad.add j)=some u) (hm:0<m)
  (b1:n+m<=maxLen) (b2:(n+m)*bytes<=140737488355328)
  (hgrow:∀ v' w',w'.ownsRow w.heap.size e size v' (n+m) (olds ++ news)->w.grownBy w' none->wpList P ops Q rest (a.put o.dst v') w') :
  wpList P ops Q (o :: rest) a w:=by
 refine wpList_plain hg fun K hK'=>?_
 obtain ⟨v',w',hrun,ho,hgr⟩:=run_append_arg_grows (P:=P) w t o.type e i z size bytes h1 h2 h3 h4 h5 h6 h7 ⟨b,0,none⟩ n n olds hlo holds ad m c news hn hc (by omega) b1 b2
 unfold Oper.wp
 simp[execOp,hop,resolve,invoke,builtin,hs,hx,hrun,Result.andThen]
 exact hK' _ _ (hgrow v' w' ho hgr)

def JoinTo (sts:List StD) (K:Nat->Nat) (C:Nat->Option Thk.Ch):Prop :=
 (∀ It:Nat->Option Value,(∀ n,It n≠none->okD n)->(∀ n v,It n=some v->(∃ s∈sts,s.It n=some v)/\¬goneAt sts n)->(∀ n,(∃ s∈sts,s.It n≠none)->¬goneAt sts n->It n≠none)->It=itOf C) /\
 ∀ d,1<=nth d->((∃ s∈sts,s.S d)↔fst K d)
def newD (r:RD) (K:Nat->Nat) (C:Nat->Option Thk.Ch) (d:Nat):Prop:=fst K d/\¬(fst r.K d/\(C d=none↔r.C d=none))
open Classical in
noncomputable def newC (r:RD) (K:Nat->Nat) (C:Nat->Option Thk.Ch) (d:Nat):Option Thk.Ch:=if newD r K C d then C d else none
theorem itOf_isNone {C:Nat->Option Thk.Ch} {d:Nat} : itOf C d=none↔C d=none:=by unfold itOf;cases C d <;> simp
theorem new_eq (r:RD) (K:Nat->Nat) (C:Nat->Option Thk.Ch) (s:StD) (hS:s.S=fst K) (hI:s.It=itOf C):newS s r.known=newD r K C/\newI s r.known=itOf (newC r K C):=by
 have h1:newS s r.known=newD r K C:=by
  funext d
  unfold newS newD
  rw[hS,hI]
  show (fst K d/\¬(fst r.K d/\(itOf C d=none↔itOf r.C d=none)))=_
  rw[itOf_isNone,itOf_isNone]
 refine ⟨h1, ?_⟩
 funext d
 unfold newI newC
 rw[h1,hI]
 by_cases h:newD r K C d
 ·rw[if_pos h];unfold itOf;dsimp only;rw[if_pos h]
 ·rw[if_neg h];unfold itOf;dsimp only;rw[if_neg h];(first | done | rfl)
end Go.Proofs.YtfmmllpjgkgeaaaGreatDoor

