import Derived.Deep.RegionLaw
import Derived.Test.YtfmmllpjgkgeaaaGreatDoorPartV11
set_option linter.unusedVariables false
set_option linter.unusedSimpArgs false
set_option maxHeartbeats 16000000
set_option maxRecDepth 100000
namespace Go.Proofs.YtfmmllpjgkgeaaaGreatDoor
open Go.RowKit Go.Maps Go.WideMaps

theorem setCells_row (g:Nat):∀ (vs:List Value) (o:Nat) (w:World) (cur:Array Value) (e:TypeId),w.heap[g]? = some (.cells cur e (0,0))->o+vs.length<=cur.size ->
  ∃ cur',(w.setCells g o vs).heap[g]? = some (.cells cur' e (0,0))/\cur'.size=cur.size/\∀ j,cur'[j]? = if o<=j/\j<o+vs.length then vs[j-o]? else cur[j]?
 | [],o,w,cur,e,h,_=>⟨cur,h,rfl,fun j=>by rw[if_neg (by simp only[List.length_nil];omega)]⟩
 | v :: r,o,w,cur,e,h,hl=>by
  simp only[List.length_cons] at hl
  have h1:(w.setCell ⟨g,o,none⟩ v).heap[g]? = some (.cells (cur.setIfInBounds o v) e (0,0)):=by
   simp[World.setCell,Array.getElem?_modify,h]
  obtain ⟨cur',h2,h3,h4⟩:=setCells_row g r (o+1) _ _ e h1 (by simp;omega)
  refine ⟨cur',h2,by rw[h3];simp,fun j=>?_⟩
  rw[h4 j,List.length_cons]
  by_cases hj:o+1<=j/\j<o+1+r.length
  ·rw[if_pos hj,if_pos (by omega),show j-o=(j-(o+1))+1 by omega,List.getElem?_cons_succ]
  ·rw[if_neg hj]
   by_cases e2:j=o
   ·subst e2
    have hj2:j<cur.size:=by omega
    rw[if_pos (by omega),Nat.sub_self]
    simp[hj2]
   ·rw[if_neg (by omega),Array.getElem?_setIfInBounds,if_neg (by omega)]
theorem setCells_chg (g:Nat):∀ (vs:List Value) (o:Nat) (w:World),Chg (fun k=>k=g) w (w.setCells g o vs)/\(w.setCells g o vs).heap.size=w.heap.size
 | [],o,w=>⟨Chg.refl _ _,rfl⟩
 | v :: r,o,w=>by
  have h:=setCells_chg g r (o+1) (w.setCell ⟨g,o,none⟩ v)
  exact ⟨((Chg.refl (fun k=>k=g) w).setCell (p:=⟨g,o,none⟩) rfl v).trans h.1,h.2.trans (by simp)⟩
theorem run_clear_one {P:Program} (w:World) (t e ty:TypeId) (z:Value) (ht:P.underlying t=some (.slice e)) (hv:∀ w,(zeroValue e).run P w=.ok z w) (cells:List Value) (hz:(Builtin.zeroCells z.cells 1).toList=cells) (h1:∀ u∈cells,u.oneCell'=true) (b o c:Nat)
  (hc:∀ j,j<cells.length->(w.cell? ⟨b,o+j,none⟩).isSome=true) (hf:∀ j,j<cells.length->w.frozen? ⟨b,o+j,none⟩=false) :
  (Builtin.clear_ #[t] ty #[.slice (some ⟨b,o,none⟩) 1 c]).run P w=.ok (.tuple #[]) (w.setCells b o cells):=by
 have hst:=run_storeCells_cells (P:=P) b o cells 0 w (by simpa using hc) (by simpa using hf) h1
 simp only[Nat.add_zero] at hst
 simp[Builtin.clear_,run_underlying ht,hv,hz,hst]

structure PcD where
 mark:Nat
 fr:Nat
 st:StD
def PcD.cells (p:PcD):List Value:=[.int .i64 (p.mark:Int),.int .i64 (p.fr:Int),.map p.st.io,.map p.st.co,.map p.st.lo]
def pcells (ps:List PcD):List Value:=ps.flatMap PcD.cells
theorem pcells_cons (p:PcD) (ps:List PcD):pcells (p :: ps)=p.cells ++ pcells ps:=rfl
theorem pcells_snoc (ps:List PcD) (p:PcD):pcells (ps ++ [p])=pcells ps ++ p.cells:=by simp[pcells]
theorem pcells_len (ps:List PcD):(pcells ps).length=ps.length*5:=by
 induction ps with
 | nil=>rfl
 | cons p r ih=>rw[pcells_cons,List.length_append,ih];simp[PcD.cells];omega
theorem pcells_one (ps:List PcD):∀ u∈pcells ps,u.oneCell'=true:=by
 intro u hu
 obtain ⟨x,_,hx⟩:=List.mem_flatMap.1 hu
 simp[PcD.cells] at hx
 rcases hx with rfl | rfl | rfl | rfl | rfl <;> rfl
theorem pcells_at (ps:List PcD):∀ (i:Nat) (h:i<ps.length),(pcells ps)[i*5]? = some (.int .i64 (ps[i].mark:Int))/\(pcells ps)[i*5+1]? = some (.int .i64 (ps[i].fr:Int))/\(pcells ps)[i*5+2]? = some (.map ps[i].st.io)/\(pcells ps)[i*5+3]? = some (.map ps[i].st.co)/\(pcells ps)[i*5+4]? = some (.map ps[i].st.lo):=by
 induction ps with
 | nil=>intro i h;simp at h
 | cons p r ih =>
  intro i h
  rw[pcells_cons]
  cases i with
  | zero=>simp[PcD.cells]
  | succ i =>
   have hl:p.cells.length=5:=rfl
   have e:∀ k,(p.cells ++ pcells r)[(i+1)*5+k]? = (pcells r)[i*5+k]?:=fun k=>by
    rw[List.getElem?_append_right (by omega),hl];congr 1;omega
   have:=ih i (by simpa using h)
   have e0:=e 0
   rw[Nat.add_zero,Nat.add_zero] at e0
   rw[e0,e 1,e 2,e 3,e 4]
   simpa using this

theorem Tryz.infoPc:(Tryz.prog.info? 222).map (fun i=>(i.zero,i.size,i.bytes))=some (some (.agg #[.int .i64 0,.int .i64 0,.map none,.map none,.map none]),5,40):=by kernel_rfl
theorem zPc (w:World):(zeroValue 222).run Tryz.prog w=.ok (.agg #[.int .i64 0,.int .i64 0,.map none,.map none,.map none]) w:=by kernel_rfl

theorem row_del {w W1:World} {base g cap:Nat} {p:PcD} {ps:List PcD} {z5:List Value} (hz:z5.length=5) (h:w.ownsRow base 222 5 (.slice (some ⟨g,0,none⟩) (ps.length+1) cap) (ps.length+1) (pcells (p :: ps))) (hW:W1=w.drew.setCells g 0 (pcells ps)) :
  (W1.setCells g (ps.length*5) z5).ownsRow base 222 5 (.slice (some ⟨g,0,none⟩) ps.length cap) ps.length (pcells ps)/\Chg (fun k=>k=g) w (W1.setCells g (ps.length*5) z5)/\(W1.setCells g (ps.length*5) z5).heap.size=w.heap.size /\
  (∀ j,j<5->(W1.cell? ⟨g,ps.length*5+j,none⟩).isSome=true)/\(∀ j,W1.frozen? ⟨g,j,none⟩=false):=by
 obtain ⟨hl,⟨h1,_⟩ | ⟨g',cap',cur,h1,h2,h3,h4,h5,h6,h7⟩⟩:=h
 ·cases h1
 ·simp only[Value.slice.injEq,Option.some.injEq,Addr.mk.injEq,and_true,true_and] at h1
  obtain ⟨rfl,rfl⟩:=h1
  have hw:w.drew.heap[g]? = some (.cells cur 222 (0,0)):=h3
  obtain ⟨c1,a1,a2,a3⟩:=setCells_row g (pcells ps) 0 w.drew cur _ hw (by rw[pcells_len];omega)
  rw[<- hW] at a1
  obtain ⟨c2,b1,b2,b3⟩:=setCells_row g z5 (ps.length*5) W1 c1 _ a1 (by omega)
  have hc1:=setCells_chg g (pcells ps) 0 w.drew
  have hc2:=setCells_chg g z5 (ps.length*5) W1
  rw[<- hW] at hc1
  refine ⟨⟨pcells_len _,Or.inr ⟨g,cap,c2,rfl,h2,b1,by omega,h5,by omega, ?_⟩⟩, ?_,by rw[hc2.2,hc1.2];rfl,fun j hj=>?_,fun j=>?_⟩
  ·refine List.ext_getElem? fun j=>?_
   rw[List.getElem?_take]
   by_cases hj:j<ps.length*5
   ·rw[if_pos hj,Array.getElem?_toList,b3,if_neg (by omega),a3,if_pos (by rw[pcells_len];omega),Nat.sub_zero]
   ·rw[if_neg hj,List.getElem?_eq_none (by rw[pcells_len];omega)]
  ·have:Chg (fun k=>k=g) w w.drew:=Chg.of_below (Below.refl _ w).drew
   exact (this.trans hc1.1).trans hc2.1
  ·have:ps.length*5+j<c1.size:=by omega
   simp[World.cell?,a1,this]
  ·simp[World.frozen?,a1]

theorem Delete_any (w:World) (base g cap:Nat) (p:PcD) (ps:List PcD) (h:w.ownsRow base 222 5 (.slice (some ⟨g,0,none⟩) (ps.length+1) cap) (ps.length+1) (pcells (p :: ps))) (hl:ps.length<=1000) :
  Calls Tryz.prog 227 #[.slice (some ⟨g,0,none⟩) ((ps.length+1:Nat)) cap,.int .i64 0,.int .i64 1] w fun e w'=>e=.returned (.slice (some ⟨g,0,none⟩) ps.length cap)/\w'.ownsRow base 222 5 (.slice (some ⟨g,0,none⟩) ps.length cap) ps.length (pcells ps)/\Chg (fun k=>k=g) w w'/\w'.heap.size=w.heap.size:=by
 obtain ⟨i0,hi,hz0,hz1,hz2⟩:=info_parts Tryz.infoPc
 obtain ⟨W1,hW1⟩:∃ W1,W1=w.drew.setCells g 0 (pcells ps):=⟨_,rfl⟩
 have hd:=row_del (z5:=[.int .i64 0,.int .i64 0,.map none,.map none,.map none]) rfl h hW1
 have hcap:ps.length+1<=cap/\cap<=9223372036854775807:=by
  obtain ⟨_,⟨h1,_⟩ | ⟨g',cap',cur,h1,h2,h3,h4,h5,h6,h7⟩⟩:=h
  ·cases h1
  ·simp only[Value.slice.injEq] at h1
   obtain ⟨_,_,rfl⟩:=h1
   unfold maxLen at h5
   omega
 have hsrc0:∀ j u,(pcells ps)[j]? = some u->w.drew.cell? ⟨g,5+j,none⟩=some u:=fun j u hj=>by
  have:=h.cells (g:=g) rfl (5+j) u (by rw[pcells_cons,List.getElem?_append_right (by simp[PcD.cells])];simpa[PcD.cells] using hj)
  rw[Addr.add_lit,Nat.zero_add] at this
  exact this
 obtain ⟨A,hA,hsrc⟩:∃ A:Addr,(if cap=1 then some (⟨g,0,none⟩:Addr) else some ⟨g,5,none⟩)=some A/\Hid (∀ t u,(pcells ps)[t]? = some u->w.drew.cell? (A.add t)=some u):=by
  by_cases hc:cap=1
  ·refine ⟨⟨g,0,none⟩,by simp[hc],fun t u hu=>?_⟩
   have:ps=[]:=List.length_eq_zero_iff.1 (by omega)
   subst this
   simp[pcells] at hu
  ·exact ⟨⟨g,5,none⟩,by simp[hc],fun t u hu=>by rw[Addr.add_lit];exact hsrc0 t u hu⟩
 have s1:Hid ((pcells ps).length=ps.length*5):=pcells_len ps
 have s2:Hid (∀ u∈pcells ps,u.oneCell'=true):=pcells_one ps
 have s3:Hid (∀ t,t<(pcells ps).length->(w.drew.cell? ⟨g,0+0*5+t,none⟩).isSome=true/\w.drew.frozen? ⟨g,0+0*5+t,none⟩=false):=fun t ht=>by
  obtain ⟨_,⟨h1,_⟩ | ⟨g',cap',cur,h1,h2,h3,h4,h5,h6,h7⟩⟩:=h
  ·cases h1
  ·simp only[Value.slice.injEq,Option.some.injEq,Addr.mk.injEq,and_true,true_and] at h1
   obtain ⟨rfl,rfl⟩:=h1
   rw[s1.out] at ht
   have:t<cur.size:=by omega
   refine ⟨?_, ?_⟩
   ·show (w.cell? _).isSome=true
    simp[World.cell?,h3,this]
   ·show w.frozen? _=false
    simp[World.frozen?,h3]
 have hcl:∀ ty c,(Builtin.clear_ #[218] ty #[.slice (some ⟨g,ps.length*5,none⟩) 1 c]).run Tryz.prog W1=.ok (.tuple #[]) (W1.setCells g (ps.length*5) [.int .i64 0,.int .i64 0,.map none,.map none,.map none]) :=
  fun ty c=>run_clear_one W1 _ _ ty _ Tryz.underlying218 zPc _ (by kernel_rfl) (by simp[Value.oneCell']) g (ps.length*5) c hd.2.2.2.1 (fun j _=>hd.2.2.2.2 _)
 have HD:Hid (_):=hd
 have hW:Hid (W1=w.drew.setCells g (0+0*5) (pcells ps)):=by unfold Hid;simpa using hW1
 have hc1:(1:Nat)<=cap:=by omega
 have hl1:ps.length<=cap:=by omega
 have h1i:(1:Int)<=(ps.length:Int)+1:=by omega
 clear hW1 hd h hsrc0
 go_enter Tryz.func227,Tryz.ntmps227
 go_wp2_with fail
 go_region_law (refine step_append_room rfl (.tmp 22) (.tmp 25) 218 rfl 222 i0 5 Tryz.underlying218 hi hz1 g 0 0 cap (by simp[Act.eval,Act.put]) A ps.length (cap-1) (pcells ps) (by simp[Act.eval,Act.put]) s1.out hsrc.out s2.out (by omega) s3.out ?_;rw[<- hW.out])
 go_wp2
 go_ret
 exact ⟨rfl,HD.out.1,HD.out.2.1,HD.out.2.2.1⟩

noncomputable def am (nb:List Nat) (A:Nat->Nat):Value->Option Value:=fun key=>@dite _ (∃ a:Nat,key=.int .i64 (a:Int)) (Classical.propDecidable _) (fun h=>if Classical.choose h∈nb then some (.int .i64 (A (Classical.choose h):Int)) else none) (fun _=>none)
theorem am_at (nb:List Nat) (A:Nat->Nat) (a:Nat):am nb A (.int .i64 (a:Int))=if a∈nb then some (.int .i64 (A a:Int)) else none:=by
 unfold am
 have h:∃ b:Nat,Value.int .i64 (a:Int)=.int .i64 (b:Int):=⟨a,rfl⟩
 rw[dif_pos h]
 have e:Classical.choose h=a:=by
  have hs:=Classical.choose_spec h
  generalize Classical.choose h=b at *
  simp at hs
  omega
 rw[e]
theorem am_ext {nb:List Nat} {A:Nat->Nat} {m:Value->Option Value} (h1:∀ a:Nat,m (.int .i64 (a:Int))=if a∈nb then some (.int .i64 (A a:Int)) else none) (h2:∀ key,(∀ a:Nat,key≠.int .i64 (a:Int))->m key=none):m=am nb A:=by
 funext key
 by_cases hk:∃ a:Nat,key=.int .i64 (a:Int)
 ·obtain ⟨a,rfl⟩:=hk
  rw[am_at,h1]
 ·rw[h2 key (fun a e=>hk ⟨a,e⟩)]
  unfold am
  rw[dif_neg hk]
theorem am_upd (nb:List Nat) (A:Nat->Nat) (a m:Nat):upd (am nb A) (.int .i64 (a:Int)) (.int .i64 (m:Int))=am (if a∈nb then nb else nb ++ [a]) (fun x=>if x=a then m else A x):=by
 refine am_ext (fun x=>?_) (fun key hk=>?_)
 ·by_cases e:x=a
  ·subst e
   rw[upd_same,if_pos rfl,if_pos]
   by_cases h:x∈nb
   ·rw[if_pos h];exact h
   ·rw[if_neg h];simp
  ·have:¬(Value.int IntKind.i64 (x:Int)=.int .i64 (a:Int)):=fun h=>e (by simp at h;omega)
   rw[upd_other this,am_at,if_neg e]
   by_cases h:a∈nb
   ·rw[if_pos h]
   ·rw[if_neg h]
    by_cases hx:x∈nb
    ·rw[if_pos hx,if_pos (List.mem_append.2 (Or.inl hx))]
    ·rw[if_neg hx,if_neg (fun h=>by rcases List.mem_append.1 h with h | h;exact hx h;exact e (by simpa using h))]
 ·rw[upd_other (hk a)]
  unfold am
  rw[dif_neg (fun ⟨b,hb⟩=>hk b hb)]
theorem am_nil (A:Nat->Nat):am [] A=fun _=>none:=(am_ext (fun a=>by simp) (fun _ _=>rfl)).symm

def StD.own (s:StD) (k:Nat):Prop:=s.io=some k\/s.co=some k\/s.lo=some k
theorem StD.At.chg' {M:Nat->Prop} {w w':World} {s:StD} (h:s.At w) (hc:Chg M w w') (hm:∀ k,s.own k->¬M k):s.At w' :=
 h.chg hc (fun b hb=>hm b (by rcases hb with h | h | h <;> simp only[Value.map.injEq] at h <;> simp[StD.own,h]))
theorem StD.At.lt {w:World} {s:StD} (h:s.At w) {k:Nat} (hk:s.own k):k<w.heap.size:=h.r.lt k (by rcases hk with h | h | h <;> rw[h] <;> simp)

structure KeptP (w:World) (kb room:Nat) (pv:Value) (dr ab:Nat) (nb:List Nat) (A:Nat->Nat) (ps:List PcD):Prop where
 blk:Blk w kb #[.int .i64 (room:Int),pv,.int .i64 (dr:Int),.map (some ab)] 220
 row:w.ownsRow 0 222 5 pv ps.length (pcells ps)
 ack:∃ N,MapV Tryz.prog 3 w ab N (am nb A)
 st:∀ p∈ps,p.st.At w
 r50:room<=50
 len:ps.length<=room
 bnd:(∀ p∈ps,p.mark<=100000/\p.fr<=5)/\dr<=100000/\∀ j,A j<=100000
 nb5:∀ j∈nb,j<=5
 apart:∀ p∈ps,¬p.st.own ab
def keptOwn (kb:Nat) (pv:Value) (ab:Nat) (ps:List PcD) (k:Nat):Prop:=k=kb\/pv.ownBlock=some k\/k=ab\/∃ p∈ps,p.st.own k

theorem own_chg {M:Nat->Prop} {w w':World} {B:Nat} {e:TypeId} {v:Value} {n size:Nat} {xs:List Value} (h:w.ownsRow B e size v n xs) (hc:Chg M w w') (hm:∀ k,v.ownBlock=some k->¬M k):w'.ownsRow B e size v n xs:=by
 obtain ⟨h1,h2 | ⟨g,cap,cur,a1,a2,a3,a4⟩⟩:=h
 ·exact ⟨h1,Or.inl h2⟩
 ·refine ⟨h1,Or.inr ⟨g,cap,cur,a1,a2, ?_,a4⟩⟩
  rw[hc.block g (by have:=Array.getElem?_eq_some_iff.1 a3;exact this.1) (hm g (by rw[a1];rfl))]
  exact a3
section
variable {w w':World} {kb room:Nat} {pv:Value} {dr ab:Nat} {nb:List Nat} {A:Nat->Nat} {ps:List PcD}
theorem KeptP.chg {M:Nat->Prop} (h:KeptP w kb room pv dr ab nb A ps) (hc:Chg M w w') (hm:∀ k,keptOwn kb pv ab ps k->¬M k):KeptP w' kb room pv dr ab nb A ps :=
 ⟨h.blk.chg hc (hm kb (Or.inl rfl)),own_chg h.row hc (fun k hk=>hm k (Or.inr (Or.inl hk))),h.ack.imp fun N g=>g.block (hc.block _ g.lt (hm ab (Or.inr (Or.inr (Or.inl rfl))))),fun p hp=>(h.st p hp).chg' hc (fun k hk=>hm k (Or.inr (Or.inr (Or.inr ⟨p,hp,hk⟩)))),h.r50,h.len,h.bnd,h.nb5,h.apart⟩
theorem KeptP.below (h:KeptP w kb room pv dr ab nb A ps) (hb:Below w.heap.size w w'):KeptP w' kb room pv dr ab nb A ps:=h.chg (M:=fun _=>False) (Chg.of_below hb) (fun _ _ h=>h)
theorem KeptP.lt (h:KeptP w kb room pv dr ab nb A ps) {k:Nat} (hk:keptOwn kb pv ab ps k):k<w.heap.size:=by
 rcases hk with rfl | hk | rfl | ⟨p,hp,hk⟩
 ·exact h.blk.lt
 ·exact (h.row.lt k hk).2
 ·obtain ⟨N,g⟩:=h.ack;exact g.lt
 ·exact (h.st p hp).lt hk
theorem KeptP.ne (h:KeptP w kb room pv dr ab nb A ps):kb≠ab/\pv.ownBlock≠some kb/\pv.ownBlock≠some ab:=by
 obtain ⟨N,g⟩:=h.ack
 refine ⟨fun e=>?_,ownsRow_ne h.row (fun cur fz e=>?_),ownsRow_ne h.row (fun cur fz e=>g.noTag e)⟩
 ·subst e;exact g.noTag (show w.heap[kb]? = _ from h.blk)
 ·have:=h.blk
  unfold Blk at this
  rw[this] at e
  cases e
theorem KeptP.shape (h:KeptP w kb room pv dr ab nb A ps):∃ ao cap,pv=.slice ao ps.length cap:=by
 rcases h.row.2 with ⟨h1,h2⟩ | ⟨g,cap,cur,h1,_⟩
 ·exact ⟨none,0,by rw[h1,h2]⟩
 ·exact ⟨_,cap,h1⟩
theorem StD.At.noCells {s:StD} (h:s.At w) {k:Nat} (hk:s.own k) {cs:Array Value} {t:TypeId} {fz:Nat × Nat} : w.heap[k]?≠some (.cells cs t fz):=by
 obtain ⟨⟨c,L,⟨⟨N1,h1⟩,⟨N2,h2⟩,_⟩,_⟩,⟨N3,h3⟩,_⟩:=h.r
 have key:∀ {P:Program} {kt:TypeId} {v:Option Nat} {N:Nat} {m:Value->Option Value},MapO P kt w (.map v) N m->v=some k->w.heap[k]?≠some (.cells cs t fz):=fun {P kt v N m} hm hv=>by
  subst hv
  rcases hm with ⟨h,_⟩ | ⟨b,h,g⟩
  ·cases h
  ·cases h;exact g.noTag
 rcases hk with hk | hk | hk
 ·exact key h3 hk
 ·exact key h1 hk
 ·exact key h2 hk

end

theorem dropOldest_any (w:World) (kb room:Nat) (pv:Value) (dr ab:Nat) (nb:List Nat) (A:Nat->Nat) (p:PcD) (ps:List PcD) (hblk:Blk w kb #[.int .i64 (room:Int),pv,.int .i64 (dr:Int),.map (some ab)] 220) (hrow:w.ownsRow 0 222 5 pv (ps.length+1) (pcells (p :: ps))) (hl:ps.length<=1000) (hm:p.mark<=100000) :
  Calls Tryz.prog 171 #[.pointer (some ⟨kb,0,none⟩)] w fun e w'=>e=.returned (.tuple #[])/\∃ pv',Blk w' kb #[.int .i64 (room:Int),pv',.int .i64 (p.mark:Int),.map (some ab)] 220/\w'.ownsRow 0 222 5 pv' ps.length (pcells ps)/\pv'.ownBlock=pv.ownBlock/\Chg (fun k=>k=kb\/pv.ownBlock=some k) w w'/\w'.heap.size=w.heap.size:=by
 obtain ⟨g,cap,hpv⟩:=own_some hrow (by omega)
 subst hpv
 have hne:g≠kb:=fun e=>by
  subst e
  refine ownsRow_ne hrow (k:=g) (fun cur fz e=>?_) rfl
  have h2:=hblk
  unfold Blk at h2
  rw[h2] at e
  cases e
 have hc:=(pcells_at (p :: ps) 0 (by simp)).1
 have m0:=hrow.cells (g:=g) rfl 0 _ (by simpa using hc)
 rw[Addr.add_lit] at m0
 simp only[Nat.zero_add,List.getElem_cons_zero] at m0
 have q1:=(hblk.cell 1).trans rfl
 have q2:=(hblk.cell 2).trans rfl
 have qf:=hblk.frozen
 have hkl:=hblk.lt
 have hi:(0:Int)<(ps.length:Int)+1:=by omega
 have Hd:Hid (∀ wx,wx=w.setCell ⟨kb,2,none⟩ (.int .i64 (p.mark:Int))->Blk wx kb #[.int .i64 (room:Int),.slice (some ⟨g,0,none⟩) (ps.length+1) cap,.int .i64 (p.mark:Int),.map (some ab)] 220/\Calls Tryz.prog 227 #[.slice (some ⟨g,0,none⟩) (ps.length+1) cap,.int .i64 0,.int .i64 1] wx fun e w'=>e=.returned (.slice (some ⟨g,0,none⟩) ps.length cap)/\w'.ownsRow 0 222 5 (.slice (some ⟨g,0,none⟩) ps.length cap) ps.length (pcells ps)/\Chg (fun k=>k=g) wx w'/\w'.heap.size=wx.heap.size):=fun wx hx=>by
  have hch:Chg (fun k=>k=kb) w wx:=by rw[hx];exact (Chg.refl (fun k=>k=kb) w).setCell (p:=⟨kb,2,none⟩) rfl _
  refine ⟨?_,Delete_any wx 0 g cap p ps (own_chg hrow hch (fun k hk e=>by cases hk;exact hne e)) hl⟩
  rw[hx]
  have:=hblk
  unfold Blk at this ⊢
  simp[World.setCell,Array.getElem?_modify,this]
 have Hch0:Hid (Chg (fun k=>k=kb\/k=g) w (w.setCell ⟨kb,2,none⟩ (.int .i64 (p.mark:Int)))):=(Chg.refl (fun k=>k=kb\/k=g) w).setCell (p:=⟨kb,2,none⟩) (Or.inl rfl) _
 have hsz:(w.setCell ⟨kb,2,none⟩ (.int .i64 (p.mark:Int))).heap.size=w.heap.size:=by simp
 clear hrow hblk hc
 go_enter Tryz.func171,Tryz.ntmps171
 go_wp2_with fail
 obtain ⟨kx,hdc⟩:=Hd.out _ rfl
 generalize w.setCell ⟨kb,2,none⟩ (.int .i64 (p.mark:Int))=wx at *
 refine Calls.mono hdc ?_
 rintro e w2 ⟨rfl,hrow2,hch2,hs2⟩
 have k2:=kx.chg hch2 hne.symm
 have r1:=(k2.cell 1).trans rfl
 have f2:=k2.frozen
 have Hrow2:Hid (w2.ownsRow 0 222 5 (.slice (some ⟨g,0,none⟩) ps.length cap) ps.length (pcells ps)):=hrow2
 have Hk2:Hid (Blk w2 kb #[.int .i64 (room:Int),.slice (some ⟨g,0,none⟩) (ps.length+1) cap,.int .i64 (p.mark:Int),.map (some ab)] 220):=k2
 have Hch2:Hid (Chg (fun k=>k=g) wx w2/\w2.heap.size=wx.heap.size):=⟨hch2,hs2⟩
 clear hrow2 k2 hch2 hs2 Hd hdc kx
 go_wp2_with fail
 have hcs:Chg (fun k=>k=kb) w2 (w2.setCell ⟨kb,1,none⟩ (.slice (some ⟨g,0,none⟩) ps.length cap)):=(Chg.refl (fun k=>k=kb) w2).setCell (p:=⟨kb,1,none⟩) rfl _
 refine bodyPost_end (results_none rfl _ _ _) rfl ⟨rfl,.slice (some ⟨g,0,none⟩) ps.length cap, ?_,own_chg Hrow2.out hcs (fun k hk e=>by cases hk;exact hne e),rfl, ?_, ?_⟩
 ·have:=Hk2.out
  unfold Blk at this ⊢
  simp[World.setCell,Array.getElem?_modify,this]
 ·exact ((Hch0.out.trans (Hch2.out.1.mono (fun k _ e=>Or.inr e))).trans (hcs.mono (fun k _ e=>Or.inl e))).mono (fun k _ e=>by rcases e with e | e;exact Or.inl e;exact Or.inr (by rw[e];rfl))
 ·have:=Hch2.out.2
  simp
  omega


def SliceN (w:World) (v:Value) (ns:List Nat):Prop:=(v=.slice none 0 0/\ns=[])\/∃ b off cap,v=.slice (some ⟨b,off,none⟩) ns.length cap/\ns.length<=cap/\b<w.heap.size/\∀ j (h:j<ns.length),w.cell? ⟨b,off+j,none⟩=some (.int .i64 (ns[j]:Int))
theorem SliceN.below {w w':World} {v:Value} {ns:List Nat} (h:SliceN w v ns) (hb:Below w.heap.size w w'):SliceN w' v ns:=by
 rcases h with h | ⟨b,off,cap,h1,h2,h3,h4⟩
 ·exact Or.inl h
 ·exact Or.inr ⟨b,off,cap,h1,h2,Nat.lt_of_lt_of_le h3 hb.size,fun j hj=>(hb.cell (p:=⟨b,off+j,none⟩) h3).trans (h4 j hj)⟩
theorem SliceN.shape {w:World} {v:Value} {ns:List Nat} (h:SliceN w v ns):∃ ao cap,v=.slice ao ns.length cap:=by
 rcases h with ⟨rfl,rfl⟩ | ⟨b,off,cap,rfl,_⟩
 ·exact ⟨none,0,rfl⟩
 ·exact ⟨_,cap,rfl⟩
theorem SliceN.at {w:World} {ao:Option Addr} {n cap:Nat} {ns:List Nat} (h:SliceN w (.slice ao n cap) ns) (i:Nat) (hi:i<ns.length):∃ b off,ao=some ⟨b,off,none⟩/\n<=cap/\w.cell? ⟨b,off+i,none⟩=some (.int .i64 (ns[i]:Int)):=by
 rcases h with ⟨_,rfl⟩ | ⟨b,off,cap',h1,h2,h3,h4⟩
 ·simp at hi
 ·simp only[Value.slice.injEq] at h1
  obtain ⟨rfl,rfl,rfl⟩:=h1
  exact ⟨b,off,rfl,h2,h4 i hi⟩

theorem kNew_any (w:World) (room:Nat) (sv:Value) (nb:List Nat) (hsl:SliceN w sv nb) (hr:room<=50) (h5:∀ j∈nb,j<=5) (hl:nb.length<=6) :
  Calls Tryz.prog 121 #[.int .i64 (room:Int),sv] w fun e w'=>∃ kb ab,e=.returned (.pointer (some ⟨kb,0,none⟩))/\KeptP w' kb room (.slice none 0 0) 0 ab nb (fun _=>0) []/\w.heap.size<=kb/\w.heap.size<=ab/\Below w.heap.size w w':=by
 have hmm:=@run_makeMap Tryz.prog
 obtain ⟨ao,cap,hs⟩:=hsl.shape
 subst hs
 have HS:Hid (SliceN w (.slice ao nb.length cap) nb):=hsl
 have H5:Hid (∀ j∈nb,j<=5):=h5
 clear hsl h5
 go_enter Tryz.func121,Tryz.ntmps121
 go_wp2_with fail
 have hbx:Below w.heap.size w ((w.alloc (.map #[] 0)).alloc (.cells #[.int .i64 (room:Int),.slice none 0 0,.int .i64 0,.map (some w.heap.size)] 220)):=((Below.refl _ w).alloc (Nat.le_refl _) _).alloc (by simp) _
 have kx:Blk ((w.alloc (.map #[] 0)).alloc (.cells #[.int .i64 (room:Int),.slice none 0 0,.int .i64 0,.map (some w.heap.size)] 220)) (w.heap.size+1) #[.int .i64 (room:Int),.slice none 0 0,.int .i64 0,.map (some w.heap.size)] 220:=by
  have:=Blk.new (w.alloc (.map #[] 0)) #[.int .i64 (room:Int),.slice none 0 0,.int .i64 0,.map (some w.heap.size)] 220
  rwa [World.size_alloc] at this
 have mx:MapV Tryz.prog 3 ((w.alloc (.map #[] 0)).alloc (.cells #[.int .i64 (room:Int),.slice none 0 0,.int .i64 0,.map (some w.heap.size)] 220)) w.heap.size 0 (am [] (fun _=>0)):=by
  rw[am_nil]
  exact (MapV.made w Tryz.prog 3).block (((Below.refl _ (w.alloc (.map #[] 0))).alloc (Nat.le_refl _) _).block _ (by simp))
 generalize ((w.alloc (.map #[] 0)).alloc (.cells #[.int .i64 (room:Int),.slice none 0 0,.int .i64 0,.map (some w.heap.size)] 220))=wx at *
 have HX:Hid (Below w.heap.size w wx/\Blk wx (w.heap.size+1) #[.int .i64 (room:Int),.slice none 0 0,.int .i64 0,.map (some w.heap.size)] 220/\MapV Tryz.prog 3 wx w.heap.size 0 (am [] (fun _=>0))):=⟨hbx,kx,mx⟩
 clear hbx kx mx
 go_loopg [7,14] nb.length (fun g v7 v14 wy=>∃ i N:Nat,i+g=nb.length/\v14=.int .i64 (i:Int)/\Below w.heap.size w wy/\Blk wy (w.heap.size+1) #[.int .i64 (room:Int),.slice none 0 0,.int .i64 0,.map (some w.heap.size)] 220/\(∃ l,MapV Tryz.prog 3 wy w.heap.size N (am l (fun _=>0))/\(∀ j,j∈l↔j∈nb.take i))/\N<=i)
 case atStart=>exact ⟨0,0,by omega,rfl,HX.out.1,HX.out.2.1,⟨[],HX.out.2.2,by simp⟩,Nat.le_refl _⟩
 case round =>
  obtain ⟨i,N,hig,rfl,hb,hk,⟨l,hM,hl2⟩,hNi⟩:=hrel
  clear HX
  have HB:Hid (Below w.heap.size w wr):=hb
  have HK:Hid (Blk wr (w.heap.size+1) #[.int .i64 (room:Int),.slice none 0 0,.int .i64 0,.map (some w.heap.size)] 220):=hk
  have HM:Hid (MapV Tryz.prog 3 wr w.heap.size N (am l (fun _=>0))):=hM
  have HL:Hid (∀ j,j∈l↔j∈nb.take i):=hl2
  by_cases hi:i<nb.length
  ·obtain ⟨b,off,rfl,hcp,q0⟩:=(HS.out.below hb).at i hi
   obtain ⟨n,hn⟩:∃ n,n=nb[i]:=⟨_,rfl⟩
   rw[<- hn] at q0
   have hn5:n<=5:=H5.out n (by rw[hn];exact List.getElem_mem hi)
   have Hn:Hid (n=nb[i]):=hn
   clear hn
   have z3:=(hk.cell 3).trans rfl
   obtain ⟨kl,hkl⟩:∃ kl,keyOf Tryz.prog 3 (.int .i64 (n:Int))=some kl:=⟨_,keyInt n (by omega)⟩
   have hmx:N<maxLen:=by unfold maxLen;omega
   clear hb hk hM hl2
   go_wp2_with (first | (at_mapUpdate;refine wpList_store rfl (.tmp 21) (.tmp 22) (.const (.int .i64 0)) 97 rfl 3 kInt Tryz.underlying97 rfl HM.out hmx (.int .i64 (n:Int)) (.int .i64 0) _ rfl rfl hkl ?_;intro w6 hm6 hg6 hs6;have hB6:=HB.out.grown hg6 HB.out.size (fun k e=>by cases e;exact Nat.le_refl _);have hK6:=HK.out.grown hg6 (by omega);have hu6:=am_upd l (fun _=>0) n 0;clear HM HB HK hg6 hs6;go_frame))
   go_roundg (nb.length-(i+1))
   case measure=>omega
   case rel =>
    refine ⟨i+1,_,by omega,by go_num,hB6,hK6,⟨_,by rw[show (Value.int IntKind.i64 0)=.int .i64 ((0:Nat):Int) from rfl,hu6,show (fun x=>if x=n then 0 else (fun _:Nat=>(0:Nat)) x)=fun _=>0 from funext fun x=>by split <;> rfl] at hm6;exact hm6,fun j=>?_⟩,by split <;> omega⟩
    rw[List.take_succ_eq_append_getElem hi,<- Hn.out,List.mem_append,List.mem_singleton,<- HL.out j]
    by_cases hnl:n∈l
    ·rw[if_pos hnl]
     exact ⟨Or.inl,fun h=>h.elim id (fun e=>e ▸ hnl)⟩
    ·rw[if_neg hnl,List.mem_append,List.mem_singleton]
  ·have htk:nb.take i=nb:=List.take_of_length_le (by omega)
   clear hb hk hM hl2
   go_wp2_with fail
   go_ret
   have he:am l (fun _=>0)=am nb (fun _=>0):=am_ext (fun a=>by
    rw[am_at]
    have:=HL.out a
    rw[htk] at this
    by_cases ha:a∈nb
    ·rw[if_pos ha,if_pos (this.2 ha)]
    ·rw[if_neg ha,if_neg (fun h=>ha (this.1 h))]) (fun key hk=>by unfold am;rw[dif_neg (fun ⟨b,hb⟩=>hk b hb)])
   exact ⟨w.heap.size+1,w.heap.size,rfl,⟨HK.out,World.ownsRow_nil _ _ _ _,⟨N,by rw[<- he];exact HM.out⟩,fun p hp=>(by simp at hp),hr,by simp,⟨fun p hp=>(by simp at hp),by omega,fun _=>by omega⟩,H5.out,fun p hp=>(by simp at hp)⟩,by omega,Nat.le_refl _,HB.out⟩


def addD (room dr:Nat) (ps:List PcD) (p:PcD):Nat:=if room<ps.length+1 then ((ps ++ [p]).headD p).mark else dr
def addP (room:Nat) (ps:List PcD) (p:PcD):List PcD:=if room<ps.length+1 then (ps ++ [p]).tail else ps ++ [p]

theorem kAdd_any (w:World) (kb room:Nat) (pv:Value) (dr ab:Nat) (nb:List Nat) (A:Nat->Nat) (ps:List PcD) (p:PcD) (h:KeptP w kb room pv dr ab nb A ps) (hp:p.st.At w) (hpa:¬p.st.own ab) (hm:p.mark<=100000/\p.fr<=5) :
  Calls Tryz.prog 153 #[.pointer (some ⟨kb,0,none⟩),.agg #[.map p.st.io,.map p.st.co,.map p.st.lo],.int .i64 (p.fr:Int),.int .i64 (p.mark:Int)] w fun e w'=>e=.returned (.tuple #[])/\∃ pv',KeptP w' kb room pv' (addD room dr ps p) ab nb A (addP room ps p)/\(pv'.ownBlock=pv.ownBlock\/∃ k,pv'.ownBlock=some k/\w.heap.size<=k)/\Chg (fun k=>k=kb\/pv.ownBlock=some k) w w':=by
 obtain ⟨i0,hi,hz0,hz1,hz2⟩:=info_parts Tryz.infoPc
 obtain ⟨ao,cap,hs⟩:=h.shape
 have HK:Hid (KeptP w kb room pv dr ab nb A ps):=h
 have HP:Hid (p.st.At w):=hp
 have hne:=h.ne
 have hkl:=h.blk.lt
 have hlen:=h.len
 have hr50:=h.r50
 have kz:∀ o,Blk (w.alloc o) kb #[.int .i64 (room:Int),pv,.int .i64 (dr:Int),.map (some ab)] 220:=fun o=>h.blk.alloc o
 have kb0:=Blk.new w #[.map p.st.io,.map p.st.co,.map p.st.lo] 102
 have hb0:Below w.heap.size w (w.alloc (.cells #[.map p.st.io,.map p.st.co,.map p.st.lo] 102)):=(Below.refl _ w).alloc (Nat.le_refl _) _
 clear h hp
 go_enter Tryz.func153,Tryz.ntmps153
 go_wp2_with fail
 have kzz:=kz (.cells #[.map p.st.io,.map p.st.co,.map p.st.lo] 102)
 generalize w.alloc (.cells #[.map p.st.io,.map p.st.co,.map p.st.lo] 102)=w0 at *
 subst hs
 have m1:Hid (ps.length+1<=maxLen):=by unfold Hid maxLen;omega
 have m2:Hid ((ps.length+1)*40<=140737488355328):=by unfold Hid;omega
 have hone:Hid (∀ u∈p.cells,u.oneCell'=true):=by intro u hu;simp[PcD.cells] at hu;rcases hu with rfl | rfl | rfl | rfl | rfl <;> rfl
 have hK0:KeptP w0 kb room (.slice ao ps.length cap) dr ab nb A ps:=HK.out.below hb0
 have Hrow:Hid (w0.ownsRow 0 222 5 (.slice ao ps.length cap) ps.length (pcells ps)):=hK0.row
 have HK0:Hid (Blk w0 kb #[.int .i64 (room:Int),.slice ao ps.length cap,.int .i64 (dr:Int),.map (some ab)] 220):=kzz
 have q1:=(kzz.cell 1).trans rfl
 have s0:=(kb0.cell 0).trans rfl
 have s1:=(kb0.cell 1).trans rfl
 have s2:=(kb0.cell 2).trans rfl
 have q1A:∀ o,(w0.alloc o).cell? ⟨kb,1,none⟩=some (.slice ao ps.length cap):=fun o=>((HK0.out.alloc o).cell 1).trans rfl
 have Hb0:Hid (Below w.heap.size w w0):=hb0
 clear kzz kz kb0 hb0 hK0
 go_cut [] from 8 to 20 (fun wx=>∃ w6 g6 c6,wx=w6.setCell ⟨kb,1,none⟩ (.slice (some ⟨g6,0,none⟩) (ps.length+1) c6)/\Chg (fun k=>(Value.slice ao ps.length cap).ownBlock=some k) w0 w6/\w6.ownsRow 0 222 5 (.slice (some ⟨g6,0,none⟩) (ps.length+1) c6) (ps.length+1) (pcells ps ++ p.cells)/\((Value.slice ao ps.length cap).ownBlock=some g6\/w.heap.size<=g6))
 case first =>
  go_region_law (first | (refine step_append_row rfl (.tmp 12) (.tmp 17) 218 rfl 222 i0 (.agg #[.int .i64 0,.int .i64 0,.map none,.map none,.map none]) 5 40 Tryz.underlying218 hi hz0 hz1 hz2 rfl (by decide) (.slice ao ps.length cap) ps.length (pcells ps) rfl ?_ _ 1 1 p.cells rfl rfl ?_ hone.out m1.out m2.out (Nat.succ_pos _) ?_;(exact Hrow.out.alloc _);(intro j u hj;match j,hj with | 0,hj=>(cases hj;simp[Addr.add]) | 1,hj=>(cases hj;simp[Addr.add]) | 2,hj=>(cases hj;simp[Addr.add]) | 3,hj=>(cases hj;simp[Addr.add]) | 4,hj=>(cases hj;simp[Addr.add]));intro g6 c6 w6 hown6 hg6 hnew6;have hC6:Chg (fun k=>(Value.slice ao ps.length cap).ownBlock=some k) w0 w6:=Chg.grown (Chg.of_below (by go_grown)) hg6 (fun k hk=>Or.inl hk);have hk6:=HK0.out.chg hC6 hne.2.1;have k1:=(hk6.cell 1).trans rfl;have kf6:=hk6.frozen))
  all_goals
   go_wp2_with fail
   go_meet
   refine ⟨w6,g6,c6,rfl,hC6,hown6, ?_⟩
   rcases hnew6 with h | h
   ·exact Or.inl h
   ·refine Or.inr (Nat.le_trans Hb0.out.size ?_)
    simp at h
    omega
 case rest =>
 obtain ⟨w6,g6,c6,rfl,hC6,hown6,hnew6⟩:=hcut
 have hk6:Blk w6 kb #[.int .i64 (room:Int),.slice ao ps.length cap,.int .i64 (dr:Int),.map (some ab)] 220:=HK0.out.chg hC6 hne.2.1
 have hgk:g6≠kb:=fun e=>by
  subst e
  refine ownsRow_ne hown6 (k:=g6) (fun cur fz e=>?_) rfl
  have h2:=hk6
  unfold Blk at h2
  rw[h2] at e
  cases e
 have hcz:Chg (fun k=>k=kb) w6 (w6.setCell ⟨kb,1,none⟩ (.slice (some ⟨g6,0,none⟩) (ps.length+1) c6)):=(Chg.refl (fun k=>k=kb) w6).setCell (p:=⟨kb,1,none⟩) rfl _
 have kz1:Blk (w6.setCell ⟨kb,1,none⟩ (.slice (some ⟨g6,0,none⟩) (ps.length+1) c6)) kb #[.int .i64 (room:Int),.slice (some ⟨g6,0,none⟩) (ps.length+1) c6,.int .i64 (dr:Int),.map (some ab)] 220:=by
  have:=hk6
  unfold Blk at this ⊢
  simp[World.setCell,Array.getElem?_modify,this]
 have hrow1:(w6.setCell ⟨kb,1,none⟩ (.slice (some ⟨g6,0,none⟩) (ps.length+1) c6)).ownsRow 0 222 5 (.slice (some ⟨g6,0,none⟩) (ps.length+1) c6) (ps.length+1) (pcells (ps ++ [p])):=by
  rw[pcells_snoc]
  exact own_chg hown6 hcz (fun k hk e=>by cases hk;exact hgk e)
 have hallc:Chg (fun k=>k=kb\/(Value.slice ao ps.length cap).ownBlock=some k) w (w6.setCell ⟨kb,1,none⟩ (.slice (some ⟨g6,0,none⟩) (ps.length+1) c6)) :=
  ((Chg.of_below Hb0.out).trans' (hC6.mono (N:=fun k=>k=kb\/(Value.slice ao ps.length cap).ownBlock=some k) (fun k _ e=>Or.inr e)) (fun k _ e=>e)).trans' hcz (fun k _ e=>Or.inl e)
 clear hk6 hcz hown6 hC6 q1 q1A s0 s1 s2 Hrow HK0
 generalize w6.setCell ⟨kb,1,none⟩ (.slice (some ⟨g6,0,none⟩) (ps.length+1) c6)=W at *
 -- what stays,whatever else is dropped
 have Hmake:Hid (∀ (W':World) (qv:Value) (d:Nat) (qs:List PcD),Blk W' kb #[.int .i64 (room:Int),qv,.int .i64 (d:Int),.map (some ab)] 220->W'.ownsRow 0 222 5 qv qs.length (pcells qs)->Chg (fun k=>k=kb\/(Value.slice ao ps.length cap).ownBlock=some k) w W'->qs.length<=room->(∀ q∈qs,q∈ps ++ [p])->d<=100000->KeptP W' kb room qv d ab nb A qs):=fun W' qv d qs h1 h2 h3 h4 h5 h6=>by
  have hnm:∀ (k:Nat) (s:StD),s.At w->s.own k->¬(k=kb\/(Value.slice ao ps.length cap).ownBlock=some k):=fun k s hs hk e=>by
   rcases e with rfl | e
   ·exact hs.noCells hk HK.out.blk
   ·obtain ⟨_,⟨h1,_⟩ | ⟨g',cap',cur,h1,h2,h3,_⟩⟩:=HK.out.row
    ·rw[h1] at e;cases e
    ·rw[h1] at e;cases e;exact hs.noCells hk h3
  have hin:∀ q∈qs,q.st.At w/\(q.mark<=100000/\q.fr<=5)/\¬q.st.own ab:=fun q hq=>by
   rcases List.mem_append.1 (h5 q hq) with h | h
   ·exact ⟨HK.out.st q h,HK.out.bnd.1 q h,HK.out.apart q h⟩
   ·rw[List.mem_singleton] at h;subst h;exact ⟨HP.out,hm,hpa⟩
  refine ⟨h1,h2,HK.out.ack.imp fun N g=>g.block (h3.block _ g.lt (fun e=>by rcases e with e | e;exact hne.1 e.symm;exact hne.2.2 e)),fun q hq=>(hin q hq).1.chg' h3 (fun k hk=>hnm k _ (hin q hq).1 hk),hr50,h4,⟨fun q hq=>(hin q hq).2.1,h6,HK.out.bnd.2.2⟩,HK.out.nb5,fun q hq=>(hin q hq).2.2⟩
 have HW:Hid (Blk W kb #[.int .i64 (room:Int),.slice (some ⟨g6,0,none⟩) (ps.length+1) c6,.int .i64 (dr:Int),.map (some ab)] 220/\W.ownsRow 0 222 5 (.slice (some ⟨g6,0,none⟩) (ps.length+1) c6) (ps.length+1) (pcells (ps ++ [p]))/\Chg (fun k=>k=kb\/(Value.slice ao ps.length cap).ownBlock=some k) w W):=⟨kz1,hrow1,hallc⟩
 have Hdr:Hid (dr<=100000):=HK.out.bnd.2.1
 have Hnew:Hid ((Value.slice ao ps.length cap).ownBlock=some g6\/w.heap.size<=g6):=hnew6
 have e0:W.drew.cell? ⟨kb,0,none⟩=some (.int .i64 (room:Int)):=(kz1.cell 0).trans rfl
 have e1:W.drew.cell? ⟨kb,1,none⟩=some (.slice (some ⟨g6,0,none⟩) (ps.length+1) c6):=(kz1.cell 1).trans rfl
 clear kz1 hrow1 hallc hnew6
 by_cases hc:room<ps.length+1
 ·have hcd:decide ((ps.length:Int)+1 > (room:Int))=true:=by simp;omega
  obtain ⟨p0,rest,hpr⟩:∃ p0 rest,ps ++ [p]=p0 :: rest:=by cases ps with
   | nil=>exact ⟨p,[],rfl⟩
   | cons a l=>exact ⟨a,l ++ [p],rfl⟩
  have hrl:rest.length=ps.length:=by have:=congrArg List.length hpr;simp at this;omega
  have hp0:p0∈ps ++ [p]:=by rw[hpr];simp
  have hm0:p0.mark<=100000:=by
   rcases List.mem_append.1 hp0 with h | h
   ·exact (HK.out.bnd.1 p0 h).1
   ·rw[List.mem_singleton] at h;subst h;exact hm.1
  have HD:Hid (_):=dropOldest_any W.drew kb room (.slice (some ⟨g6,0,none⟩) (ps.length+1) c6) dr ab nb A p0 rest HW.out.1 (by rw[hrl,<- hpr];exact HW.out.2.1) (by omega) hm0
  have Hpr:Hid (ps ++ [p]=p0 :: rest):=hpr
  clear hpr hp0
  go_wp2_with fail
  go_region
  go_wp2_with fail
  refine Calls.mono HD.out ?_
  rintro e w3 ⟨rfl,qv3,kb3,row3,ob3,ch3,sz3⟩
  have hc3:Chg (fun k=>k=kb\/(Value.slice ao ps.length cap).ownBlock=some k) w w3:=HW.out.2.2.trans' (Chg.trans (Chg.of_below (Below.refl _ W).drew) ch3) (fun k hk e=>by
   rcases e with e | e
   ·exact Or.inl e
   ·have e':g6=k:=by simpa[Value.ownBlock] using e
    rcases Hnew.out with h | h
    ·exact Or.inr (by rw[h,e'])
    ·omega)
  have hF:=Hmake.out w3 qv3 p0.mark rest kb3 row3 hc3 (by omega) (fun q hq=>by rw[Hpr.out];simp[hq]) hm0
  have HF:Hid (KeptP w3 kb room qv3 p0.mark ab nb A rest/\Chg (fun k=>k=kb\/(Value.slice ao ps.length cap).ownBlock=some k) w w3/\qv3.ownBlock=some g6):=⟨hF,hc3,ob3⟩
  clear hF hc3 ob3 kb3 row3 ch3 sz3 HD
  go_wp2_with fail
  refine bodyPost_end (results_none rfl _ _ _) rfl ⟨rfl,qv3, ?_, ?_,HF.out.2.1⟩
  ·unfold addD addP
   rw[if_pos hc,if_pos hc,Hpr.out]
   exact HF.out.1
  ·rcases Hnew.out with h | h
   ·exact Or.inl (by rw[HF.out.2.2,h])
   ·exact Or.inr ⟨g6,HF.out.2.2,h⟩
 ·have hcd:decide ((ps.length:Int)+1 > (room:Int))=false:=by simp;omega
  have hF:=Hmake.out W.drew _ dr (ps ++ [p]) HW.out.1 (by rw[List.length_append];exact HW.out.2.1) (Chg.trans' HW.out.2.2 (Chg.of_below (M:=fun _=>False) (Below.refl _ W).drew) (fun _ _ h=>h.elim)) (by simp;omega) (fun q hq=>hq) Hdr.out
  have HF:Hid (KeptP W.drew kb room (.slice (some ⟨g6,0,none⟩) (ps.length+1) c6) dr ab nb A (ps ++ [p])/\Chg (fun k=>k=kb\/(Value.slice ao ps.length cap).ownBlock=some k) w W.drew):=⟨hF,Chg.trans' HW.out.2.2 (Chg.of_below (M:=fun _=>False) (Below.refl _ W).drew) (fun _ _ h=>h.elim)⟩
  clear hF
  go_wp2_with fail
  go_region
  go_wp2_with fail
  refine bodyPost_end (results_none rfl _ _ _) rfl ⟨rfl,.slice (some ⟨g6,0,none⟩) (ps.length+1) c6, ?_, ?_,HF.out.2⟩
  ·unfold addD addP
   rw[if_neg hc,if_neg hc]
   exact HF.out.1
  ·rcases Hnew.out with h | h
   ·exact Or.inl h.symm
   ·exact Or.inr ⟨g6,rfl,h⟩

def scells (sts:List StD):List Value:=sts.flatMap fun s=>[.map s.io,.map s.co,.map s.lo]
theorem scells_snoc (sts:List StD) (s:StD):scells (sts ++ [s])=scells sts ++ [.map s.io,.map s.co,.map s.lo]:=by simp[scells]
theorem scells_len (sts:List StD):(scells sts).length=sts.length*3:=by
 induction sts with
 | nil=>rfl
 | cons s r ih=>simp[scells] at ih ⊢;omega
theorem scells_at (sts:List StD):∀ (i:Nat) (h:i<sts.length),(scells sts)[i*3]? = some (.map sts[i].io)/\(scells sts)[i*3+1]? = some (.map sts[i].co)/\(scells sts)[i*3+2]? = some (.map sts[i].lo):=by
 induction sts with
 | nil=>intro i h;simp at h
 | cons s r ih =>
  intro i h
  have hc:scells (s :: r)=[.map s.io,.map s.co,.map s.lo] ++ scells r:=rfl
  rw[hc]
  cases i with
  | zero=>simp
  | succ i =>
   have e:∀ k,([Value.map s.io,.map s.co,.map s.lo] ++ scells r)[(i+1)*3+k]? = (scells r)[i*3+k]?:=fun k=>by
    rw[List.getElem?_append_right (by simp;omega)];congr 1;simp;omega
   have:=ih i (by simpa using h)
   have e0:=e 0
   rw[Nat.add_zero,Nat.add_zero] at e0
   rw[e0,e 1,e 2]
   simpa using this
theorem row_sliceS {w:World} {B g cap:Nat} {sts:List StD} (h:w.ownsRow B 102 3 (.slice (some ⟨g,0,none⟩) sts.length cap) sts.length (scells sts)) (hok:∀ s∈sts,s.At w):SliceS w g 0 sts:=by
 have hc:=h.cells (g:=g) rfl
 refine ⟨(h.lt g rfl).2,fun j hj=>?_,fun j hj=>?_,fun j hj=>?_,hok⟩
 ·have:=hc _ _ (scells_at sts j hj).1;rw[Addr.add_lit] at this;exact this
 ·have:=hc _ _ (scells_at sts j hj).2.1;rw[Addr.add_lit] at this;simpa[Nat.add_assoc] using this
 ·have:=hc _ _ (scells_at sts j hj).2.2;rw[Addr.add_lit] at this;simpa[Nat.add_assoc] using this
theorem Tryz.infoSt:(Tryz.prog.info? 102).map (fun i=>(i.zero,i.size,i.bytes))=some (some (.agg #[.map none,.map none,.map none]),3,24):=by kernel_rfl

theorem Join_nil (w:World) :
  Calls Tryz.prog 150 #[.slice none 0 0] w fun e w'=>∃ ib cb lb,e=.returned (.agg #[.map (some ib),.map (some cb),.map (some lb)])/\StoreS w' ib cb lb (fun _=>False) (fun _=>none)/\(w.heap.size<=ib/\w.heap.size<=cb/\w.heap.size<=lb)/\Below w.heap.size w w':=by
 go_enter Tryz.func150,Tryz.ntmps150
 go_wp2_with fail
 refine Calls.mono (Gone_any _ (.slice none 0 0) [] (Or.inl ⟨rfl,rfl⟩) (by simp) (by simp)) ?_
 rintro e w1 ⟨ib,cb,lb,rfl,hst,hnew,hb1⟩
 have e1:(w.alloc (.cells #[.map none,.map none,.map none] 102)).heap.size=w.heap.size+1:=by simp
 rw[e1] at hnew hb1
 have hlt:=hst.lt
 have hbw:Below w.heap.size w w1:=((Below.refl _ w).alloc (Nat.le_refl _) _).trans (hb1.mono (by omega))
 have hr:Blk w1 w.heap.size #[.map none,.map none,.map none] 102:=(hb1.block _ (by omega)).trans (heap_alloc_new w _)
 have hz:=(Below.refl _ w1).alloc (Nat.le_refl _) (.cells #[.map (some ib),.map (some cb),.map (some lb)] 102)
 have HX:Hid (StoreS (w1.alloc (.cells #[.map (some ib),.map (some cb),.map (some lb)] 102)) ib cb lb (fun _=>False) (fun _=>none)/\Below w.heap.size w (w1.alloc (.cells #[.map (some ib),.map (some cb),.map (some lb)] 102))):=by
  have hst2:=hst.below hz
  exact ⟨⟨hst2.ctx.iff (fun n _=>by simp),hst2.its,hst2.ne,fun n hn=>absurd rfl hn⟩,hbw.trans (hz.mono hbw.size)⟩
 have kr:=hr.below hz
 have kb:=Blk.new w1 #[.map (some ib),.map (some cb),.map (some lb)] 102
 have hszw:w.heap.size<w1.heap.size:=hr.lt
 clear hst hb1 hbw hr hz
 go_wp2_with fail
 generalize w1.alloc (.cells #[.map (some ib),.map (some cb),.map (some lb)] 102)=W at *
 have b0:=(kb.cell 0).trans rfl
 have b1:=(kb.cell 1).trans rfl
 have b2:=(kb.cell 2).trans rfl
 have r0:=(kr.cell 0).trans rfl
 have r1:=(kr.cell 1).trans rfl
 have r2:=(kr.cell 2).trans rfl
 have f0:=kr.frozen
 go_loopg [11] 0 (fun g v11 wx=>g=0/\v11=.int .i64 0/\wx=W)
 case atStart=>exact ⟨rfl,rfl,rfl⟩
 case round =>
  obtain ⟨_,rfl,rfl⟩:=hrel
  go_wp2_with fail
  have hch:Chg (fun k=>k=w.heap.size) wr (((wr.setCell ⟨w.heap.size,0,none⟩ (.map (some ib))).setCell ⟨w.heap.size,1,none⟩ (.map (some cb))).setCell ⟨w.heap.size,2,none⟩ (.map (some lb))):=(((Chg.refl (fun k=>k=w.heap.size) wr).setCell (p:=⟨w.heap.size,0,none⟩) rfl _).setCell (p:=⟨w.heap.size,1,none⟩) rfl _).setCell (p:=⟨w.heap.size,2,none⟩) rfl _
  refine bodyPost_ret (v:=.agg #[.map (some ib),.map (some cb),.map (some lb)]) (by simp[results,Tryz.results150,go_sem,r0,r1,r2,cs_same,cs_oth,World.cell?_setCell_other]) rfl ⟨ib,cb,lb,rfl, ?_,by omega, ?_⟩
  ·exact HX.out.1.chg hch (by omega) (by omega) (by omega)
  ·exact ((HX.out.2.setCell (p:=⟨w.heap.size,0,none⟩) (Nat.le_refl _) _).setCell (p:=⟨w.heap.size,1,none⟩) (Nat.le_refl _) _).setCell (p:=⟨w.heap.size,2,none⟩) (Nat.le_refl _) _

theorem Join_row (w:World) (B:Nat) (v:Value) (sts:List StD) (h:w.ownsRow B 102 3 v sts.length (scells sts)) (hok:∀ s∈sts,s.At w) (hl:sts.length<=1000) :
  Calls Tryz.prog 150 #[v] w fun e w'=>∃ ib cb lb It,e=.returned (.agg #[.map (some ib),.map (some cb),.map (some lb)])/\StoreS w' ib cb lb (fun n=>∃ s∈sts,s.S n) It /\
   (∀ n v,It n=some v->(∃ s∈sts,s.It n=some v)/\¬goneAt sts n)/\(∀ n,(∃ s∈sts,s.It n≠none)->¬goneAt sts n->It n≠none)/\(w.heap.size<=ib/\w.heap.size<=cb/\w.heap.size<=lb)/\Below w.heap.size w w':=by
 have h0:=h
 obtain ⟨_,⟨rfl,h2⟩ | ⟨g,cap,cur,rfl,h2,h3,h4,_⟩⟩:=h
 ·have:sts=[]:=List.length_eq_zero_iff.1 h2
  subst this
  refine Calls.mono (Join_nil w) ?_
  rintro e w' ⟨ib,cb,lb,rfl,hst,hn,hb⟩
  refine ⟨ib,cb,lb,fun _=>none,rfl,⟨hst.ctx.iff (fun n _=>by simp),hst.its,hst.ne,fun n hn=>absurd rfl hn⟩,fun n v h=>(by cases h),fun n hn=>(by simp at hn),hn,hb⟩
 ·exact Join_any w g 0 cap sts (row_sliceS h0 hok) h4 hl


end Go.Proofs.YtfmmllpjgkgeaaaGreatDoor

