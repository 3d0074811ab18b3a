import Derived.Maps.OwnSet
import Derived.Maps.OwnOps
import Derived.Maps.RangeWalk
import Derived.Maps.Ext
import Derived.DeepKeys4
import Derived.Deep.LoopGhost
import Derived.Laws.IdiomRangeMap
import Derived.Test.YtfmmllpjgkgeaaaGreatDoorPart02
set_option linter.unusedVariables false
set_option linter.unusedSimpArgs false
set_option maxHeartbeats 16000000
set_option maxRecDepth 100000
namespace Go.Proofs.YtfmmllpjgkgeaaaGreatDoor
open Go.RowKit Go.Maps Go.ChangeMaps Go.MapKept

def idR (v:Value):Option (DataW Value × List MemPlace):=some (.held v,[])

def Says (P:Program) (k:TypeId) (D:DataW Value) (m:Value->Option Value):Prop :=
 (∀ key kl,keyOf P k key=some kl->Maps.has D kl=(m key).isSome/\∀ v,m key=some v->∀ z,D.atKey kl z=.held v)/\∀ key,(m key).isSome=true->∃ kl,keyOf P k key=some kl

def MapV (P:Program) (k:TypeId) (w:World) (b N:Nat) (m:Value->Option Value):Prop:=∃ D,w.ownsMap P k idR b N D/\Maps.size D=N/\Says P k D m

def RangeV (P:Program) (k:TypeId) (w:World) (b r N:Nat) (m:Value->Option Value) (left:Value->Prop) (cnt:Nat):Prop :=
 ∃ D lf,w.ranges P k idR b r N D lf cnt/\Maps.size D=N/\Says P k D m/\(∀ key kl,keyOf P k key=some kl->(lf kl=true↔left key))/\∀ key,left key->∃ kl,keyOf P k key=some kl

open Classical in
noncomputable def upd (m:Value->Option Value) (key v:Value):Value->Option Value:=fun x=>if x=key then some v else m x
open Classical in
noncomputable def era (m:Value->Option Value) (key:Value):Value->Option Value:=fun x=>if x=key then none else m x
theorem upd_same (m:Value->Option Value) (key v:Value):upd m key v key=some v:=by simp[upd]
theorem upd_other {m:Value->Option Value} {key v x:Value} (h:x≠key):upd m key v x=m x:=by simp[upd,h]
theorem era_same (m:Value->Option Value) (key:Value):era m key key=none:=by simp[era]
theorem era_other {m:Value->Option Value} {key x:Value} (h:x≠key):era m key x=m x:=by simp[era,h]

variable {P:Program} {k:TypeId} {w:World} {b r N cnt:Nat} {m:Value->Option Value} {left:Value->Prop}

theorem own_tight {D:DataW Value} {n:Nat} (h:w.ownsMap P k idR b n D):w.ownsMap P k idR b (Maps.size D) D:=by
 obtain ⟨es,clock,hb,F,hs,hD⟩:=h
 refine ⟨es,clock,hb,F, ?_,hD⟩
 rw[hD];simp[Maps.size,length_sorted]

theorem MapV.lt (h:MapV P k w b N m):b<w.heap.size:=by obtain ⟨D,h1,_⟩:=h;exact h1.lt
theorem MapV.kept {w':World} {row:Option Nat} (h:MapV P k w b N m) (hg:w.grownBy w' row) (hne:some b≠row):MapV P k w' b N m:=by
 obtain ⟨D,h1,h2⟩:=h;exact ⟨D,h1.kept hg hne,h2⟩
theorem MapV.block {w':World} (h:MapV P k w b N m) (hb:w'.heap[b]? = w.heap[b]?):MapV P k w' b N m:=by
 obtain ⟨D,⟨es,clock,h1,r⟩,h2⟩:=h;exact ⟨D,⟨es,clock,hb.trans h1,r⟩,h2⟩
theorem RangeV.block {w':World} (h:RangeV P k w b r N m left cnt) (hb:w'.heap[b]? = w.heap[b]?) (hr:w'.heap[r]? = w.heap[r]?):RangeV P k w' b r N m left cnt:=by
 obtain ⟨D,lf,⟨es,clock,since,seen,c0,h1,F,hs,hD,h2,rest⟩,h3⟩:=h
 exact ⟨D,lf,⟨es,clock,since,seen,c0,hb.trans h1,F,hs,hD,hr.trans h2,rest⟩,h3⟩
theorem RangeV.map (h:RangeV P k w b r N m left cnt):MapV P k w b N m:=by obtain ⟨D,lf,h1,h2,h3,_⟩:=h;exact ⟨D,h1.owns,h2,h3⟩
theorem RangeV.left_eq (h:RangeV P k w b r N m left cnt):w.rangeLeft b r=cnt:=by obtain ⟨D,lf,h1,_⟩:=h;exact h1.left_eq
theorem RangeV.ne (h:RangeV P k w b r N m left cnt):r≠b:=by obtain ⟨D,lf,h1,_⟩:=h;exact h1.ne
theorem RangeV.lt (h:RangeV P k w b r N m left cnt):r<w.heap.size:=by obtain ⟨D,lf,h1,_⟩:=h;exact h1.lt
theorem MapV.noTag {t:TypeId} {cur:Array Value} {fz:Nat × Nat} (h:MapV P k w b N m):w.heap[b]?≠some (.cells cur t fz):=by
 obtain ⟨D,⟨es,clock,h1,r⟩,h2⟩:=h;rw[h1];intro e;cases e

theorem MapV.made (w:World) (P:Program) (k:TypeId):MapV P k (w.alloc (.map #[] 0)) w.heap.size 0 (fun _=>none) :=
 ⟨_,World.ownsMap_made w P k idR,rfl,fun key kl _=>⟨rfl,fun v h=>by cases h⟩,fun key h=>by cases h⟩

theorem Says.at {D:DataW Value} (h:Says P k D m) {key:Value} {kl:Lit} (hk:keyOf P k key=some kl) (z:Value):D.atKey kl (.held z)=.held ((m key).getD z):=by
 obtain ⟨h1,h2⟩:=h.1 key kl hk
 cases hm:m key with
 | none=>rw[hm] at h1;exact atKey_of_not_has h1 _
 | some v=>exact h2 v hm _

theorem MapV.look {t e:TypeId} (h:MapV P k w b N m) (K:Keyed P k) (ht:P.underlying t=some (.map k e)) {z:Value} (hz:(zeroValue e).run P w=.ok z w) {key:Value} {kl:Lit} (hk:keyOf P k key=some kl) :
  (Instr.lookup t (.map (some b)) key false).run P w=.ok ((m key).getD z) w:=by
 obtain ⟨D,h1,_,h2⟩:=h
 obtain ⟨v,ps,hr,hv⟩:=h1.lookup K ht hz (show idR z=some (.held z,[]) from rfl) hk
 rw[h2.at hk z] at hv
 simp only[idR,Option.some.injEq,Prod.mk.injEq,DataW.held.injEq] at hv
 rw[hr,hv.1]

theorem MapV.look_ok {t e:TypeId} (h:MapV P k w b N m) (K:Keyed P k) (ht:P.underlying t=some (.map k e)) {z:Value} (hz:(zeroValue e).run P w=.ok z w) {key:Value} {kl:Lit} (hk:keyOf P k key=some kl) :
  (Instr.lookup t (.map (some b)) key true).run P w=.ok (.tuple #[(m key).getD z,.bool (m key).isSome]) w:=by
 obtain ⟨D,h1,_,h2⟩:=h
 obtain ⟨v,ps,hr,hv⟩:=h1.look_ok K ht hz (show idR z=some (.held z,[]) from rfl) hk
 rw[h2.at hk z] at hv
 simp only[idR,Option.some.injEq,Prod.mk.injEq,DataW.held.injEq] at hv
 rw[hr,hv.1,(h2.1 key kl hk).1]

theorem MapV.len {t e:TypeId} (h:MapV P k w b N m) (ht:P.underlying t=some (.map k e)) (ty:TypeId):(Builtin.len_ #[t] ty #[.map (some b)]).run P w=.ok (.int .i64 (N:Int)) w:=by
 obtain ⟨D,h1,h2,_⟩:=h
 rw[h1.len ht ty,h2]

theorem MapV.zero (h:MapV P k w b N m) (K:Keyed P k) (h0:∀ key,m key=none):N=0:=by
 obtain ⟨D,h1,h2,h3⟩:=h
 obtain ⟨es,clock,hb,F,hs,rfl⟩:=h1
 rw[<- h2]
 simp only[Maps.size,length_sorted,List.length_map,Array.length_toList]
 rcases Nat.eq_zero_or_pos es.size with h | h
 ·exact h
 ·exfalso
  obtain ⟨x,hx⟩:∃ x,x∈es.toList:=⟨es[0],by simp⟩
  obtain ⟨y,hy⟩:=F.reads x hx
  have hkey:=WideElems.rd_key hy
  have hh:=(h3.1 _ _ hkey).1
  rw[h0] at hh
  have:Maps.has (DataW.map ((es.toList.map (WideElems.rg P k idR)).foldr DataW.insert [])) y.1=true :=
   List.any_eq_true.2 ⟨WideElems.rg P k idR x,mem_sorted.2 (List.mem_map.2 ⟨x,hx,rfl⟩),by rw[WideElems.rg_of hy];exact WideAt.sameKey_self (K.key hkey)⟩
  rw[this] at hh
  cases hh

theorem MapV.store {t e:TypeId} (h:MapV P k w b N m) (K:Keyed P k) (ht:P.underlying t=some (.map k e)) (hn:N<maxLen) {key:Value} (val:Value) {kl:Lit} (hk:keyOf P k key=some kl) :
  ∃ w',(Instr.mapUpdate t (.map (some b)) key val).run P w=.ok () w'/\MapV P k w' b (if (m key).isSome then N else N+1) (upd m key val)/\w.grownBy w' (some b)/\w'.heap.size=w.heap.size:=by
 obtain ⟨D,h1,h2,h3⟩:=h
 have tidy:=h1.tidy K
 have hisl:=K.key hk
 obtain ⟨w',hr,h4,h5⟩:=h1.store K ht hn hk (show idR val=some (.held val,[]) from rfl)
 have hsz:w'.heap.size=w.heap.size:=by obtain ⟨_,_,_,_,_,rfl⟩:=h5;simp[setBlock]
 have hN:Maps.size (D.put kl (.held val))=if (m key).isSome then N else N+1:=by rw[size_put tidy,(h3.1 key kl hk).1,h2]
 refine ⟨w',hr,⟨_,hN ▸ own_tight h4,hN, ?_, ?_⟩,h5.grown,hsz⟩
 ·intro key2 kl2 hk2
  by_cases e:key2=key
  ·subst e
   rw[hk] at hk2;cases hk2
   rw[upd_same]
   exact ⟨has_put_same tidy.isMap hisl _,fun v hv z=>by cases hv;exact atKey_put_same tidy.isMap hisl _ _⟩
  ·have hne:kl2≠kl:=fun e2=>e (K.inj hk2 (e2 ▸ hk))
   rw[upd_other e]
   exact ⟨(has_put_other hne _).trans (h3.1 key2 kl2 hk2).1,fun v hv z=>(atKey_put_other hne _ _).trans ((h3.1 key2 kl2 hk2).2 v hv z)⟩
 ·intro key2 h
  by_cases e:key2=key
  ·subst e;exact ⟨kl,hk⟩
  ·rw[upd_other e] at h;exact h3.2 key2 h

theorem MapV.drop {t e:TypeId} (h:MapV P k w b N m) (K:Keyed P k) (ht:P.underlying t=some (.map k e)) {key:Value} {kl:Lit} (hk:keyOf P k key=some kl) (ty:TypeId) :
  ∃ w',(Builtin.delete_ #[t,k] ty #[.map (some b),key]).run P w=.ok (.tuple #[]) w'/\MapV P k w' b (if (m key).isSome then N-1 else N) (era m key)/\w.grownBy w' (some b)/\w'.heap.size=w.heap.size:=by
 obtain ⟨D,h1,h2,h3⟩:=h
 have tidy:=h1.tidy K
 obtain ⟨w',hr,h4,h5⟩:=h1.drop K ht hk ty
 have hsz:w'.heap.size=w.heap.size:=by obtain ⟨_,_,_,_,_,rfl⟩:=h5;simp[setBlock]
 have hN:Maps.size (D.del kl)=if (m key).isSome then N-1 else N:=by
  have:=size_del (k:=kl) tidy
  rw[(h3.1 key kl hk).1,h2] at this
  split at this <;> simp_all <;> omega
 refine ⟨w',hr,⟨_,hN ▸ own_tight h4,hN, ?_, ?_⟩,h5.grown,hsz⟩
 ·intro key2 kl2 hk2
  by_cases e:key2=key
  ·subst e
   rw[hk] at hk2;cases hk2
   rw[era_same]
   exact ⟨has_del_same,fun v hv=>by cases hv⟩
  ·have hne:kl2≠kl:=fun e2=>e (K.inj hk2 (e2 ▸ hk))
   rw[era_other e]
   exact ⟨(has_del_other hne).trans (h3.1 key2 kl2 hk2).1,fun v hv z=>(atKey_del_other hne _).trans ((h3.1 key2 kl2 hk2).2 v hv z)⟩
 ·intro key2 h
  by_cases e:key2=key
  ·subst e;exact ⟨kl,hk⟩
  ·rw[era_other e] at h;exact h3.2 key2 h

theorem MapV.range {t e:TypeId} (h:MapV P k w b N m) (K:Keyed P k) (ht:P.underlying t=some (.map k e)) :
  ∃ w',(Instr.range t (.map (some b))).run P w=.ok (.pointer (some ⟨w.heap.size,0,none⟩)) w'/\RangeV P k w' b w.heap.size N m (fun key=>(m key).isSome=true) N/\w.grownBy w' none/\w'.heap.size=w.heap.size+1:=by
 obtain ⟨D,h1,h2,h3⟩:=h
 obtain ⟨w',hr,h4,h5,h6⟩:=h1.range K ht
 exact ⟨w',hr,⟨D,_,h2 ▸ h4,h2,h3,fun key kl hk=>by rw[(h3.1 key kl hk).1],h3.2⟩,h5,h6⟩

theorem RangeV.next (h:RangeV P k w b r N m left cnt) (K:Keyed P k) (ty:TypeId) :
  (cnt=0/\(∀ key,¬left key)/\(Instr.next (.pointer (some ⟨r,0,none⟩)) false ty).run P w=.ok (.tuple #[.bool false]) w) \/
  ∃ key v w' cnt',left key/\m key=some v/\(Instr.next (.pointer (some ⟨r,0,none⟩)) false ty).run P w=.ok (.tuple #[.bool true,key,v]) w' /\
   RangeV P k w' b r N m (fun x=>left x/\x≠key) cnt'/\cnt'<cnt/\w.grownBy w' (some r)/\w'.heap.size=w.heap.size/\(Instr.entry (.pointer (some ⟨r,0,none⟩))).run P w'=.ok (.tuple #[key,v]) w':=by
 obtain ⟨D,lf,h1,h2,h3,h4,h5⟩:=h
 rcases h1.next K ty with ⟨h0,hl,hrun⟩ | ⟨key,v,kl,y,w',cnt',hkey,hlk,hv,hat,hrun,hrg,hlt,hgr,hsz,hen⟩
 ·refine Or.inl ⟨h0,fun key hk=>?_,hrun⟩
  obtain ⟨kl,hkl⟩:=h5 key hk
  have:=(h4 key kl hkl).2 hk
  rw[hl] at this;cases this
 ·simp only[idR,Option.some.injEq] at hv
  subst hv
  have hmv:m key=some v:=by
   have hh:=(h3.1 key kl hkey).1
   rw[has_true_of_atKey hat] at hh
   obtain ⟨u,hu⟩:=Option.isSome_iff_exists.1 hh.symm
   have:=(h3.1 key kl hkey).2 u hu (.held v)
   rw[hat] at this
   cases this
   exact hu
  refine Or.inr ⟨key,v,w',cnt',(h4 key kl hkey).1 hlk,hmv,hrun,⟨D,_,hrg,h2,h3, ?_,fun x hx=>h5 x hx.1⟩,hlt,hgr,hsz,hen⟩
  intro key2 kl2 hk2
  by_cases e:key2=key
  ·subst e
   rw[hkey] at hk2;cases hk2
   simp[WideAt.sameKey_self (K.key hkey)]
  ·have hne:kl2≠kl:=fun e2=>e (K.inj hk2 (e2 ▸ hkey))
   simp only[sameKey_ne hne,Bool.not_false,Bool.and_true]
   rw[h4 key2 kl2 hk2]
   exact ⟨fun h=>⟨h,e⟩,fun h=>h.1⟩

/-! ### at the operation,for the walk -/
section
variable {ops:Array Oper} {rest:List Oper} {o:Oper} {a:Act} {Q:Exit->Act->World->Prop}

theorem wpList_look (hg:o.guard=none) (mo x:Operand) (t:TypeId) (hop:o.op=Op.lookup t mo x false) (e:TypeId) (K:Keyed P k) (ht:P.underlying t=some (.map k e)) {z:Value} (hz:(zeroValue e).run P w=.ok z w)
  (hm:a.eval mo=.map (some b)) (h:MapV P k w b N m) (key:Value) (kl:Lit) (hx:a.eval x=key) (hk:keyOf P k key=some kl) (u:Value) (hu:(m key).getD z=u)
  (hK:wpList P ops Q rest (a.put o.dst u) w):wpList P ops Q (o :: rest) a w:=by
 refine wpList_plain hg fun K' hK'=>?_
 unfold Oper.wp
 simp[execOp,hop,hm,hx,h.look K ht hz hk,hu,Result.andThen]
 exact hK' _ _ hK

theorem wpList_look_ok (hg:o.guard=none) (mo x:Operand) (t:TypeId) (hop:o.op=Op.lookup t mo x true) (e:TypeId) (K:Keyed P k) (ht:P.underlying t=some (.map k e)) {z:Value} (hz:(zeroValue e).run P w=.ok z w)
  (hm:a.eval mo=.map (some b)) (h:MapV P k w b N m) (key:Value) (kl:Lit) (hx:a.eval x=key) (hk:keyOf P k key=some kl) (u:Value) (hu:(m key).getD z=u) (c:Bool) (hc:(m key).isSome=c)
  (hK:wpList P ops Q rest (a.put o.dst (.tuple #[u,.bool c])) w):wpList P ops Q (o :: rest) a w:=by
 refine wpList_plain hg fun K' hK'=>?_
 unfold Oper.wp
 simp[execOp,hop,hm,hx,h.look_ok K ht hz hk,hu,hc,Result.andThen]
 exact hK' _ _ hK

theorem wpList_store (hg:o.guard=none) (mo x v:Operand) (t:TypeId) (hop:o.op=Op.mapUpdate t mo x v) (e:TypeId) (K:Keyed P k) (ht:P.underlying t=some (.map k e))
  (hm:a.eval mo=.map (some b)) (h:MapV P k w b N m) (hn:N<maxLen) (key val:Value) (kl:Lit) (hx:a.eval x=key) (hv:a.eval v=val) (hk:keyOf P k key=some kl)
  (hK:∀ w',MapV P k w' b (if (m key).isSome then N else N+1) (upd m key val)->w.grownBy w' (some b)->w'.heap.size=w.heap.size->wpList P ops Q rest (a.put o.dst undef) w'):wpList P ops Q (o :: rest) a w:=by
 refine wpList_plain hg fun K' hK'=>?_
 obtain ⟨w',hrun,r1,r2,r3⟩:=h.store K ht hn val hk
 unfold Oper.wp
 simp[execOp,hop,hm,hx,hv,hrun,Result.andThen]
 exact hK' _ _ (hK w' r1 r2 r3)

theorem wpList_drop (hg:o.guard=none) (mo x:Operand) (t:TypeId) (hop:o.op=Op.call { callee:=Callee.builtin Builtin.delete,args:=#[mo,x],argTypes:=#[t,k] }) (e:TypeId) (K:Keyed P k) (ht:P.underlying t=some (.map k e))
  (hm:a.eval mo=.map (some b)) (h:MapV P k w b N m) (key:Value) (kl:Lit) (hx:a.eval x=key) (hk:keyOf P k key=some kl)
  (hK:∀ w',MapV P k w' b (if (m key).isSome then N-1 else N) (era m key)->w.grownBy w' (some b)->w'.heap.size=w.heap.size->wpList P ops Q rest (a.put o.dst (.tuple #[])) w'):wpList P ops Q (o :: rest) a w:=by
 refine wpList_plain hg fun K' hK'=>?_
 obtain ⟨w',hrun,r1,r2,r3⟩:=h.drop K ht hk o.type
 unfold Oper.wp
 simp[execOp,hop,resolve,invoke,builtin,hm,hx,hrun,Result.andThen]
 exact hK' _ _ (hK w' r1 r2 r3)

theorem wpList_range (hg:o.guard=none) (mo:Operand) (t:TypeId) (hop:o.op=Op.range t mo) (e:TypeId) (K:Keyed P k) (ht:P.underlying t=some (.map k e))
  (hm:a.eval mo=.map (some b)) (h:MapV P k w b N m)
  (hK:∀ w',RangeV P k w' b w.heap.size N m (fun key=>(m key).isSome=true) N->w.grownBy w' none->w'.heap.size=w.heap.size+1->wpList P ops Q rest (a.put o.dst (.pointer (some ⟨w.heap.size,0,none⟩))) w'):wpList P ops Q (o :: rest) a w:=by
 refine wpList_plain hg fun K' hK'=>?_
 obtain ⟨w',hrun,r1,r2,r3⟩:=h.range K ht
 unfold Oper.wp
 simp[execOp,hop,hm,hrun,Result.andThen]
 exact hK' _ _ (hK w' r1 r2 r3)

theorem wpList_next {α : Type} (hg:o.guard=none) (it:Operand) (hop:o.op=Op.next it false) (K:Keyed P k) (mk mv:α->Value) (hit:a.eval it=.pointer (some ⟨r,0,none⟩)) (h:RangeV P k w b r N m left cnt)
  (hsh:∀ key v,left key->m key=some v->∃ x,key=mk x/\v=mv x)
  (hDone:cnt=0->(∀ key,¬left key)->wpList P ops Q rest (a.put o.dst (.tuple #[.bool false])) w)
  (hMore:∀ (x:α) (w':World) (cnt':Nat),left (mk x)->m (mk x)=some (mv x)->RangeV P k w' b r N m (fun y=>left y/\y≠mk x) cnt'->cnt'<cnt->w.grownBy w' (some r)->w'.heap.size=w.heap.size ->
   (Instr.entry (.pointer (some ⟨r,0,none⟩))).run P w'=.ok (.tuple #[mk x,mv x]) w'->wpList P ops Q rest (a.put o.dst (.tuple #[.bool true,mk x,mv x])) w'):wpList P ops Q (o :: rest) a w:=by
 refine wpList_plain hg fun K' hK'=>?_
 unfold Oper.wp
 rcases h.next K o.type with ⟨h0,hl,hrun⟩ | ⟨key,v,w',cnt',hlk,hv,hrun,hrg,hlt,hgr,hsz,hen⟩
 ·simp[execOp,hop,hit,hrun,Result.andThen]
  exact hK' _ _ (hDone h0 hl)
 ·obtain ⟨x,rfl,rfl⟩:=hsh key v hlk hv
  simp[execOp,hop,hit,hrun,Result.andThen]
  exact hK' _ _ (hMore x w' cnt' hlk hv hrg hlt hgr hsz hen)
end
end Go.Proofs.YtfmmllpjgkgeaaaGreatDoor
namespace Go.Proofs.YtfmmllpjgkgeaaaGreatDoor
open Go.RowKit Go.Maps Go.WideMaps

abbrev dotV (a n:Int):Value:=.agg #[.int .i64 a,.int .i64 n]
abbrev unitV:Value:=.agg #[]

theorem kInt:Keyed Tryz.prog 3:=int_keyed Tryz.underlying3
theorem laidA:laidOutB Tryz.prog=true:=by kernel_rfl
theorem rowDot:134<Tryz.prog.types.size:=of_decide_eq_true (by kernel_rfl)
theorem kDot:Keyed Tryz.prog 134:=Keyed.of_law (deep_law_laid laidA (m:=2) (by omega) rowDot (by kernel_rfl) (by kernel_rfl))
theorem zInt (w:World):(zeroValue 3).run Tryz.prog w=.ok (.int .i64 0) w:=by kernel_rfl
theorem zUnit (w:World):(zeroValue 69).run Tryz.prog w=.ok unitV w:=by kernel_rfl

theorem wf64 {n:Int} (h:-9223372036854775808<=n/\n<=9223372036854775807):(Lit.int .i64 n).wf=true:=WalkArith.wf_i64 (by omega)
theorem keyInt (a:Nat) (ha:a<=1000):keyOf Tryz.prog 3 (.int .i64 (a:Int))=some (.int .i64 (a:Int)):=keyOf_int_mk Tryz.underlying3 (wf64 (by omega))
theorem keyLitsDot (d:Nat) (a n:Int) (h1:(Lit.int .i64 a).wf=true) (h2:(Lit.int .i64 n).wf=true):Tryz.prog.keyLits (d+2) 134 [.int .i64 a,.int .i64 n]=some [.int .i64 a,.int .i64 n]:=by
 have hc:Tryz.prog.cellsOf 134=2:=by kernel_rfl
 have hi:Tryz.prog.cellsOf 3=1:=by kernel_rfl
 simp[Tryz.underlying134,hc,Program.keyLits,hi,Tryz.underlying3,h1,h2]
theorem keyDot (a n:Nat) (ha:a<=1000) (hn:n<=1000):∃ kl,keyOf Tryz.prog 134 (dotV a n)=some kl:=by
 have h1:(Lit.int .i64 (a:Int)).wf=true:=wf64 (by omega)
 have h2:(Lit.int .i64 (n:Int)).wf=true:=wf64 (by omega)
 have hk:Tryz.prog.keyType 134=true:=by kernel_rfl
 have hf:(dotV a n).formed Tryz.prog 134=true:=by
  have hc:Tryz.prog.cellsOf 134=2:=by kernel_rfl
  simp[Value.formed,Tryz.underlying134,hc]
 obtain ⟨d,hd⟩:∃ d,Tryz.prog.types.size+1=d+2:=⟨Tryz.prog.types.size-1,by have:=rowDot;omega⟩
 refine ⟨.string (keyBytes [.int .i64 (a:Int),.int .i64 (n:Int)]), ?_⟩
 unfold keyOf
 rw[Tryz.underlying134,hd]
 simp only[hk,hf,Bool.and_self,if_true]
 rw[show (dotV a n).cells.toList=[.int .i64 (a:Int),.int .i64 (n:Int)] from rfl,keyLitsDot d _ _ h1 h2]
 rfl

def who (d:Nat):Nat:=d / 512
def nth (d:Nat):Nat:=d % 512
def mkD (a n:Nat):Nat:=a*512+n
theorem who_mk {a n:Nat} (h:n<512):who (mkD a n)=a:=by unfold who mkD;omega
theorem nth_mk {a n:Nat} (h:n<512):nth (mkD a n)=n:=by unfold nth mkD;omega
theorem nth_lt (d:Nat):nth d<512:=by unfold nth;omega
theorem mk_wn (d:Nat):mkD (who d) (nth d)=d:=by unfold who nth mkD;omega
theorem dot_ext {x y:Nat} (h1:who x=who y) (h2:nth x=nth y):x=y:=by rw[<- mk_wn x,<- mk_wn y,h1,h2]
def okD (d:Nat):Prop:=who d<=5/\1<=nth d/\nth d<=501
abbrev dotE (d:Nat):Value:=dotV (who d:Int) (nth d:Int)
theorem dotV_mk {a n:Nat} (h:n<512):dotV (a:Int) (n:Int)=dotE (mkD a n):=by unfold dotE;rw[who_mk h,nth_mk h]
theorem dotE_inj {x y:Nat} (h:dotE x=dotE y):x=y:=by
 simp[dotV] at h
 exact dot_ext (by omega) (by omega)
theorem okD_lt {d:Nat} (h:okD d):d<3072:=by
 obtain ⟨h1,h2,h3⟩:=h
 have:=mk_wn d
 unfold mkD at this
 omega
theorem keyE (d:Nat) (ha:who d<=1000):∃ kl,keyOf Tryz.prog 134 (dotE d)=some kl:=keyDot (who d) (nth d) ha (by have:=nth_lt d;omega)


def MapO (P:Program) (k:TypeId) (w:World) (v:Value) (N:Nat) (m:Value->Option Value):Prop:=(v=.map none/\N=0/\m=fun _=>none)\/∃ b,v=.map (some b)/\MapV P k w b N m

section
variable {P:Program} {k:TypeId} {w:World} {v:Value} {N:Nat} {m:Value->Option Value}
theorem MapO.below {w':World} (h:MapO P k w v N m) (hb:Below w.heap.size w w'):MapO P k w' v N m:=by
 rcases h with h | ⟨b,h1,h2⟩
 ·exact Or.inl h
 ·exact Or.inr ⟨b,h1,h2.block (hb.block b h2.lt)⟩
theorem MapO.look {t e:TypeId} (h:MapO P k w v N m) (K:Keyed P k) (ht:P.underlying t=some (.map k e)) {z:Value} (hz:(zeroValue e).run P w=.ok z w) {key:Value} {kl:Lit} (hk:keyOf P k key=some kl) :
  (Instr.lookup t v key false).run P w=.ok ((m key).getD z) w:=by
 rcases h with ⟨rfl,_,rfl⟩ | ⟨b,rfl,h2⟩
 ·simpa using Maps.look_nil false K ht hz hk
 ·exact h2.look K ht hz hk
theorem MapO.look_ok {t e:TypeId} (h:MapO P k w v N m) (K:Keyed P k) (ht:P.underlying t=some (.map k e)) {z:Value} (hz:(zeroValue e).run P w=.ok z w) {key:Value} {kl:Lit} (hk:keyOf P k key=some kl) :
  (Instr.lookup t v key true).run P w=.ok (.tuple #[(m key).getD z,.bool (m key).isSome]) w:=by
 rcases h with ⟨rfl,_,rfl⟩ | ⟨b,rfl,h2⟩
 ·simpa using Maps.look_nil true K ht hz hk
 ·exact h2.look_ok K ht hz hk
theorem MapO.len {t e:TypeId} (h:MapO P k w v N m) (ht:P.underlying t=some (.map k e)) (ty:TypeId):(Builtin.len_ #[t] ty #[v]).run P w=.ok (.int .i64 (N:Int)) w:=by
 rcases h with ⟨rfl,rfl,rfl⟩ | ⟨b,rfl,h2⟩
 ·exact Maps.len_nil ht ty
 ·exact h2.len ht ty

variable {ops:Array Oper} {rest:List Oper} {o:Oper} {a:Act} {Q:Exit->Act->World->Prop}
theorem wpList_lookO (hg:o.guard=none) (mo x:Operand) (t:TypeId) (hop:o.op=Op.lookup t mo x false) (e:TypeId) (K:Keyed P k) (ht:P.underlying t=some (.map k e)) {z:Value} (hz:(zeroValue e).run P w=.ok z w)
  (hm:a.eval mo=v) (h:MapO P k w v N m) (key:Value) (kl:Lit) (hx:a.eval x=key) (hk:keyOf P k key=some kl) (u:Value) (hu:(m key).getD z=u)
  (hK:wpList P ops Q rest (a.put o.dst u) w):wpList P ops Q (o :: rest) a w:=by
 refine wpList_plain hg fun K' hK'=>?_
 unfold Oper.wp
 simp[execOp,hop,hm,hx,h.look K ht hz hk,hu,Result.andThen]
 exact hK' _ _ hK
theorem wpList_lookO_ok (hg:o.guard=none) (mo x:Operand) (t:TypeId) (hop:o.op=Op.lookup t mo x true) (e:TypeId) (K:Keyed P k) (ht:P.underlying t=some (.map k e)) {z:Value} (hz:(zeroValue e).run P w=.ok z w)
  (hm:a.eval mo=v) (h:MapO P k w v N m) (key:Value) (kl:Lit) (hx:a.eval x=key) (hk:keyOf P k key=some kl) (u:Value) (hu:(m key).getD z=u) (c:Bool) (hc:(m key).isSome=c)
  (hK:wpList P ops Q rest (a.put o.dst (.tuple #[u,.bool c])) w):wpList P ops Q (o :: rest) a w:=by
 refine wpList_plain hg fun K' hK'=>?_
 unfold Oper.wp
 simp[execOp,hop,hm,hx,h.look_ok K ht hz hk,hu,hc,Result.andThen]
 exact hK' _ _ hK
end

noncomputable def cm (c:Nat->Nat):Value->Option Value:=fun key=>@dite _ (∃ a:Nat,key=.int .i64 (a:Int)) (Classical.propDecidable _) (fun h=>if c (Classical.choose h)=0 then none else some (.int .i64 (c (Classical.choose h):Int))) (fun _=>none)
open Classical in
noncomputable def lm (L:Nat->Bool):Value->Option Value:=fun key=>if ∃ d,L d=true/\key=dotE d then some unitV else none

theorem cm_at (c:Nat->Nat) (a:Nat):cm c (.int .i64 (a:Int))=if c a=0 then none else some (.int .i64 (c a:Int)):=by
 unfold cm
 have h:∃ b:Nat,Value.int .i64 (a:Int)=.int .i64 (b:Int):=⟨a,rfl⟩
 rw[dif_pos h]
 have hs:=Classical.choose_spec h
 have e:a=Classical.choose h:=by injection hs with _ h2;omega
 rw[<- e]
theorem cm_shape {c:Nat->Nat} {key v:Value} (h:cm c key=some v):∃ a:Nat,key=.int .i64 (a:Int)/\v=.int .i64 (c a:Int)/\c a≠0:=by
 by_cases hk:∃ a:Nat,key=.int .i64 (a:Int)
 ·obtain ⟨a,rfl⟩:=hk
  rw[cm_at] at h
  split at h
  ·cases h
  ·rename_i h0;cases h;exact ⟨a,rfl,rfl,h0⟩
 ·unfold cm at h;rw[dif_neg hk] at h;cases h
theorem cm_ext {c:Nat->Nat} {m:Value->Option Value} (h1:∀ a:Nat,m (.int .i64 (a:Int))=if c a=0 then none else some (.int .i64 (c a:Int))) (h2:∀ key,(∀ a:Nat,key≠.int .i64 (a:Int))->m key=none):m=cm c:=by
 funext key
 by_cases h:∃ a:Nat,key=.int .i64 (a:Int)
 ·obtain ⟨a,rfl⟩:=h;rw[h1,cm_at]
 ·rw[h2 key (fun a e=>h ⟨a,e⟩)];unfold cm;rw[dif_neg h]
theorem cm_get (a:Nat) (c:Nat->Nat):(cm c (.int .i64 (a:Int))).getD (.int .i64 0)=.int .i64 (c a:Int):=by
 rw[cm_at]
 by_cases h:c a=0
 ·rw[if_pos h,h];(first | done | rfl)
 ·rw[if_neg h];(first | done | rfl)
theorem lm_some (d:Nat) (L:Nat->Bool):(lm L (dotE d)).isSome=L d:=by
 unfold lm
 by_cases h:L d=true
 ·rw[if_pos ⟨d,h,rfl⟩,h];(first | done | rfl)
 ·rw[if_neg,Bool.eq_false_iff.2 h];(first | done | rfl)
  rintro ⟨d',h1,h2⟩
  have:d=d':=dotE_inj h2
  exact h (this ▸ h1)
theorem lm_getD (L:Nat->Bool) (key:Value):(lm L key).getD unitV=unitV:=by
 unfold lm;split <;> rfl
theorem lm_shape {L:Nat->Bool} {key v:Value} (h:lm L key=some v):∃ d,L d=true/\key=dotE d/\v=unitV:=by
 unfold lm at h
 split at h
 ·rename_i hh;obtain ⟨d,h1,h2⟩:=hh;cases h;exact ⟨d,h1,h2,rfl⟩
 ·cases h

structure CtxV (w:World) (cv lv:Value) (c:Nat->Nat) (L:Nat->Bool):Prop where
 cs:∃ N,MapO Tryz.prog 3 w cv N (cm c)
 ls:∃ N,MapO Tryz.prog 134 w lv N (lm L)
 c501:∀ a,c a<=501
 c5:∀ a,c a≠0->a<=5
 l501:∀ d,L d=true->okD d/\c (who d)<nth d

theorem CtxV.below {w w':World} {cv lv:Value} {c:Nat->Nat} {L:Nat->Bool} (h:CtxV w cv lv c L) (hb:Below w.heap.size w w'):CtxV w' cv lv c L:=by
 obtain ⟨⟨N,h1⟩,⟨N',h2⟩,h3,h4,h5⟩:=h
 exact ⟨⟨N,h1.below hb⟩,⟨N',h2.below hb⟩,h3,h4,h5⟩

theorem next_any (w:World) (cv lv:Value) (a:Nat) (c:Nat->Nat) (L:Nat->Bool) (h:CtxV w cv lv c L) (ha:a<=5) :
  Calls Tryz.prog 146 #[.agg #[cv,lv],.int .i64 (a:Int)] w fun e w'=>e=.returned (.agg #[.int .i64 (a:Int),.int .i64 ((c a+1:Nat):Int)])/\Below w.heap.size w w':=by
 obtain ⟨⟨N,h1⟩,⟨N',h2⟩,h3,h4,h5⟩:=h
 have H1:Hid (∀ w',Below w.heap.size w w'->MapO Tryz.prog 3 w' cv N (cm c)):=fun w' hb=>h1.below hb
 have hk:=keyInt a (by omega)
 have hu:=cm_get a c
 have h3a:=h3 a
 generalize c a=ca at *
 clear h1 h2 h3 h4 h5
 go_enter Tryz.func146,Tryz.ntmps146
 go_wp2_with (first | (at_lookup;refine wpList_lookO rfl (.tmp 7) (.tmp 8) 97 rfl 3 kInt Tryz.underlying97 (zInt _) rfl (H1.out _ ?_) _ _ rfl hk _ hu ?_;(go_grown)))
 refine bodyPost_ret (v:=dotV a ((ca+1:Nat):Int)) (by simp[results,Tryz.results146,go_sem]) rfl ⟨rfl,by go_grown⟩

theorem has_any (w:World) (cv lv:Value) (c:Nat->Nat) (d:Nat) (L:Nat->Bool) (h:CtxV w cv lv c L) (ha:who d<=5) :
  Calls Tryz.prog 210 #[.agg #[cv,lv],dotE d] w fun e w'=>e=.returned (.bool (decide (nth d<=c (who d)) || L d))/\Below w.heap.size w w':=by
 obtain ⟨⟨N,h1⟩,⟨N',h2⟩,h3,h4,h5⟩:=h
 have H1:Hid (∀ w',Below w.heap.size w w'->MapO Tryz.prog 3 w' cv N (cm c)):=fun w' hb=>h1.below hb
 have H2:Hid (∀ w',Below w.heap.size w w'->MapO Tryz.prog 134 w' lv N' (lm L)):=fun w' hb=>h2.below hb
 have hk:=keyInt (who d) (by omega)
 obtain ⟨kl,hkl⟩:=keyE d (by omega)
 have hu:=cm_get (who d) c
 have hu2:=lm_getD L (dotE d)
 have hc2:=lm_some d L
 have h3a:=h3 (who d)
 have hn:=nth_lt d
 unfold dotE at *
 generalize L d=ln at *
 generalize c (who d)=ca at *
 generalize who d=a at *
 generalize nth d=n at *
 clear h1 h2 h3 h4 h5
 by_cases hnc:n<=ca
 ·have hd:decide (n<=ca)=true:=by simpa using hnc
  rw[hd]
  go_enter Tryz.func210,Tryz.ntmps210
  go_wp2_with (first | (at_lookup;refine wpList_lookO rfl (.tmp 10) (.tmp 12) 97 rfl 3 kInt Tryz.underlying97 (zInt _) rfl (H1.out _ ?_) _ _ rfl hk _ hu ?_;(go_grown)))
  go_ret
  exact ⟨rfl,by go_grown⟩
 ·have hd:decide (n<=ca)=false:=by simpa using hnc
  rw[hd]
  go_enter Tryz.func210,Tryz.ntmps210
  go_wp2_with (first | (at_lookup;refine wpList_lookO rfl (.tmp 10) (.tmp 12) 97 rfl 3 kInt Tryz.underlying97 (zInt _) rfl (H1.out _ ?_) _ _ rfl hk _ hu ?_;(go_grown)) | (at_lookup;refine wpList_lookO_ok rfl (.tmp 17) (.tmp 18) 98 rfl 69 kDot Tryz.underlying98 (zUnit _) rfl (H2.out _ ?_) _ _ rfl hkl _ hu2 _ hc2 ?_;(go_grown)))
  go_ret
  exact ⟨by simp,by go_grown⟩
end Go.Proofs.YtfmmllpjgkgeaaaGreatDoor
namespace Go.Proofs.YtfmmllpjgkgeaaaGreatDoor
open Go.RowKit Go.Maps Go.WideMaps Go.ChangeMaps Go.MapKept

structure CtxW (w:World) (cb lb:Nat) (c:Nat->Nat) (L:Nat->Bool):Prop where
 cs:∃ N,MapV Tryz.prog 3 w cb N (cm c)
 ls:∃ N,MapV Tryz.prog 134 w lb N (lm L)
 ne:cb≠lb
 c501:∀ a,c a<=501
 c5:∀ a,c a≠0->a<=5
 l501:∀ d,L d=true->okD d/\c (who d)<nth d
theorem CtxW.toV {w:World} {cb lb:Nat} {c:Nat->Nat} {L:Nat->Bool} (h:CtxW w cb lb c L):CtxV w (.map (some cb)) (.map (some lb)) c L:=by
 obtain ⟨⟨N,h1⟩,⟨N',h2⟩,_,h3,h4,h5⟩:=h
 exact ⟨⟨N,Or.inr ⟨_,rfl,h1⟩⟩,⟨N',Or.inr ⟨_,rfl,h2⟩⟩,h3,h4,h5⟩
theorem CtxW.lt {w:World} {cb lb:Nat} {c:Nat->Nat} {L:Nat->Bool} (h:CtxW w cb lb c L):cb<w.heap.size/\lb<w.heap.size:=by
 obtain ⟨⟨N,h1⟩,⟨N',h2⟩,_⟩:=h;exact ⟨h1.lt,h2.lt⟩
theorem CtxW.chg {M:Nat->Prop} {w w':World} {cb lb:Nat} {c:Nat->Nat} {L:Nat->Bool} (h:CtxW w cb lb c L) (hc:Chg M w w') (h1:¬M cb) (h2:¬M lb):CtxW w' cb lb c L:=by
 obtain ⟨⟨N,g1⟩,⟨N',g2⟩,r1,r2,r3,r4⟩:=h
 exact ⟨⟨N,g1.block (hc.block _ g1.lt h1)⟩,⟨N',g2.block (hc.block _ g2.lt h2)⟩,r1,r2,r3,r4⟩
theorem CtxW.below {w w':World} {cb lb:Nat} {c:Nat->Nat} {L:Nat->Bool} (h:CtxW w cb lb c L) (hb:Below w.heap.size w w'):CtxW w' cb lb c L:=h.chg (M:=fun _=>False) (Chg.of_below hb) (fun h=>h) (fun h=>h)

theorem nodup_lt:∀ (M:Nat) (l:List Nat),l.Pairwise (fun x y=>x≠y)->(∀ x∈l,x<M)->l.length<=M:=by
 intro M
 induction M with
 | zero=>intro l _ h;cases l with | nil=>simp | cons x r=>exact absurd (h x (by simp)) (by omega)
 | succ M ih =>
  intro l hp h
  by_cases hm:M∈l
  ·have h1:=ih (l.erase M) (hp.sublist List.erase_sublist) (fun x hx=>by
    have h2:=List.mem_of_mem_erase hx
    have h3:=h x h2
    have h4:x≠M:=fun e=>by
     subst e
     exact (List.Nodup.not_mem_erase (show l.Nodup from hp)) hx
    omega)
   have:=List.length_erase_of_mem hm
   omega
  ·have:=ih l hp (fun x hx=>by have:=h x hx;have:x≠M:=fun e=>hm (e ▸ hx);omega)
   omega

theorem MapV.bound {P:Program} {k:TypeId} {w:World} {b N M:Nat} {m:Value->Option Value} (h:MapV P k w b N m) (K:Keyed P k) (f:Nat->Value) (hf:∀ key,(m key).isSome=true->∃ n,n<M/\key=f n):N<=M:=by
 obtain ⟨D,h1,h2,h3⟩:=h
 obtain ⟨es,clock,hb,F,hs,rfl⟩:=h1
 have hst:=(stamped_iff es clock).1 F.stamped
 rw[<- h2]
 simp only[Maps.size,length_sorted,List.length_map]
 have hx:∀ x∈es.toList,∃ n,n<M/\x.key=f n:=by
  intro x hx
  obtain ⟨y,hy⟩:=F.reads x hx
  have hkey:=WideElems.rd_key hy
  refine hf _ ?_
  rw[<- (h3.1 _ _ hkey).1]
  exact List.any_eq_true.2 ⟨WideElems.rg P k idR x,mem_sorted.2 (List.mem_map.2 ⟨x,hx,rfl⟩),by rw[WideElems.rg_of hy];exact WideAt.sameKey_self (K.key hkey)⟩
 obtain ⟨g,hg⟩:∃ g:MapEntry->Nat,∀ x∈es.toList,g x<M/\x.key=f (g x):=by
  refine ⟨fun x=>@dite Nat (x∈es.toList) (Classical.propDecidable _) (fun h=>Classical.choose (hx x h)) (fun _=>0),fun x h=>?_⟩
  dsimp only
  rw[dif_pos h]
  exact Classical.choose_spec (hx x h)
 have hp:(es.toList.map g).Pairwise (fun x y=>x≠y):=by
  rw[List.pairwise_map]
  refine List.Pairwise.imp_of_mem ?_ hst.2.2
  intro x y hx hy hne e
  exact hne (by rw[(hg x hx).2,(hg y hy).2,e])
 have:=nodup_lt M _ hp (fun n hn=>by obtain ⟨x,hx,rfl⟩:=List.mem_map.1 hn;exact (hg x hx).1)
 simpa using this

theorem loose_bound {w:World} {lb N:Nat} {L:Nat->Bool} (h:MapV Tryz.prog 134 w lb N (lm L)) (hl:∀ d,L d=true->okD d):N<=3072:=by
 refine h.bound kDot (fun d=>dotE d) ?_
 intro key hk
 unfold lm at hk
 split at hk
 ·rename_i h;obtain ⟨d,h1,h2⟩:=h;exact ⟨d,okD_lt (hl d h1),h2⟩
 ·cases hk
theorem counts_bound {w:World} {cb N:Nat} {c:Nat->Nat} (h:MapV Tryz.prog 3 w cb N (cm c)) (h5:∀ a,c a≠0->a<=5):N<=6:=by
 refine h.bound kInt (fun a=>.int .i64 (a:Int)) ?_
 intro key hk
 obtain ⟨v,hv⟩:=Option.isSome_iff_exists.1 hk
 obtain ⟨a,h1,_,h2⟩:=cm_shape hv
 exact ⟨a,by have:=h5 a h2;omega,h1⟩

def inc (c:Nat->Nat) (a:Nat):Nat->Nat:=fun x=>if x=a then c a+1 else c x
theorem inc_same (c:Nat->Nat) (a:Nat):inc c a a=c a+1:=if_pos rfl
theorem inc_oth {c:Nat->Nat} {a x:Nat} (h:x≠a):inc c a x=c x:=if_neg h
theorem cm_upd (a:Nat) (c:Nat->Nat):upd (cm c) (.int .i64 (a:Int)) (.int .i64 ((c a+1:Nat):Int))=cm (inc c a):=by
 apply cm_ext
 ·intro x
  by_cases e:x=a
  ·subst e;rw[upd_same,inc_same,if_neg (by omega)]
  ·rw[upd_other (fun h=>e (by simp at h;omega)),cm_at,inc_oth e]
 ·intro key hk
  rw[upd_other (hk a)]
  cases h:cm c key with
  | none=>rfl
  | some v=>obtain ⟨x,hx,_⟩:=cm_shape h;exact absurd hx (hk x)
theorem lm_upd (d:Nat) (L:Nat->Bool):upd (lm L) (dotE d) unitV=lm (fun k=>L k || k == d):=by
 funext key
 by_cases e:key=dotE d
 ·subst e;rw[upd_same];unfold lm;rw[if_pos ⟨d,by simp,rfl⟩]
 ·rw[upd_other e]
  unfold lm
  congr 1
  apply propext
  constructor
  ·rintro ⟨k,h1,h2⟩;exact ⟨k,by simp[h1],h2⟩
  ·rintro ⟨k,h1,h2⟩
   simp at h1
   rcases h1 with h1 | h1
   ·exact ⟨k,h1,h2⟩
   ·subst h1;exact absurd h2 e
theorem lm_era (d:Nat) (L:Nat->Bool):era (lm L) (dotE d)=lm (fun k=>L k && k != d):=by
 funext key
 by_cases e:key=dotE d
 ·subst e;rw[era_same];unfold lm;rw[if_neg]
  rintro ⟨k,h1,h2⟩
  have:=dotE_inj h2
  subst this
  simp at h1
 ·rw[era_other e]
  unfold lm
  congr 1
  apply propext
  constructor
  ·rintro ⟨k,h1,h2⟩;exact ⟨k,by simp[h1];rintro rfl;exact e h2,h2⟩
  ·rintro ⟨k,h1,h2⟩;simp at h1;exact ⟨k,h1.1,h2⟩

structure CG (w:World) (B cb lb:Nat) (c:Nat->Nat) (L:Nat->Bool) (wx:World):Prop where
 ctx:CtxW wx cb lb c L
 b0:wx.cell? ⟨B,0,none⟩=some (.map (some cb))
 b1:wx.cell? ⟨B,1,none⟩=some (.map (some lb))
 old:cb<w.heap.size/\lb<w.heap.size
 new:w.heap.size<=B
 lt:B<wx.heap.size
 chg:Chg (fun k=>k=cb\/k=lb) w wx
theorem CG.below {w:World} {B cb lb:Nat} {c:Nat->Nat} {L:Nat->Bool} {wx wy:World} (h:CG w B cb lb c L wx) (hb:Below wx.heap.size wx wy):CG w B cb lb c L wy :=
 ⟨h.ctx.below hb,(hb.cell (p:=⟨B,0,none⟩) h.lt).trans h.b0,(hb.cell (p:=⟨B,1,none⟩) h.lt).trans h.b1,h.old,h.new,Nat.lt_of_lt_of_le h.lt hb.size,h.chg.below hb⟩
theorem CG.grown {w:World} {B cb lb:Nat} {c c':Nat->Nat} {L L':Nat->Bool} {wx wy:World} {k:Nat} (h:CG w B cb lb c L wx) (hg:wx.grownBy wy (some k)) (hk:k=cb\/k=lb) (hc:CtxW wy cb lb c' L'):CG w B cb lb c' L' wy:=by
 have hB:some B≠some k:=fun e=>by cases e;have:=h.old;have:=h.new;omega
 have hcell:∀ i,wy.cell? ⟨B,i,none⟩=wx.cell? ⟨B,i,none⟩:=fun i=>World.cell?_of_block (w:=wx) (hg.block B h.lt hB)
 exact ⟨hc,(hcell 0).trans h.b0,(hcell 1).trans h.b1,h.old,h.new,Nat.lt_of_lt_of_le h.lt hg.size,h.chg.grown hg (fun j e=>by cases e;exact Or.inl hk)⟩
end Go.Proofs.YtfmmllpjgkgeaaaGreatDoor
namespace Go.Proofs.YtfmmllpjgkgeaaaGreatDoor
open Go.RowKit Go.Maps Go.WideMaps

theorem CG.drop {w:World} {B cb lb:Nat} {d N:Nat} {c:Nat->Nat} {L:Nat->Bool} {wx wy:World} (h:CG w B cb lb c L wx) (hg:wx.grownBy wy (some lb)) (hm:MapV Tryz.prog 134 wy lb N (era (lm L) (dotE d))):CG w B cb lb c (fun k=>L k && k != d) wy:=by
 obtain ⟨N',h1⟩:=h.ctx.cs
 refine h.grown hg (Or.inr rfl) ⟨⟨N',h1.kept hg (fun e=>h.ctx.ne (by cases e;rfl))⟩,⟨N,by rw[lm_era] at hm;exact hm⟩,h.ctx.ne,h.ctx.c501,h.ctx.c5,fun k hk=>h.ctx.l501 k (by simp at hk;exact hk.1)⟩
theorem CG.inc {w:World} {B cb lb a:Nat} {N:Nat} {c:Nat->Nat} {L:Nat->Bool} {wx wy:World} (h:CG w B cb lb c L wx) (hg:wx.grownBy wy (some cb)) (hm:MapV Tryz.prog 3 wy cb N (upd (cm c) (.int .i64 (a:Int)) (.int .i64 ((c a+1:Nat):Int)))) (ha:a<=5) (h1:c a+1<=501) (h2:L (mkD a (c a+1))=false):CG w B cb lb (Go.Proofs.YtfmmllpjgkgeaaaGreatDoor.inc c a) L wy:=by
 obtain ⟨N',h3⟩:=h.ctx.ls
 refine h.grown hg (Or.inl rfl) ⟨⟨N,by rw[cm_upd] at hm;exact hm⟩,⟨N',h3.kept hg (fun e=>h.ctx.ne (by cases e;rfl))⟩,h.ctx.ne,fun x=>?_,fun x hx=>?_,fun k hk=>?_⟩
 ·by_cases e:x=a
  ·subst e;rw[inc_same];exact h1
  ·rw[inc_oth e];exact h.ctx.c501 x
 ·by_cases e:x=a
  ·subst e;exact ha
  ·rw[inc_oth e] at hx;exact h.ctx.c5 x hx
 ·have:=h.ctx.l501 k hk
  refine ⟨this.1, ?_⟩
  by_cases e:who k=a
  ·rw[e,inc_same]
   have h4:=this.2
   rw[e] at h4
   rcases Nat.lt_or_ge (c a+1) (nth k) with h | h
   ·exact h
   ·have e2:k=mkD a (c a+1):=(dot_ext (by rw[who_mk (by omega),e]) (by rw[nth_mk (by omega)];omega))
    rw[e2,h2] at hk;cases hk
  ·rw[inc_oth e];exact this.2
theorem CG.put {w:World} {B cb lb:Nat} {d N:Nat} {c:Nat->Nat} {L:Nat->Bool} {wx wy:World} (h:CG w B cb lb c L wx) (hg:wx.grownBy wy (some lb)) (hm:MapV Tryz.prog 134 wy lb N (upd (lm L) (dotE d) unitV)) (h1:c (who d)<nth d) (h2:okD d):CG w B cb lb c (fun k=>L k || k == d) wy:=by
 obtain ⟨N',h3⟩:=h.ctx.cs
 refine h.grown hg (Or.inr rfl) ⟨⟨N',h3.kept hg (fun e=>h.ctx.ne (by cases e;rfl))⟩,⟨N,by rw[lm_upd] at hm;exact hm⟩,h.ctx.ne,h.ctx.c501,h.ctx.c5,fun k hk=>?_⟩
 simp at hk
 rcases hk with hk | hk
 ·exact h.ctx.l501 k hk
 ·subst hk;exact ⟨h2,h1⟩

def inK (c:Nat->Nat) (L:Nat->Bool) (d:Nat):Prop:=nth d<=c (who d)\/L d=true
structure SameD (a:Nat) (c:Nat->Nat) (L:Nat->Bool) (c':Nat->Nat) (L':Nat->Bool):Prop where
 same:∀ d,inK c' L' d↔inK c L d
 oc:∀ x,x≠a->c' x=c x
 ol:∀ d,who d≠a->L' d=L d
theorem SameD.refl (a:Nat) (c:Nat->Nat) (L:Nat->Bool):SameD a c L c L:=⟨fun _=>Iff.rfl,fun _ _=>rfl,fun _ _=>rfl⟩
theorem SameD.step {a:Nat} {c c':Nat->Nat} {L L':Nat->Bool} (h:SameD a c L c' L') (hl:L' (mkD a (c' a+1))=true) (h501:c' a+1<512):SameD a c L (inc c' a) (fun k=>L' k && k != mkD a (c' a+1)):=by
 refine ⟨fun d=>?_,fun x hx=>by rw[inc_oth hx];exact h.oc x hx,fun d hd=>?_⟩
 ·rw[<- h.same d]
  unfold inK
  simp only[Bool.and_eq_true,bne_iff_ne,ne_eq]
  by_cases e:who d=a
  ·rw[e,inc_same]
   constructor
   ·rintro (h | ⟨h,_⟩)
    ·by_cases e2:nth d=c' a+1
     ·right;rw[<- hl];congr 1;exact dot_ext (by rw[who_mk h501,e]) (by rw[nth_mk h501,e2])
     ·left;omega
    ·exact Or.inr h
   ·rintro (h | h)
    ·left;omega
    ·by_cases e2:d=mkD a (c' a+1)
     ·left;rw[e2,nth_mk h501];omega
     ·exact Or.inr ⟨h,e2⟩
  ·rw[inc_oth e]
   have hne:d≠mkD a (c' a+1):=fun e2=>e (by rw[e2,who_mk h501])
   constructor
   ·rintro (h | ⟨h,_⟩)
    ·exact Or.inl h
    ·exact Or.inr h
   ·rintro (h | h)
    ·exact Or.inl h
    ·exact Or.inr ⟨h,hne⟩
 ·have hne:d≠mkD a (c' a+1):=fun e2=>hd (by rw[e2,who_mk h501])
  simp[hne,h.ol d hd]

theorem closeGap_any (w:World) (cb lb a:Nat) (c:Nat->Nat) (L:Nat->Bool) (h:CtxW w cb lb c L) (a5:a<=5) :
  Calls Tryz.prog 248 #[.agg #[.map (some cb),.map (some lb)],.int .i64 (a:Int)] w fun e w'=>e=.returned (.tuple #[])/\∃ c' L',CtxW w' cb lb c' L'/\L' (mkD a (c' a+1))=false/\SameD a c L c' L'/\Chg (fun k=>k=cb\/k=lb) w w':=by
 have hk:=keyInt a (by omega)
 have HG:Hid (∀ ob,ob=.cells #[.map (some cb),.map (some lb)] 100->CG w w.heap.size cb lb c L (w.alloc ob)):=fun ob hob=>by
  subst hob
  have hb:Below w.heap.size w (w.alloc (.cells #[.map (some cb),.map (some lb)] 100)):=(Below.refl _ w).alloc (Nat.le_refl _) _
  exact ⟨h.below hb,World.cell?_alloc_at _ _ _ _ rfl,World.cell?_alloc_at _ _ _ _ rfl,h.lt,Nat.le_refl _,by simp,Chg.of_below hb⟩
 clear h
 go_enter Tryz.func248,Tryz.ntmps248
 go_wp2
 go_loopg [6] (501-c a) (fun g v6 wx=>∃ (c':Nat->Nat) (L':Nat->Bool),g=501-c' a/\CG w w.heap.size cb lb c' L' wx/\SameD a c L c' L')
 case atStart=>exact ⟨c,L,rfl,HG.out _ rfl,SameD.refl a c L⟩
 case round =>
  obtain ⟨c',L',hgc,hC,hS⟩:=hrel
  have HC:Hid (CG w w.heap.size cb lb c' L' wr):=hC
  have HS:Hid (SameD a c L c' L'):=hS
  have b0:=hC.b0
  have b1:=hC.b1
  have c501:=hC.ctx.c501 a
  have Hn:Hid (_):=next_any wr _ _ a c' L' hC.ctx.toV a5
  obtain ⟨ca,hca⟩:∃ ca,c' a=ca:=⟨_,rfl⟩
  have Hca:Hid (c' a=ca):=hca
  rw[hca] at Hn c501 hgc
  clear hC hS HG hca
  go_wp2_with fail
  refine Calls.mono Hn.out ?_
  rintro e w1 ⟨rfl,hb1⟩
  have HC1:Hid (CG w w.heap.size cb lb c' L' w1):=HC.out.below hb1
  have b0:=HC1.out.b0
  have b1:=HC1.out.b1
  have hlt:=HC1.out.lt
  have hw:=HC1.out.new
  have hm512:ca+1<512:=by omega
  have HE:Hid (dotV (a:Int) ((ca+1:Nat):Int)=dotE (mkD a (ca+1))):=dotV_mk hm512
  obtain ⟨kl,hkl⟩:=keyDot a (ca+1) (by omega) (by omega)
  have hu2:=lm_getD L' (dotV a (ca+1:Nat))
  have hc2:(lm L' (dotV a (ca+1:Nat))).isSome=L' (mkD a (ca+1)):=by rw[HE.out];exact lm_some _ _
  have hu:=cm_get a c'
  rw[Hca.out] at hu
  clear Hn hb1 HC
  obtain ⟨Nl,hNl⟩:=HC1.out.ctx.ls
  have hNb:Nl<=3072:=loose_bound hNl (fun n hn=>(HC1.out.ctx.l501 n hn).1)
  have HL:Hid (∀ wy,Below w1.heap.size w1 wy->MapV Tryz.prog 134 wy lb Nl (lm L')):=fun wy hb=>hNl.block (hb.block _ hNl.lt)
  have HCb:Hid (∀ wy,Below w1.heap.size w1 wy->CG w w.heap.size cb lb c' L' wy):=fun wy hb=>HC1.out.below hb
  clear hNl
  cases hl:L' (mkD a (ca+1)) with
  | false =>
   have Hl:Hid (L' (mkD a (c' a+1))=false):=by unfold Hid;rw[Hca.out];exact hl
   rw[hl] at hc2
   clear hl
   go_wp2_with (first | (at_lookup;refine wpList_look_ok rfl (.tmp 12) (.tmp 13) 98 rfl 69 kDot Tryz.underlying98 (zUnit _) rfl (HL.out _ ?_) (dotV a ((ca+1:Nat):Int)) kl rfl hkl _ hu2 _ hc2 ?_;(go_grown)))
   refine bodyPost_ret (results_none rfl _ _ _) rfl ?_
   refine ⟨rfl,c',L',(HCb.out _ ?_).ctx,Hl.out,HS.out,(HCb.out _ ?_).chg⟩ <;> go_grown
  | true =>
   have Hl:Hid (L' (mkD a (c' a+1))=true):=by unfold Hid;rw[Hca.out];exact hl
   have h501:ca+1<=501:=by have:=(HC1.out.ctx.l501 _ hl).1.2.2;rw[nth_mk hm512] at this;exact this
   rw[hl] at hc2
   clear hl
   have Hdrop:Hid (∀ wy wz N,Below w1.heap.size w1 wy->wy.grownBy wz (some lb)->MapV Tryz.prog 134 wz lb N (era (lm L') (dotV a (ca+1:Nat)))->CG w w.heap.size cb lb c' (fun k=>L' k && k != mkD a (c' a+1)) wz):=fun wy wz N hb hg hm=>by
    rw[HE.out,<- Hca.out] at hm
    exact CG.drop (HCb.out wy hb) hg hm
   have Hinc:Hid (∀ wy wz N,CG w w.heap.size cb lb c' (fun k=>L' k && k != mkD a (c' a+1)) wy->wy.grownBy wz (some cb)->MapV Tryz.prog 3 wz cb N (upd (cm c') (.int .i64 (a:Int)) (.int .i64 ((ca+1:Nat):Int)))->CG w w.heap.size cb lb (inc c' a) (fun k=>L' k && k != mkD a (c' a+1)) wz):=fun wy wz N hc hg hm=>by
    rw[<- Hca.out] at hm
    exact CG.inc hc hg hm a5 (by rw[Hca.out];exact h501) (by simp)
   go_wp2_with (first | (at_lookup;refine wpList_look_ok rfl (.tmp 12) (.tmp 13) 98 rfl 69 kDot Tryz.underlying98 (zUnit _) rfl (HL.out _ ?_) (dotV a ((ca+1:Nat):Int)) kl rfl hkl _ hu2 _ hc2 ?_;(go_grown)) | (at_delete;refine wpList_drop rfl (.tmp 20) (.tmp 21) 98 rfl 69 kDot Tryz.underlying98 rfl (HL.out _ ?_) (dotV a ((ca+1:Nat):Int)) kl rfl hkl ?_;(go_grown);intro w2 hm2 hg2 hs2;have hC2:CG w w.heap.size cb lb c' (fun k=>L' k && k != mkD a (c' a+1)) w2:=(by refine Hdrop.out _ _ _ ?_ hg2 hm2;go_grown);have HC2:Hid (CG w w.heap.size cb lb c' (fun k=>L' k && k != mkD a (c' a+1)) w2):=hC2;have b0:=hC2.b0;obtain ⟨Nc,hNc⟩:=hC2.ctx.cs;have hcb:Nc<=6:=counts_bound hNc hC2.ctx.c5;have hmx:Nc<maxLen:=(by unfold maxLen;omega);clear hC2) | (at_lookup;refine wpList_look rfl (.tmp 23) (.tmp 24) 97 rfl 3 kInt Tryz.underlying97 (zInt _) rfl hNc (.int .i64 (a:Int)) _ rfl hk _ hu ?_) | (at_mapUpdate;refine wpList_store rfl (.tmp 23) (.tmp 24) (.tmp 26) 97 rfl 3 kInt Tryz.underlying97 rfl hNc hmx (.int .i64 (a:Int)) (.int .i64 ((ca+1:Nat):Int)) _ rfl (by first | rfl | simp) hk ?_;intro w3 hm3 hg3 hs3;have hC3:CG w w.heap.size cb lb (inc c' a) (fun k=>L' k && k != mkD a (c' a+1)) w3:=(Hinc.out _ _ _ HC2.out hg3 hm3);go_frame))
   all_goals
    go_roundg (501-(ca+1))
    case measure=>omega
    case rel=>exact ⟨inc c' a,_,by rw[inc_same,Hca.out],hC3,HS.out.step Hl.out (by rw[Hca.out];exact hm512)⟩

def CtxS (w:World) (cb lb:Nat) (S:Nat->Prop):Prop:=∃ c L,CtxW w cb lb c L/\(∀ a,L (mkD a (c a+1))=false)/\∀ d,1<=nth d->(S d↔inK c L d)
def CtxR (w:World) (cv lv:Value) (S:Nat->Prop):Prop:=∃ c L,CtxV w cv lv c L/\(∀ a,L (mkD a (c a+1))=false)/\∀ d,1<=nth d->(S d↔inK c L d)
theorem CtxS.toR {w:World} {cb lb:Nat} {S:Nat->Prop} (h:CtxS w cb lb S):CtxR w (.map (some cb)) (.map (some lb)) S:=by
 obtain ⟨c,L,h1,h2,h3⟩:=h;exact ⟨c,L,h1.toV,h2,h3⟩
theorem CtxS.chg {M:Nat->Prop} {w w':World} {cb lb:Nat} {S:Nat->Prop} (h:CtxS w cb lb S) (hc:Chg M w w') (h1:¬M cb) (h2:¬M lb):CtxS w' cb lb S:=by
 obtain ⟨c,L,g1,g2,g3⟩:=h;exact ⟨c,L,g1.chg hc h1 h2,g2,g3⟩
theorem CtxS.below {w w':World} {cb lb:Nat} {S:Nat->Prop} (h:CtxS w cb lb S) (hb:Below w.heap.size w w'):CtxS w' cb lb S:=by
 obtain ⟨c,L,g1,g2,g3⟩:=h;exact ⟨c,L,g1.below hb,g2,g3⟩
theorem CtxS.lt {w:World} {cb lb:Nat} {S:Nat->Prop} (h:CtxS w cb lb S):cb<w.heap.size/\lb<w.heap.size:=by obtain ⟨c,L,g1,g2,g3⟩:=h;exact g1.lt
theorem CtxS.iff {w:World} {cb lb:Nat} {S S':Nat->Prop} (h:CtxS w cb lb S) (hS:∀ n,1<=nth n->(S' n↔S n)):CtxS w cb lb S':=by
 obtain ⟨c,L,g1,g2,g3⟩:=h;exact ⟨c,L,g1,g2,fun n hn=>(hS n hn).trans (g3 n hn)⟩
theorem inK_put {c:Nat->Nat} {L:Nat->Bool} {d k:Nat} : inK c (fun x=>L x || x == d) k↔inK c L k\/k=d:=by
 unfold inK
 simp only[Bool.or_eq_true,beq_iff_eq]
 exact ⟨fun h=>h.elim (fun h=>Or.inl (Or.inl h)) (fun h=>h.elim (fun h=>Or.inl (Or.inr h)) Or.inr),fun h=>h.elim (fun h=>h.elim Or.inl (fun h=>Or.inr (Or.inl h))) (fun h=>Or.inr (Or.inr h))⟩

theorem can_step {d:Nat} {c c':Nat->Nat} {L L':Nat->Bool} (hcan:∀ a,L (mkD a (c a+1))=false) (hs:SameD (who d) c (fun k=>L k || k == d) c' L') (h5:L' (mkD (who d) (c' (who d)+1))=false) (h501:∀ a,c a<=501):∀ a,L' (mkD a (c' a+1))=false:=by
 intro a
 by_cases e:a=who d
 ·subst e;exact h5
 ·have hw:who (mkD a (c a+1))=a:=who_mk (by have:=h501 a;omega)
  rw[hs.oc a e,hs.ol _ (by rw[hw];exact e),hcan a]
  have:mkD a (c a+1)≠d:=fun h=>e (by rw[<- h,hw])
  simp[this]

theorem add_any (w:World) (cb lb d:Nat) (S:Nat->Prop) (h:CtxS w cb lb S) (hd:okD d) :
  Calls Tryz.prog 201 #[.agg #[.map (some cb),.map (some lb)],dotE d] w fun e w'=>e=.returned (.tuple #[])/\CtxS w' cb lb (fun k=>S k\/k=d)/\Chg (fun k=>k=cb\/k=lb) w w':=by
 obtain ⟨c,L,h,hcan,hS⟩:=h
 have HS:Hid (∀ k,1<=nth k->(S k↔inK c L k)):=hS
 have a5:=hd.1
 have c501:=h.c501
 have Hcan:Hid (∀ a,L (mkD a (c a+1))=false):=hcan
 have H501:Hid (∀ a,c a<=501):=c501
 have HG:Hid (∀ ob,ob=.cells #[.map (some cb),.map (some lb)] 100->∀ ob',CG w w.heap.size cb lb c L ((w.alloc ob).alloc ob')):=fun ob hob ob'=>by
  subst hob
  have hb:Below w.heap.size w (w.alloc (.cells #[.map (some cb),.map (some lb)] 100)):=(Below.refl _ w).alloc (Nat.le_refl _) _
  refine CG.below (wx:=w.alloc (.cells #[.map (some cb),.map (some lb)] 100)) ?_ ((Below.refl _ _).alloc (Nat.le_refl _) _)
  exact ⟨h.below hb,World.cell?_alloc_at _ _ _ _ rfl,World.cell?_alloc_at _ _ _ _ rfl,h.lt,Nat.le_refl _,by simp,Chg.of_below hb⟩
 have HD:Hid (∀ ob,ob=.cells #[.int .i64 (who d:Int),.int .i64 (nth d:Int)] 134->∀ ob',((w.alloc ob').alloc ob).cell? ⟨w.heap.size+1,0,none⟩=some (.int .i64 (who d:Int))/\((w.alloc ob').alloc ob).cell? ⟨w.heap.size+1,1,none⟩=some (.int .i64 (nth d:Int))):=fun ob hob ob'=>by
  subst hob
  have e:(w.alloc ob').heap.size=w.heap.size+1:=by simp
  exact ⟨by rw[<- e];exact World.cell?_alloc_at _ _ _ _ rfl,by rw[<- e];exact World.cell?_alloc_at _ _ _ _ rfl⟩
 clear h hS hcan c501
 go_enter Tryz.func201,Tryz.ntmps201
 go_wp2_with fail
 have hC:=HG.out _ rfl (.cells #[.int .i64 (who d:Int),.int .i64 (nth d:Int)] 134)
 have hD:=HD.out _ rfl (.cells #[.map (some cb),.map (some lb)] 100)
 clear HG HD
 generalize hw2:(w.alloc (.cells #[.map (some cb),.map (some lb)] 100)).alloc (.cells #[.int .i64 (who d:Int),.int .i64 (nth d:Int)] 134)=w2 at *
 have hs2:w2.heap.size=w.heap.size+2:=by rw[<- hw2];simp
 clear hw2
 refine Calls.mono (has_any w2 _ _ c d L hC.ctx.toV a5) ?_
 rintro e w3 ⟨rfl,hb3⟩
 have hC3:=hC.below hb3
 have d0:w3.cell? ⟨w.heap.size+1,0,none⟩=some (.int .i64 (who d:Int)):=(hb3.cell (p:=⟨w.heap.size+1,0,none⟩) (by show w.heap.size+1<_;omega)).trans hD.1
 have d1:w3.cell? ⟨w.heap.size+1,1,none⟩=some (.int .i64 (nth d:Int)):=(hb3.cell (p:=⟨w.heap.size+1,1,none⟩) (by show w.heap.size+1<_;omega)).trans hD.2
 have hs3:w.heap.size+1<w3.heap.size:=by have:=hb3.size;omega
 have b0:=hC3.b0
 have b1:=hC3.b1
 have HC3:Hid (CG w w.heap.size cb lb c L w3):=hC3
 clear hC hD hb3 hs2
 cases hh:(decide (nth d<=c (who d)) || L d) with
 | true =>
  have Hin:Hid (inK c L d):=by unfold Hid inK;simpa using hh
  clear hC3 hh
  go_wp2
  refine bodyPost_ret (results_none rfl _ _ _) rfl ?_
  exact ⟨rfl,⟨c,L,HC3.out.ctx,Hcan.out,fun k hk=>by
   show (S k\/k=d)↔_
   rw[HS.out k hk]
   constructor
   ·rintro (h | rfl)
    ·exact h
    ·exact Hin.out
   ·exact Or.inl⟩,HC3.out.chg⟩
 | false =>
  have hnin:c (who d)<nth d:=by simp at hh;omega
  clear hh
  obtain ⟨kl,hkl⟩:=keyE d (by omega)
  obtain ⟨Nl,hNl⟩:=hC3.ctx.ls
  have hNb:Nl<=3072:=loose_bound hNl (fun n hn=>(hC3.ctx.l501 n hn).1)
  have hmx:Nl<maxLen:=by unfold maxLen;omega
  have hlo:=hC3.old
  have HL:Hid (MapV Tryz.prog 134 w3 lb Nl (lm L)):=hNl
  clear hC3 hNl
  go_wp2_with (first | (at_mapUpdate;refine wpList_store rfl (.tmp 8) (.tmp 9) (.tmp 10) 98 rfl 69 kDot Tryz.underlying98 rfl HL.out hmx (dotE d) unitV _ rfl rfl hkl ?_;intro w4 hm4 hg4 hs4;have hC4:CG w w.heap.size cb lb c (fun k=>L k || k == d) w4:=(CG.put HC3.out hg4 hm4 hnin hd);have b0:=hC4.b0;have b1:=hC4.b1;have d0:w4.cell? ⟨w.heap.size+1,0,none⟩=some (.int .i64 (who d:Int)):=(World.cell?_of_block (w:=w3) (hg4.block (w.heap.size+1) hs3 (fun e=>by cases e;omega))).trans d0))
  refine Calls.mono (closeGap_any w4 cb lb (who d) c _ hC4.ctx a5) ?_
  rintro e w5 ⟨rfl,c',L',h5,hcan5,hsame,hch5⟩
  have HF:Hid (CtxS w5 cb lb (fun k=>S k\/k=d)):=⟨c',L',h5,can_step Hcan.out hsame hcan5 H501.out,fun k hk=>by
   show (S k\/k=d)↔_
   rw[hsame.same k,HS.out k hk,inK_put]⟩
  have HCh:Hid (Chg (fun k=>k=cb\/k=lb) w w5):=hC4.chg.trans hch5
  clear h5 hsame hch5 hC4 b0 b1 d0
  go_wp2
  go_end0
  exact ⟨rfl,HF.out,HCh.out⟩

def RangeO (P:Program) (k:TypeId) (w:World) (v:Value) (r N:Nat) (m:Value->Option Value) (left:Value->Prop) (cnt:Nat):Prop :=
 (v=.map none/\(∃ s seen c,w.heap[r]? = some (.mapIter none s seen c))/\cnt=0/\m=(fun _=>none)/\∀ key,¬left key)\/∃ b,v=.map (some b)/\RangeV P k w b r N m left cnt

section
variable {P:Program} {k:TypeId} {w:World} {v:Value} {r N cnt:Nat} {m:Value->Option Value} {left:Value->Prop}
theorem MapO.chg {M:Nat->Prop} {w':World} (h:MapO P k w v N m) (hc:Chg M w w') (hm:∀ b,v=.map (some b)->¬M b):MapO P k w' v N m:=by
 rcases h with h | ⟨b,h1,h2⟩
 ·exact Or.inl h
 ·exact Or.inr ⟨b,h1,h2.block (hc.block b h2.lt (hm b h1))⟩
theorem RangeO.chg {M:Nat->Prop} {w':World} (h:RangeO P k w v r N m left cnt) (hc:Chg M w w') (hm:∀ b,v=.map (some b)->¬M b) (hr:¬M r):RangeO P k w' v r N m left cnt:=by
 rcases h with ⟨h1,⟨s,seen,c,h2⟩,h3⟩ | ⟨b,h1,h2⟩
 ·exact Or.inl ⟨h1,⟨s,seen,c,(hc.block r (Array.getElem?_eq_some_iff.1 h2).1 hr).trans h2⟩,h3⟩
 ·exact Or.inr ⟨b,h1,h2.block (hc.block b h2.map.lt (hm b h1)) (hc.block r h2.lt hr)⟩
theorem RangeO.lt (h:RangeO P k w v r N m left cnt):r<w.heap.size:=by
 rcases h with ⟨h1,⟨s,seen,c,h2⟩,h3⟩ | ⟨b,h1,h2⟩
 ·exact (Array.getElem?_eq_some_iff.1 h2).1
 ·exact h2.lt
theorem RangeO.map {t:TypeId} (h:RangeO P t w v r N m left cnt):∃ N,MapO P t w v N m:=by
 rcases h with ⟨h1,_,_,h2,_⟩ | ⟨b,h1,h2⟩
 ·exact ⟨0,Or.inl ⟨h1,rfl,h2⟩⟩
 ·exact ⟨N,Or.inr ⟨b,h1,h2.map⟩⟩
theorem run_next_nil {ty:TypeId} {s c:Nat} {seen:Array Nat} (h:w.heap[r]? = some (.mapIter none s seen c)):(Instr.next (.pointer (some ⟨r,0,none⟩)) false ty).run P w=.ok (.tuple #[.bool false]) w:=by
 simp only[Instr.next,getObj,Sem.run_bind,Sem.run,h,Result.andThen]
 rfl

variable {ops:Array Oper} {rest:List Oper} {o:Oper} {a:Act} {Q:Exit->Act->World->Prop}
theorem wpList_rangeO (hg:o.guard=none) (mo:Operand) (t:TypeId) (hop:o.op=Op.range t mo) (e:TypeId) (K:Keyed P k) (ht:P.underlying t=some (.map k e))
  (hm:a.eval mo=v) (h:MapO P k w v N m)
  (hK:∀ w',RangeO P k w' v w.heap.size N m (fun key=>(m key).isSome=true) N->w.grownBy w' none->w'.heap.size=w.heap.size+1->wpList P ops Q rest (a.put o.dst (.pointer (some ⟨w.heap.size,0,none⟩))) w'):wpList P ops Q (o :: rest) a w:=by
 refine wpList_plain hg fun K' hK'=>?_
 rcases h with ⟨rfl,rfl,rfl⟩ | ⟨b,rfl,h2⟩
 ·unfold Oper.wp
  simp[execOp,hop,hm,run_range_nilMap w t k e ht,Result.andThen]
  exact hK' _ _ (hK _ (Or.inl ⟨rfl,⟨0,#[],0,heap_alloc_new w _⟩,rfl,rfl,fun key h=>by cases h⟩) (World.grownBy_alloc w _ none) (by simp))
 ·obtain ⟨w',hrun,r1,r2,r3⟩:=h2.range K ht
  unfold Oper.wp
  simp[execOp,hop,hm,hrun,Result.andThen]
  exact hK' _ _ (hK w' (Or.inr ⟨b,rfl,r1⟩) r2 r3)
theorem wpList_nextO {α : Type} (hg:o.guard=none) (it:Operand) (hop:o.op=Op.next it false) (K:Keyed P k) (mk mv:α->Value) (hit:a.eval it=.pointer (some ⟨r,0,none⟩)) (h:RangeO P k w v r N m left cnt)
  (hsh:∀ key v,left key->m key=some v->∃ x,key=mk x/\v=mv x)
  (hDone:(∀ key,¬left key)->wpList P ops Q rest (a.put o.dst (.tuple #[.bool false])) w)
  (hMore:∀ (x:α) (w':World) (cnt':Nat),left (mk x)->m (mk x)=some (mv x)->RangeO P k w' v r N m (fun y=>left y/\y≠mk x) cnt'->cnt'<cnt->w.grownBy w' (some r)->w'.heap.size=w.heap.size ->
   (Instr.entry (.pointer (some ⟨r,0,none⟩))).run P w'=.ok (.tuple #[mk x,mv x]) w'->wpList P ops Q rest (a.put o.dst (.tuple #[.bool true,mk x,mv x])) w'):wpList P ops Q (o :: rest) a w:=by
 rcases h with ⟨h1,⟨s,seen,c,h2⟩,h3,h4,h5⟩ | ⟨b,h1,h2⟩
 ·refine wpList_plain hg fun K' hK'=>?_
  unfold Oper.wp
  simp[execOp,hop,hit,run_next_nil h2,Result.andThen]
  exact hK' _ _ (hDone h5)
 ·exact wpList_next hg it hop K mk mv hit h2 hsh (fun _=>hDone) (fun x w' cnt' g1 g2 g3 g4 g5 g6 g7=>hMore x w' cnt' g1 g2 (Or.inr ⟨b,h1,g3⟩) g4 g5 g6 g7)
end

theorem newContext_any (w:World):Calls Tryz.prog 200 #[] w fun e w'=>∃ cb lb,e=.returned (.agg #[.map (some cb),.map (some lb)])/\CtxS w' cb lb (fun _=>False)/\w.heap.size<=cb/\w.heap.size<=lb/\Below w.heap.size w w':=by
 have hmm:=@run_makeMap Tryz.prog
 have HM:Hid (∀ ob,Below w.heap.size w (w.alloc ob)/\CtxS (((w.alloc ob).alloc (.map #[] 0)).alloc (.map #[] 0)) (w.heap.size+1) (w.heap.size+2) (fun _=>False)):=fun ob=>⟨(Below.refl _ w).alloc (Nat.le_refl _) _,by
  have e1:(w.alloc ob).heap.size=w.heap.size+1:=by simp
  have e2:((w.alloc ob).alloc (.map #[] 0)).heap.size=w.heap.size+2:=by simp
  have m1:=MapV.made (w.alloc ob) Tryz.prog 3
  have m2:=MapV.made ((w.alloc ob).alloc (.map #[] 0)) Tryz.prog 134
  rw[e1] at m1
  rw[e2] at m2
  have hc:cm (fun _=>0)=fun _=>none:=(cm_ext (fun a=>rfl) (fun key _=>rfl)).symm
  have hl:lm (fun _=>false)=fun _=>none:=by funext key;simp[lm]
  refine ⟨fun _=>0,fun _=>false,⟨⟨0,by rw[hc];exact m1.block (((Below.refl _ ((w.alloc ob).alloc (.map #[] 0))).alloc (Nat.le_refl _) _).block _ m1.lt)⟩,⟨0,by rw[hl];exact m2⟩,by omega,fun _=>by omega,fun _ h=>absurd rfl h,fun n h=>(by cases h)⟩,fun _=>rfl,fun n hn=>?_⟩
  simp[inK];omega⟩
 go_enter Tryz.func200,Tryz.ntmps200
 go_wp2
 refine bodyPost_ret (v:=.agg #[.map (some (w.heap.size+1)),.map (some (w.heap.size+2))]) (by simp[results,Tryz.results200,go_sem]) rfl ⟨_,_,rfl, ?_,by omega,by omega, ?_⟩
 ·first
   | exact (HM.out _).2
   | (refine CtxS.chg (M:=fun k=>k=w.heap.size) (HM.out _).2 (((Chg.refl _ _).setCell (p:=⟨w.heap.size,0,none⟩) rfl _).setCell (p:=⟨w.heap.size,1,none⟩) rfl _) (by omega) (by omega))
   | trace_state
 ·go_grown

theorem dot_nth (x y:Int) (w:World):(Instr.field 134 (.agg #[.int .i64 x,.int .i64 y]) 1).run Tryz.prog w=.ok (.int .i64 y) w:=by kernel_rfl
structure AA (w:World) (cb lb:Nat) (cv lv:Value) (co:Nat->Nat) (Lo:Nat->Bool) (S:Nat->Prop) (wx:World):Prop where
 ctx:CtxS wx cb lb S
 b0:wx.cell? ⟨w.heap.size,0,none⟩=some (.map (some cb))
 b1:wx.cell? ⟨w.heap.size,1,none⟩=some (.map (some lb))
 o0:wx.cell? ⟨w.heap.size+1,0,none⟩=some cv
 o1:wx.cell? ⟨w.heap.size+1,1,none⟩=some lv
 oc:∃ N,MapO Tryz.prog 3 wx cv N (cm co)
 ol:∃ N,MapO Tryz.prog 134 wx lv N (lm Lo)
 old:cb<w.heap.size/\lb<w.heap.size
 ne:(∀ b,cv=.map (some b)->b≠cb/\b≠lb/\b<w.heap.size)/\(∀ b,lv=.map (some b)->b≠cb/\b≠lb/\b<w.heap.size)
 lt:w.heap.size+2<=wx.heap.size
 chg:Chg (fun k=>k=cb\/k=lb) w wx
theorem AA.step {w:World} {cb lb:Nat} {cv lv:Value} {co:Nat->Nat} {Lo:Nat->Bool} {S S':Nat->Prop} {wx wy:World} (h:AA w cb lb cv lv co Lo S wx) (hc:CtxS wy cb lb S') (hg:Chg (fun k=>k=cb\/k=lb) wx wy):AA w cb lb cv lv co Lo S' wy:=by
 obtain ⟨N,h1⟩:=h.oc
 obtain ⟨N',h2⟩:=h.ol
 have hl:=h.lt
 have ho:=h.old
 have hcell:∀ b i,w.heap.size<=b->b<wx.heap.size->wy.cell? ⟨b,i,none⟩=wx.cell? ⟨b,i,none⟩:=fun b i hb1 hb2=>World.cell?_of_block (w:=wx) (hg.block b hb2 (by omega))
 exact ⟨hc,(hcell _ 0 (by omega) (by omega)).trans h.b0,(hcell _ 1 (by omega) (by omega)).trans h.b1,(hcell _ 0 (by omega) (by omega)).trans h.o0,(hcell _ 1 (by omega) (by omega)).trans h.o1,⟨N,h1.chg hg (fun b hb=>by have:=h.ne.1 b hb;omega)⟩,⟨N',h2.chg hg (fun b hb=>by have:=h.ne.2 b hb;omega)⟩,h.old,h.ne,Nat.le_trans hl hg.size,h.chg.trans hg⟩
theorem AA.below {w:World} {cb lb:Nat} {cv lv:Value} {co:Nat->Nat} {Lo:Nat->Bool} {S:Nat->Prop} {wx wy:World} (h:AA w cb lb cv lv co Lo S wx) (hb:Below wx.heap.size wx wy):AA w cb lb cv lv co Lo S wy:=h.step (h.ctx.below hb) (Chg.of_below hb)
theorem AA.turn {w:World} {cb lb:Nat} {cv lv:Value} {co:Nat->Nat} {Lo:Nat->Bool} {S:Nat->Prop} {wx wy:World} {r:Nat} (h:AA w cb lb cv lv co Lo S wx) (hr:w.heap.size+2<=r) (hg:wx.grownBy wy (some r)):AA w cb lb cv lv co Lo S wy:=by
 have hl:=h.lt
 have ho:=h.old
 have hcell:∀ b i,b<w.heap.size+2->wy.cell? ⟨b,i,none⟩=wx.cell? ⟨b,i,none⟩:=fun b i hb2=>World.cell?_of_block (w:=wx) (hg.block b (by omega) (fun e=>by cases e;omega))
 have hch:Chg (fun k=>k=r) wx wy:=(Chg.refl _ wx).grown hg (fun k e=>by cases e;exact Or.inl rfl)
 obtain ⟨N,h1⟩:=h.oc
 obtain ⟨N',h2⟩:=h.ol
 exact ⟨h.ctx.chg hch (by omega) (by omega),(hcell _ 0 (by omega)).trans h.b0,(hcell _ 1 (by omega)).trans h.b1,(hcell _ 0 (by omega)).trans h.o0,(hcell _ 1 (by omega)).trans h.o1,⟨N,h1.chg hch (fun b hb=>by have:=h.ne.1 b hb;omega)⟩,⟨N',h2.chg hch (fun b hb=>by have:=h.ne.2 b hb;omega)⟩,h.old,h.ne,Nat.le_trans hl hg.size,h.chg.grown hg (fun k e=>by cases e;right;omega)⟩
theorem AA.iff {w:World} {cb lb:Nat} {cv lv:Value} {co:Nat->Nat} {Lo:Nat->Bool} {S S':Nat->Prop} {wx:World} (h:AA w cb lb cv lv co Lo S wx) (hS:∀ n,1<=nth n->(S' n↔S n)):AA w cb lb cv lv co Lo S' wx:=h.step (h.ctx.iff hS) (Chg.refl _ _)
theorem CtxS.r {w:World} {cb lb:Nat} {S:Nat->Prop} (h:CtxS w cb lb S):∃ c L,CtxV w (.map (some cb)) (.map (some lb)) c L/\(∀ d,1<=nth d->nth d<=c (who d)->S d)/\∀ a,c a<=501:=by
 obtain ⟨c,L,h1,h2,h3⟩:=h;exact ⟨c,L,h1.toV,fun d h1 h2=>(h3 d h1).2 (Or.inl h2),h1.c501⟩

theorem addAll_any (w:World) (cb lb:Nat) (S So:Nat->Prop) (cv lv:Value) (h:CtxS w cb lb S) (ho:CtxR w cv lv So)
  (hne:(∀ b,cv=.map (some b)->b≠cb/\b≠lb/\b<w.heap.size)/\(∀ b,lv=.map (some b)->b≠cb/\b≠lb/\b<w.heap.size)) :
  Calls Tryz.prog 207 #[.agg #[.map (some cb),.map (some lb)],.agg #[cv,lv]] w fun e w'=>e=.returned (.tuple #[])/\CtxS w' cb lb (fun k=>S k\/So k)/\Chg (fun k=>k=cb\/k=lb) w w':=by
 obtain ⟨co,Lo,ho,_,hSo⟩:=ho
 have HSo:Hid (∀ d,1<=nth d->(So d↔inK co Lo d)):=hSo
 have Hco:Hid (∀ a,co a<=501):=ho.c501
 have Hc5:Hid (∀ a,co a≠0->a<=5):=ho.c5
 have HLo:Hid (∀ d,Lo d=true->okD d):=fun d hd=>(ho.l501 d hd).1
 have HA0:Hid (∀ ob ob',ob=.cells #[.map (some cb),.map (some lb)] 100->ob'=.cells #[cv,lv] 100->AA w cb lb cv lv co Lo S ((w.alloc ob).alloc ob')):=fun ob ob' e1 e2=>by
  subst e1;subst e2
  have hb1:Below w.heap.size w (w.alloc (.cells #[.map (some cb),.map (some lb)] 100)):=(Below.refl _ w).alloc (Nat.le_refl _) _
  have hb:Below w.heap.size w ((w.alloc (.cells #[.map (some cb),.map (some lb)] 100)).alloc (.cells #[cv,lv] 100)):=hb1.alloc (by simp) _
  have hb2:=(Below.refl (w.alloc (.cells #[.map (some cb),.map (some lb)] 100)).heap.size (w.alloc (.cells #[.map (some cb),.map (some lb)] 100))).alloc (Nat.le_refl _) (.cells #[cv,lv] 100)
  have e:(w.alloc (.cells #[.map (some cb),.map (some lb)] 100)).heap.size=w.heap.size+1:=by simp
  have hR:=ho.below hb
  refine ⟨h.below hb,(hb2.cell (p:=⟨w.heap.size,0,none⟩) (by simp)).trans (World.cell?_alloc_at _ _ _ _ rfl),(hb2.cell (p:=⟨w.heap.size,1,none⟩) (by simp)).trans (World.cell?_alloc_at _ _ _ _ rfl), ?_, ?_,hR.cs,hR.ls,h.lt,hne,by simp,Chg.of_below hb⟩
  ·rw[<- e];exact World.cell?_alloc_at _ _ _ _ rfl
  ·rw[<- e];exact World.cell?_alloc_at _ _ _ _ rfl
 clear h ho hSo hne
 go_enter Tryz.func207,Tryz.ntmps207
 have hA:=HA0.out _ _ rfl rfl
 clear HA0
 obtain ⟨Nc,hNc⟩:=hA.oc
 have o0:=hA.o0
 have hs2:((w.alloc (.cells #[.map (some cb),.map (some lb)] 100)).alloc (.cells #[cv,lv] 100)).heap.size=w.heap.size+2:=by simp
 have HA:Hid (AA w cb lb cv lv co Lo S _):=hA
 clear hA
 go_wp2_with (first | (at_range;refine wpList_rangeO rfl (.tmp 9) 97 rfl 3 kInt Tryz.underlying97 rfl hNc ?_;intro w3 hr3 hg3 hs3;have hA3:AA w cb lb cv lv co Lo S w3:=(HA.out.below ((Below.refl _ _).grown hg3 (Nat.le_refl _) (fun k e=>by cases e)));rw[hs2] at hr3 ⊢;clear HA o0 hNc hg3 hs3;go_frame))
 go_loopg [4] Nc (fun g v4 wx=>∃ (left:Value->Prop) (cnt:Nat),g=cnt/\RangeO Tryz.prog 3 wx cv (w.heap.size+2) Nc (cm co) left cnt/\AA w cb lb cv lv co Lo (fun k=>S k\/(nth k<=co (who k)/\¬left (.int .i64 (who k:Int)))) wx)
 case atStart =>
  refine ⟨_,_,rfl,hr3,hA3.iff (fun n hn=>?_)⟩
  have:¬(nth n<=co (who n)/\¬(cm co (.int .i64 (who n:Int))).isSome=true):=by
   rintro ⟨h1,h2⟩
   exact h2 (by rw[cm_at,if_neg (by omega)];rfl)
  simp only[this,or_false]
 case round =>
  obtain ⟨left,q,hq,hR,hA⟩:=hrel
  have HR:Hid (RangeO Tryz.prog 3 wr cv (w.heap.size+2) Nc (cm co) left q):=hR
  have HA:Hid (AA w cb lb cv lv co Lo (fun k=>S k\/(nth k<=co (who k)/\¬left (.int .i64 (who k:Int)))) wr):=hA
  have Hsh:Hid (∀ key v,left key->cm co key=some v->∃ x:Nat,key=(fun x:Nat=>Value.int .i64 (x:Int)) x/\v=(fun x:Nat=>Value.int .i64 (co x:Int)) x):=fun key v _ hk=>by obtain ⟨x,h1,h2,_⟩:=cm_shape hk;exact ⟨x,h1,h2⟩
  have o1:=hA.o1
  obtain ⟨Nl,hNl⟩:=hA.ol
  clear hR hA hr3 hA3
  go_wp2_with (first | (at_next;refine wpList_nextO rfl (.tmp 10) rfl kInt (fun x:Nat=>.int .i64 (x:Int)) (fun x:Nat=>.int .i64 (co x:Int)) (by first | rfl | (simp;rfl)) HR.out Hsh.out ?_ ?_))
  ·intro hl0
   go_wp2_with (first | (at_range;refine wpList_rangeO rfl (.tmp 31) 98 rfl 69 kDot Tryz.underlying98 rfl hNl ?_;intro w5 hr5 hg5 hs5;have hA5:AA w cb lb cv lv co Lo (fun k=>S k\/nth k<=co (who k)) w5:=((HA.out.below ((Below.refl _ _).grown hg5 (Nat.le_refl _) (fun k e=>by cases e))).iff (fun n hn=>by simp[hl0]));have hrl:w.heap.size+2<=wr.heap.size:=HA.out.lt;clear HA o1 hNl hg5 hs5 HR Hsh;go_frame))
   go_loopg [7] Nl (fun g v7 wx=>∃ (left2:Value->Prop) (q2:Nat),g=q2/\RangeO Tryz.prog 134 wx lv wr.heap.size Nl (lm Lo) left2 q2/\AA w cb lb cv lv co Lo (fun k=>(S k\/nth k<=co (who k))\/(Lo k=true/\¬left2 (dotE k))) wx)
   case atStart =>
    refine ⟨_,_,rfl,hr5,hA5.iff (fun n hn=>?_)⟩
    have:¬(Lo n=true/\¬(lm Lo (dotE n)).isSome=true):=by
     rintro ⟨h1,h2⟩
     exact h2 (by rw[lm_some];exact h1)
    simp only[this,or_false]
   case round =>
    obtain ⟨left2,q2,hq2,hR2,hA2⟩:=hrel
    have HR2:Hid (RangeO Tryz.prog 134 wr lv _ Nl (lm Lo) left2 q2):=hR2
    have HA2:Hid (AA w cb lb cv lv co Lo (fun k=>(S k\/nth k<=co (who k))\/(Lo k=true/\¬left2 (dotE k))) wr):=hA2
    have Hsh2:Hid (∀ key v,left2 key->lm Lo key=some v->∃ x:Nat,key=(fun n:Nat=>dotE n) x/\v=(fun _=>unitV) x):=fun key v _ hk=>by obtain ⟨n,h1,h2,h3⟩:=lm_shape hk;exact ⟨n,h2,h3⟩
    clear hR2 hA2 hr5 hA5
    go_wp2_with (first | (at_next;refine wpList_nextO rfl (.tmp 32) rfl kDot (fun n:Nat=>dotE n) (fun _=>unitV) rfl HR2.out Hsh2.out ?_ ?_))
    ·intro hl2
     have HF:Hid (CtxS wr cb lb (fun k=>S k\/So k)):=HA2.out.ctx.iff (fun n hn=>by
      rw[HSo.out n hn]
      unfold inK
      simp only[hl2,not_false_eq_true,and_true]
      exact ⟨fun h=>h.elim (fun h=>Or.inl (Or.inl h)) (fun h=>h.elim (fun h=>Or.inl (Or.inr h)) Or.inr),fun h=>h.elim (fun h=>h.elim Or.inl (fun h=>Or.inr (Or.inl h))) (fun h=>Or.inr (Or.inr h))⟩)
     have HCh:Hid (Chg (fun k=>k=cb\/k=lb) w wr):=HA2.out.chg
     clear HR2 HA2 Hsh2
     go_wp2
     go_end0
     exact ⟨rfl,HF.out,HCh.out⟩
    ·intro n w6 q6 hlk6 hmk6 hR6 hlt6 hg6 hs6 hen6
     have hLn:Lo n=true:=by rw[<- lm_some n Lo,hmk6];(first | done | rfl)
     have hn:=HLo.out n hLn
     have hA6:=HA2.out.turn hrl hg6
     have HA6:Hid (AA w cb lb cv lv co Lo (fun k=>(S k\/nth k<=co (who k))\/(Lo k=true/\¬left2 (dotE k))) w6):=hA6
     have b0:=hA6.b0
     have b1:=hA6.b1
     have hlt2:=hA6.lt
     have b0A:∀ o,(w6.alloc o).cell? ⟨w.heap.size,0,none⟩=some (.map (some cb)):=fun o=>(HA6.out.below ((Below.refl _ w6).alloc (Nat.le_refl _) o)).b0
     have b1A:∀ o,(w6.alloc o).cell? ⟨w.heap.size,1,none⟩=some (.map (some lb)):=fun o=>(HA6.out.below ((Below.refl _ w6).alloc (Nat.le_refl _) o)).b1
     have HR6:Hid (RangeO Tryz.prog 134 w6 lv _ Nl (lm Lo) (fun y=>left2 y/\¬y=dotE n) q6):=hR6
     have Hadd:Hid (∀ wx,Below w6.heap.size w6 wx->Calls Tryz.prog 201 #[.agg #[.map (some cb),.map (some lb)],dotE n] wx fun e w'=>e=.returned (.tuple #[])/\AA w cb lb cv lv co Lo (fun k=>((S k\/nth k<=co (who k))\/(Lo k=true/\¬left2 (dotE k)))\/k=n) w'/\RangeO Tryz.prog 134 w' lv _ Nl (lm Lo) (fun y=>left2 y/\¬y=dotE n) q6):=fun wx hb=>by
      have hA':=HA6.out.below hb
      refine Calls.mono (add_any wx cb lb n _ hA'.ctx hn) ?_
      rintro e w' ⟨rfl,h1,h2⟩
      have hol:=hA'.old
      exact ⟨rfl,hA'.step h1 h2,(HR6.out.chg (M:=fun _=>False) (Chg.of_below hb) (fun _ _ h=>h) (fun h=>h)).chg h2 (fun b hb=>by have:=hA'.ne.2 b hb;omega) (by omega)⟩
     clear hR6 hA6 HR2 HA2 Hsh2 HA6 HR6
     go_wp2_with fail
     refine Calls.mono (Hadd.out _ ?_) ?_
     ·go_grown
     rintro e w7 ⟨rfl,hA7,hR7⟩
     have HA7:Hid (AA w cb lb cv lv co Lo (fun k=>(S k\/nth k<=co (who k))\/(Lo k=true/\¬(left2 (dotE k)/\¬dotE k=dotE n))) w7):=hA7.iff (fun k hk=>by
      constructor
      ·rintro (h | ⟨h1,h2⟩)
       ·exact Or.inl (Or.inl h)
       ·by_cases e:k=n
        ·exact Or.inr e
        ·exact Or.inl (Or.inr ⟨h1,fun h3=>h2 ⟨h3,fun e2=>e (dotE_inj e2)⟩⟩)
      ·rintro ((h | ⟨h1,h2⟩) | rfl)
       ·exact Or.inl h
       ·exact Or.inr ⟨h1,fun h3=>h2 h3.1⟩
       ·exact Or.inr ⟨hLn,fun h3=>h3.2 rfl⟩)
     have HR7:Hid (RangeO Tryz.prog 134 w7 lv _ Nl (lm Lo) (fun y=>left2 y/\¬y=dotE n) q6):=hR7
     clear hA7 hR7 Hadd b0 b1 b0A b1A hen6
     go_wp2_with fail
     go_roundg q6
     case measure=>omega
     case rel=>exact ⟨_,q6,rfl,HR7.out,HA7.out⟩
  ·intro a w4 q' hlk hmk hR4 hlt hg4 hs4 hen
   have hca0:co a≠0:=by intro h0;rw[cm_at,if_pos h0] at hmk;cases hmk
   have a5:=Hc5.out a hca0
   have co501:=Hco.out a
   obtain ⟨ca,hca⟩:∃ ca,co a=ca:=⟨_,rfl⟩
   have Hca:Hid (co a=ca):=hca
   rw[hca] at co501
   try rw[hca] at hen
   try rw[hca]
   clear hca hca0
   have hA4:=HA.out.turn (Nat.le_refl _) hg4
   obtain ⟨cc,L1,hV,hsub,hc1⟩:=hA4.ctx.r
   have HA4:Hid (AA w cb lb cv lv co Lo (fun k=>S k\/(nth k<=co (who k)/\¬left (.int .i64 (who k:Int)))) w4):=hA4
   have HR4:Hid (RangeO Tryz.prog 3 w4 cv (w.heap.size+2) Nc (cm co) (fun y=>left y/\¬y=Value.int IntKind.i64 (a:Int)) q'):=hR4
   have Hsub:Hid (∀ d,1<=nth d->nth d<=cc (who d)->(S d\/(nth d<=co (who d)/\¬left (.int .i64 (who d:Int))))):=hsub
   have b0:=hA4.b0
   have b1:=hA4.b1
   have Hn:Hid (_):=next_any w4 _ _ a cc L1 hV a5
   have hc1:=hc1 a
   obtain ⟨c1,hc1e⟩:∃ c1,cc a=c1:=⟨_,rfl⟩
   have Hc1:Hid (cc a=c1):=hc1e
   rw[hc1e] at Hn hc1
   clear hc1e
   have hwne:=hA4.ne.1
   have hold:=hA4.old
   clear hA4 hV hR4 HR HA hsub o1 hNl Hsh hg4
   go_wp2_with fail
   refine Calls.mono Hn.out ?_
   rintro e w5 ⟨rfl,hb5⟩
   have HA5:Hid (AA w cb lb cv lv co Lo (fun k=>S k\/(nth k<=co (who k)/\¬left (.int .i64 (who k:Int)))) w5):=HA4.out.below hb5
   have HR5:Hid (RangeO Tryz.prog 3 w5 cv (w.heap.size+2) Nc (cm co) (fun y=>left y/\¬y=Value.int IntKind.i64 (a:Int)) q'):=HR4.out.chg (M:=fun _=>False) (Chg.of_below hb5) (fun _ _ h=>h) (fun h=>h)
   have hfd:=dot_nth (a:Int) ((c1:Int)+1)
   clear HA4 HR4 Hn b0 b1 hb5 hen
   go_wp2_with fail
   clear hfd
   go_loopg [6] (ca+1-(c1+1)) (fun g v6 wx=>∃ nt:Nat,c1+1<=nt/\(nt<=ca+1\/nt=c1+1)/\v6=.int .i64 (nt:Int)/\g=ca+1-nt/\RangeO Tryz.prog 3 wx cv (w.heap.size+2) Nc (cm co) (fun y=>left y/\¬y=Value.int IntKind.i64 (a:Int)) q'/\AA w cb lb cv lv co Lo (fun k=>(S k\/(nth k<=co (who k)/\¬left (.int .i64 (who k:Int))))\/(who k=a/\c1<nth k/\nth k<nt)) wx)
   case atStart=>exact ⟨c1+1,by omega,by omega,rfl,rfl,HR5.out,HA5.out.iff (fun n hn=>by constructor;(rintro (h | h);exact h;omega);exact Or.inl)⟩
   case round =>
    obtain ⟨nt,hn1,hn2,rfl,hg,hR6,hA6⟩:=hrel
    have HR6:Hid (RangeO Tryz.prog 3 wr cv (w.heap.size+2) Nc (cm co) (fun y=>left y/\¬y=Value.int IntKind.i64 (a:Int)) q'):=hR6
    have HA6:Hid (AA w cb lb cv lv co Lo (fun k=>(S k\/(nth k<=co (who k)/\¬left (.int .i64 (who k:Int))))\/(who k=a/\c1<nth k/\nth k<nt)) wr):=hA6
    have b0:=hA6.b0
    have b1:=hA6.b1
    clear hR6 hA6 HA5 HR5
    by_cases hle:nt<=ca
    ·have hm512:nt<512:=by omega
     have Hadd:Hid (_):=add_any wr cb lb (mkD a nt) _ HA6.out.ctx ⟨by rw[who_mk hm512];exact a5,by rw[nth_mk hm512];omega,by rw[nth_mk hm512];omega⟩
     unfold dotE at Hadd
     rw[who_mk hm512,nth_mk hm512] at Hadd
     go_wp2_with fail
     refine Calls.mono Hadd.out ?_
     rintro e w7 ⟨rfl,hc7,hch7⟩
     have HA7:Hid (AA w cb lb cv lv co Lo (fun k=>(S k\/(nth k<=co (who k)/\¬left (.int .i64 (who k:Int))))\/(who k=a/\c1<nth k/\nth k<nt+1)) w7):=(HA6.out.step hc7 hch7).iff (fun n hn=>by
      constructor
      ·rintro (h | h)
       ·exact Or.inl (Or.inl h)
       ·by_cases e:nth n=nt
        ·exact Or.inr (dot_ext (by rw[who_mk hm512];exact h.1) (by rw[nth_mk hm512];exact e))
        ·exact Or.inl (Or.inr (by omega))
      ·rintro ((h | h) | h)
       ·exact Or.inl h
       ·exact Or.inr (by omega)
       ·refine Or.inr ⟨by rw[h,who_mk hm512],by rw[h,nth_mk hm512];omega,by rw[h,nth_mk hm512];omega⟩)
     have HR7:Hid (RangeO Tryz.prog 3 w7 cv (w.heap.size+2) Nc (cm co) (fun y=>left y/\¬y=Value.int IntKind.i64 (a:Int)) q'):=HR6.out.chg hch7 (fun b hb=>by have:=hwne b hb;omega) (by omega)
     clear Hadd hc7 hch7 HA6 HR6 b0 b1
     go_wp2_with fail
     go_roundg (ca+1-(nt+1))
     case measure=>omega
     case rel=>exact ⟨nt+1,by omega,by omega,by go_num,rfl,HR7.out,HA7.out⟩
    ·go_wp2_with fail
     go_roundg q'
     case measure=>omega
     case rel=>exact ⟨_,q',rfl,HR6.out,HA6.out.iff (fun n hn=>by
      have hle2:ca<nt:=by omega
      constructor
      ·rintro (h | ⟨h,h'⟩)
       ·exact Or.inl (Or.inl h)
       ·by_cases ea:who n=a
        ·by_cases e:nth n<=c1
         ·exact Or.inl (Hsub.out n hn (by rw[ea,Hc1.out];exact e))
         ·exact Or.inr ⟨ea,by omega,by rw[ea,Hca.out] at h;omega⟩
        ·refine Or.inl (Or.inr ⟨h,fun hl=>h' ⟨hl,fun e2=>ea ?_⟩⟩)
         simp at e2;omega
      ·rintro ((h | h) | h)
       ·exact Or.inl h
       ·exact Or.inr ⟨h.1,fun hh=>h.2 hh.1⟩
       ·exact Or.inr ⟨by rw[h.1,Hca.out];omega,fun hh=>hh.2 (by rw[h.1])⟩)⟩

noncomputable def im (It:Nat->Option Value):Value->Option Value:=fun key=>@dite _ (∃ n:Nat,key=dotE n) (Classical.propDecidable _) (fun h=>It (Classical.choose h)) (fun _=>none)
theorem im_dot (It:Nat->Option Value) (n:Nat):im It (dotE n)=It n:=by
 unfold im
 have h:∃ m:Nat,dotE n=dotE m:=⟨n,rfl⟩
 rw[dif_pos h]
 have:=Classical.choose_spec h
 rw[<- dotE_inj this]
theorem im_shape {It:Nat->Option Value} {key v:Value} (h:im It key=some v):∃ n:Nat,key=dotE n/\It n=some v:=by
 unfold im at h
 split at h
 ·rename_i hh;exact ⟨_,Classical.choose_spec hh,h⟩
 ·cases h
theorem im_ext {It:Nat->Option Value} {m:Value->Option Value} (h1:∀ n:Nat,m (dotE n)=It n) (h2:∀ key,(∀ n:Nat,key≠dotE n)->m key=none):m=im It:=by
 funext key
 by_cases h:∃ n:Nat,key=dotE n
 ·obtain ⟨n,rfl⟩:=h;rw[h1,im_dot]
 ·rw[h2 key (fun n e=>h ⟨n,e⟩)];unfold im;rw[dif_neg h]
theorem im_upd (It:Nat->Option Value) (n:Nat) (v:Value):upd (im It) (dotE n) v=im (fun k=>if k=n then some v else It k):=by
 apply im_ext
 ·intro k
  by_cases e:k=n
  ·subst e;rw[upd_same,if_pos rfl]
  ·rw[upd_other (fun e2=>e (dotE_inj e2)),im_dot,if_neg e]
 ·intro key hk
  rw[upd_other (hk n)]
  unfold im
  rw[dif_neg (fun ⟨n,e⟩=>hk n e)]
theorem im_none:im (fun _=>none)=fun _=>none:=by
 symm;apply im_ext <;> intros <;> rfl

structure StoreS (w:World) (ib cb lb:Nat) (S:Nat->Prop) (It:Nat->Option Value):Prop where
 ctx:CtxS w cb lb S
 its:∃ N,MapV Tryz.prog 134 w ib N (im It)
 ne:ib≠cb/\ib≠lb
 ok:∀ n,It n≠none->okD n/\S n
structure StoreR (w:World) (iv cv lv:Value) (S:Nat->Prop) (It:Nat->Option Value):Prop where
 ctx:CtxR w cv lv S
 its:∃ N,MapO Tryz.prog 134 w iv N (im It)
 ok:∀ n,It n≠none->okD n/\S n
theorem StoreS.toR {w:World} {ib cb lb:Nat} {S:Nat->Prop} {It:Nat->Option Value} (h:StoreS w ib cb lb S It):StoreR w (.map (some ib)) (.map (some cb)) (.map (some lb)) S It :=
 ⟨h.ctx.toR,h.its.imp fun N h=>Or.inr ⟨ib,rfl,h⟩,h.ok⟩
theorem CtxR.chg {M:Nat->Prop} {w w':World} {cv lv:Value} {S:Nat->Prop} (h:CtxR w cv lv S) (hc:Chg M w w') (h1:∀ b,cv=.map (some b)->¬M b) (h2:∀ b,lv=.map (some b)->¬M b):CtxR w' cv lv S:=by
 obtain ⟨c,L,⟨⟨N,g1⟩,⟨N',g2⟩,g3,g4,g5⟩,r⟩:=h
 exact ⟨c,L,⟨⟨N,g1.chg hc h1⟩,⟨N',g2.chg hc h2⟩,g3,g4,g5⟩,r⟩
theorem StoreR.chg {M:Nat->Prop} {w w':World} {iv cv lv:Value} {S:Nat->Prop} {It:Nat->Option Value} (h:StoreR w iv cv lv S It) (hc:Chg M w w') (h1:∀ b,iv=.map (some b)\/cv=.map (some b)\/lv=.map (some b)->¬M b):StoreR w' iv cv lv S It :=
 ⟨h.ctx.chg hc (fun b hb=>h1 b (Or.inr (Or.inl hb))) (fun b hb=>h1 b (Or.inr (Or.inr hb))),h.its.imp fun N g=>g.chg hc (fun b hb=>h1 b (Or.inl hb)),h.ok⟩
theorem StoreR.below {w w':World} {iv cv lv:Value} {S:Nat->Prop} {It:Nat->Option Value} (h:StoreR w iv cv lv S It) (hb:Below w.heap.size w w'):StoreR w' iv cv lv S It:=h.chg (M:=fun _=>False) (Chg.of_below hb) (fun _ _ h=>h)
theorem StoreS.chg {M:Nat->Prop} {w w':World} {ib cb lb:Nat} {S:Nat->Prop} {It:Nat->Option Value} (h:StoreS w ib cb lb S It) (hc:Chg M w w') (h1:¬M ib) (h2:¬M cb) (h3:¬M lb):StoreS w' ib cb lb S It :=
 ⟨h.ctx.chg hc h2 h3,h.its.imp fun N g=>g.block (hc.block _ g.lt h1),h.ne,h.ok⟩
theorem StoreS.below {w w':World} {ib cb lb:Nat} {S:Nat->Prop} {It:Nat->Option Value} (h:StoreS w ib cb lb S It) (hb:Below w.heap.size w w'):StoreS w' ib cb lb S It:=h.chg (M:=fun _=>False) (Chg.of_below hb) (fun h=>h) (fun h=>h) (fun h=>h)
theorem StoreS.lt {w:World} {ib cb lb:Nat} {S:Nat->Prop} {It:Nat->Option Value} (h:StoreS w ib cb lb S It):ib<w.heap.size/\cb<w.heap.size/\lb<w.heap.size:=⟨h.its.elim fun _ g=>g.lt,h.ctx.lt⟩
theorem MapO.lt {P:Program} {k:TypeId} {w:World} {v:Value} {N:Nat} {m:Value->Option Value} (h:MapO P k w v N m):∀ b,v=.map (some b)->b<w.heap.size:=by
 intro b hb
 rcases h with ⟨h,_⟩ | ⟨b',h,h2⟩
 ·rw[h] at hb;cases hb
 ·rw[h] at hb;cases hb;exact h2.lt
theorem StoreR.lt {w:World} {iv cv lv:Value} {S:Nat->Prop} {It:Nat->Option Value} (h:StoreR w iv cv lv S It):∀ b,iv=.map (some b)\/cv=.map (some b)\/lv=.map (some b)->b<w.heap.size:=by
 obtain ⟨⟨c,L,⟨⟨N,g1⟩,⟨N',g2⟩,_⟩,_⟩,⟨N2,g3⟩,_⟩:=h
 rintro b (hb | hb | hb)
 ·exact g3.lt b hb
 ·exact g1.lt b hb
 ·exact g2.lt b hb

def SliceD (w:World) (v:Value) (ns:List Nat):Prop :=
 (v=.slice none 0 0/\ns=[])\/∃ b off cap,v=.slice (some ⟨b,off,none⟩) ns.length cap/\ns.length<=cap/\b<w.heap.size/\∀ j (h:j<ns.length),w.cell? ⟨b,off+j*2,none⟩=some (.int .i64 (who ns[j]:Int))/\w.cell? ⟨b,off+j*2+1,none⟩=some (.int .i64 (nth ns[j]:Int))
theorem SliceD.chg {M:Nat->Prop} {w w':World} {v:Value} {ns:List Nat} (h:SliceD w v ns) (hc:Chg M w w') (hm:∀ b,v.ownBlock=some b->¬M b):SliceD w' v ns:=by
 rcases h with h | ⟨b,off,cap,rfl,h2,h3,h4⟩
 ·exact Or.inl h
 ·have e:∀ i,w'.cell? ⟨b,i,none⟩=w.cell? ⟨b,i,none⟩:=fun i=>World.cell?_of_block (w:=w) (hc.block b h3 (hm b rfl))
  exact Or.inr ⟨b,off,cap,rfl,h2,Nat.lt_of_lt_of_le h3 hc.size,fun j hj=>⟨(e _).trans (h4 j hj).1,(e _).trans (h4 j hj).2⟩⟩
theorem SliceD.below {w w':World} {v:Value} {ns:List Nat} (h:SliceD w v ns) (hb:Below w.heap.size w w'):SliceD w' v ns:=h.chg (M:=fun _=>False) (Chg.of_below hb) (fun _ _ h=>h)
end Go.Proofs.YtfmmllpjgkgeaaaGreatDoor

