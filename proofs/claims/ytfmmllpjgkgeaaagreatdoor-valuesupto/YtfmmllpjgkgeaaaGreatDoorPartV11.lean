import Derived.Shelf.SlSortCmp.NoneTotal
import Derived.Laws.Runes
import Derived.Laws.RangeAny
import Derived.WalkMore
import Derived.Lib.OthersKept
import Derived.Test.YtfmmllpjgkgeaaaGreatDoorPartV07
import Derived.Test.YtfmmllpjgkgeaaaGreatDoorPartV10
set_option linter.unusedVariables false
set_option linter.unusedSimpArgs false
set_option maxHeartbeats 16000000
set_option maxRecDepth 100000
namespace Go.Proofs.YtfmmllpjgkgeaaaGreatDoor
open Go.RowKit Go.Maps Go.WideMaps Go.Shelf

attribute [local go_sem] Oper.semAt_some

theorem Tryz.infoDot:(Tryz.prog.info? 134).map (fun i=>(i.zero,i.size,i.bytes))=some (some (.agg #[.int .i64 0,.int .i64 0]),2,16):=by kernel_rfl
def dcells (ns:List Nat):List Value:=ns.flatMap fun n:Nat=>[.int .i64 (who n:Int),.int .i64 (nth n:Int)]
theorem dcells_snoc (ns:List Nat) (n:Nat):dcells (ns ++ [n])=dcells ns ++ [.int .i64 (who n:Int),.int .i64 (nth n:Int)]:=by simp[dcells]

theorem AppendSeq_any (w:World) (gf:Nat) (lb:Array Value) (S:List Nat->Prop) (E:Nat->Prop) (hit:Iter Tryz.prog gf lb (fun n:Nat=>#[Value.agg #[.int .i64 (who n:Int),.int .i64 (nth n:Int)]]) S E w) (eg:∀ args w,(callFunc gf args).run Tryz.prog w=.ok (.enter gf args) w) (hE:∀ k,E k->k<w.heap.size) (hS:∀ ns,S ns->ns.length<=4000) :
  Calls Tryz.prog 278 #[.slice none 0 0,.func (.func gf) #[] lb] w fun e w'=>∃ v ns,e=.returned v/\S ns/\w'.ownsRow w.heap.size 134 2 v ns.length (dcells ns)/\Below w.heap.size w w':=by
 obtain ⟨i0,hi,hz0,hz1,hz2⟩:=info_parts Tryz.infoDot
 refine (callsIn_wide (n:=3)).1 ?_
 refine callsIn_of_wp_marks Tryz.func278 rfl trivial ?_ rfl
 simp only[Tryz.ntmps278,List.size_toArray,List.length_cons,List.length_nil,Nat.reduceAdd,Nat.reduceSub,Array.replicate_succ,Array.replicate_zero,List.push_toArray,List.append_toArray,List.nil_append,List.cons_append]
 gi_wp2
 have hbw:Below w.heap.size w (w.alloc (.cells #[.slice none 0 0] 137)):=(Below.refl _ w).alloc (Nat.le_refl _) _
 refine range_iter (gf:=gf) (lb:=lb) rfl eg hit ⟨hbw.size,fun k hk=>hbw.block k (hE k hk)⟩ (fun k hk=>Nat.lt_of_lt_of_le (hE k hk) hbw.size) (fun _=>rfl)
  (fun T pre W=>Coll w w.heap.size 137 134 2 (dcells pre) pre.length T W) (fun _ _ _ _=>False)
  (fun T T' pre W W' h hc hT=>h.stab hc hT) (fun _ _ _ _ _ _ h _ _=>h)
  ⟨_,Boxed.new w _ _,World.ownsRow_nil _ _ _ _,fun h=>h,fun _ _ h=>h,hbw,fun _ h=>h.elim,Nat.le_refl _⟩ ?round ?done ?stop
 case round =>
  rintro l T pre n W hTl hT ⟨v,hC⟩ hEW ⟨ys,hys,hpre⟩
  have hlen:pre.length+1<=4000:=by have:=hS ys hys;have:=hpre.length_le;simp at this;omega
  gi_wp2
  refine ⟨⟨by simp,fun k hk=>?_⟩, ?_⟩
  ·exact ((Below.refl _ W).alloc (Nat.le_refl _) _).block k (hk.elim (fun h=>Nat.lt_of_lt_of_le (Nat.lt_of_lt_of_le (hE k h) hbw.size) (by have:=hC.bx.lt;have:=hC.below.size;simp;omega)) (fun h=>(hT k h).2))
  intro W2 hc2 hs2 hE2
  have hTs:∀ k,T k->k<W2.heap.size:=fun k hk=>by rw[hs2];have:=(hT k hk).2;simp;omega
  have hC2:CollV w w.heap.size 137 134 2 (dcells pre) pre.length T W2 v:=hC.stab ((Chg.of_below ((Below.refl _ W).alloc (Nat.le_refl _) _)).trans hc2) (fun k hk=>⟨Or.inl hk,hTs k hk⟩)
  have kd:Blk W2 W.heap.size #[.int .i64 (who n:Int),.int .i64 (nth n:Int)] 134:=(Blk.new W _ _).chg hc2 (fun hk=>by have:=(hT _ hk).2;omega)
  have c0:=hC2.bx.cell
  have d0:=(kd.cell 0).trans rfl
  have d1:=(kd.cell 1).trans rfl
  have HC2:Hid (CollV w w.heap.size 137 134 2 (dcells pre) pre.length T W2 v):=hC2
  have hb2:w.heap.size<=W2.heap.size:=hC2.below.size
  have hml:Hid (pre.length+1<=maxLen):=by unfold Hid maxLen;omega
  have hmb:Hid ((pre.length+1)*16<=140737488355328):=by unfold Hid;omega
  have Hcn:Hid (∀ j u,([.int .i64 (who n:Int),.int .i64 (nth n:Int)]:List Value)[j]? = some u->(W2.alloc (.cells #[.int .i64 (who n:Int),.int .i64 (nth n:Int)] 134)).cell? ((⟨W2.heap.size,0,none⟩:Addr).add j)=some u):=fun j u hj=>by
   match j,hj with
   | 0,hj=>cases hj;simp[Addr.add]
   | 1,hj=>cases hj;simp[Addr.add]
  clear hC hC2 kd hc2 hE2 hs2
  gi_wp2_with (first | (gi_at_builtin;refine wpListIn_append_own_at _ rfl (.tmp 8) (.tmp 10) 137 rfl w.heap.size 134 i0 (.agg #[.int .i64 0,.int .i64 0]) 2 16 Tryz.underlying137 hi hz0 hz1 hz2 rfl (by decide) v pre.length (dcells pre) rfl (HC2.out.row.alloc _) ⟨W2.heap.size,0,none⟩ 1 1 [.int .i64 (who n:Int),.int .i64 (nth n:Int)] rfl rfl Hcn.out (by simp[Value.oneCell']) hml.out hmb.out (by simp;omega) ?_;intro v' w1 hown' hg' _ hloc;have happ:=HC2.out.app (E:=E) (by decide) hown' hg' hloc hTs hE;obtain ⟨g',cap',rfl⟩:=ownsRow_succ hown';have hc1:=happ.1.cell;have hf1:=happ.1.frozen))
  refine ⟨?_,happ.2.2⟩
  have h2:=happ.2.1
  rw[<- dcells_snoc] at h2
  exact ⟨_,by rw[List.length_append];exact h2⟩
 case done =>
  rintro D T xs W hD hTD hS' ⟨v,hC⟩ hT hK
  have c0:=hC.bx.cell
  have HC:Hid (CollV w w.heap.size 137 134 2 (dcells xs) xs.length T W v):=hC
  clear hC
  gi_wp2
  refine ⟨by simp,.inl ⟨_,_,rfl,run_takeDeferred hK, ?_⟩⟩
  refine ⟨_,results_tmp rfl _ _ _,v,xs,rfl,hS', ?_, ?_⟩
  ·exact ownsRow_putObj HC.out.row _ hK rfl
  ·have:=(HC.out.stab (T':=T) (chg_putObj W D (.deferred none) hTD) (fun k hk=>⟨Or.inl hk,by rw[size_putObj];exact (hT k hk).2⟩)).below
   exact this
 case stop =>
  rintro D T c pre W _ _ h
  exact h.elim
end Go.Proofs.YtfmmllpjgkgeaaaGreatDoor
namespace Go.Proofs.YtfmmllpjgkgeaaaGreatDoor
open Go.RowKit Go.Maps Go.WideMaps Go.Shelf Go.Sort

theorem dcells_get:∀ (ns:List Nat) (i:Nat) (h:i<ns.length),(dcells ns)[i*2]? = some (.int .i64 (who ns[i]:Int))/\(dcells ns)[i*2+1]? = some (.int .i64 (nth ns[i]:Int)):=by
 intro ns
 induction ns with
 | nil=>intro i h;simp at h
 | cons n r ih =>
  intro i h
  have e:dcells (n :: r)=[.int .i64 (who n:Int),.int .i64 (nth n:Int)] ++ dcells r:=rfl
  rw[e]
  cases i with
  | zero=>exact ⟨rfl,rfl⟩
  | succ i =>
   have:=ih i (by simpa using h)
   rw[show (i+1)*2=i*2+2 by omega]
   exact ⟨by rw[List.getElem?_append_right (by simp)];simpa using this.1,by rw[List.getElem?_append_right (by simp)];simpa using this.2⟩

def encDot (n:Nat):List Value:=[.int .i64 (who n:Int),.int .i64 (nth n:Int)]
theorem ownsRow_holdsK {w:World} {base g cap:Nat} {ns:List Nat} (h:w.ownsRow base 134 2 (.slice (some ⟨g,0,none⟩) ns.length cap) ns.length (dcells ns)):HoldsK encDot 2 w g 0 ns.toArray:=by
 intro j hj
 rw[size_flatK] at hj
 simp at hj
 have hf:w.frozen? ⟨g,0+j,none⟩=false:=by
  obtain ⟨_,⟨h1,_⟩ | ⟨g',cap',cur,hv,_,hh,_⟩⟩:=h
  ·cases h1
  ·simp only[Value.slice.injEq,Option.some.injEq,Addr.mk.injEq,true_and,and_true] at hv
   obtain ⟨rfl,rfl⟩:=hv
   simp[World.frozen?,hh]
 refine ⟨?_,hf⟩
 rw[get_flatK _ _ _ _ (by simpa using hj),Nat.zero_add,h.cellAt j hj]
 have hi:j / 2<ns.length:=by omega
 have hg:=dcells_get ns (j / 2) hi
 have e1:ns.toArray[j / 2]! = ns[j / 2]:=by simp[hi]
 rw[e1]
 rcases Nat.mod_two_eq_zero_or_one j with h0 | h0
 ·have e:j=j / 2*2:=by omega
  rw[h0]
  conv=>lhs;rw[e]
  rw[hg.1];(first | done | rfl)
 ·have e:j=j / 2*2+1:=by omega
  rw[h0]
  conv=>lhs;rw[e]
  rw[hg.2];(first | done | rfl)

theorem ltDot (x y:Nat):ltOf (fun x y:Nat=>Lib.compareInt x y) x y=decide (x<y):=by
 unfold ltOf Lib.compareInt
 by_cases h1:(x:Int)<y
 ·have:x<y:=by omega
  simp[this]
 ·have h3:¬x<y:=by omega
  by_cases h2:(y:Int)<x
  ·have:y<x:=by omega
   simp[h3,this]
  ·have:¬y<x:=by omega
   simp[h3,this]
theorem swoDot:SWO (ltOf fun x y:Nat=>Lib.compareInt x y):={
 irrefl x:=by rw[ltDot];simp
 trans x y z h1 h2:=by rw[ltDot] at *;simp at *;omega
 ntrans x y z h1 h2:=by rw[ltDot] at *;simp at *;omega }
theorem cmpLaysDot (blk off size:Nat) (w:World):CmpLays Tryz.prog 205 #[] encDot 2 (fun x y:Nat=>Lib.compareInt x y) blk off size w :=
 fun _ _ _ _ x y=>compare_any _ x y
theorem Tryz.isAggDot (w:World):(isAgg 134).run Tryz.prog w=.ok true w:=by kernel_rfl
theorem Tryz.sizeOfDot (w:World):(Go.sizeOf 134).run Tryz.prog w=.ok 2 w:=by kernel_rfl

theorem heap_sortWorldK {α : Type} [Inhabited α] (enc:α->List Value) (k:Nat) (w:World) (blk off m:Nat) (dk:Array α) (os:Array Obj):Chg (fun b=>b=blk) w (sortWorldK enc k w blk off m dk os):=by
 refine ⟨rfl,rfl,rfl,size_sortWorldK_c enc k w blk off m dk os,fun b hb hne=>?_⟩
 unfold sortWorldK
 rw[heap_grow_old _ _ (by simp[putRowK,putRow,mapBlock,Sort.ahead];exact hb)]
 simp only[putRowK,putRow,mapBlock,Sort.ahead]
 rw[Array.getElem?_modify]
 rw[if_neg (fun e=>hne (Eq.symm e))]

theorem SortFunc_any (w:World) (base:Nat) (v:Value) (ns:List Nat) (h:w.ownsRow base 134 2 v ns.length (dcells ns)) (hl:ns.length<=4000) :
  Calls Tryz.prog 250 #[v,.func (.func 205) #[] #[]] w fun e w'=>e=.returned (.tuple #[])/\∃ ns',ns'.Perm ns/\SliceD w' v ns'/\Chg (fun k=>v.ownBlock=some k) w w':=by
 have h0:=h
 obtain ⟨hx,⟨rfl,hn⟩ | ⟨g,cap,cur,rfl,hg,hh,hnc,_⟩⟩:=h
 ·have hns:ns=[]:=List.eq_nil_of_length_eq_zero hn
  subst hns
  refine Calls.mono (AnyF.slices_SortFunc_none Tryz.sortDot none 0 _ w) ?_
  rintro e w' ⟨rfl,rfl⟩
  exact ⟨rfl,[],List.Perm.refl _,Or.inl ⟨rfl,rfl⟩,Chg.refl _ _⟩
 ·have hH:=ownsRow_holdsK h0
  have hblk:g<w.heap.size:=(h0.lt g rfl).2
  have hcon:=AnyQ.slices_SortFunc Tryz.sortDot 2 Tryz.isAggDot Tryz.sizeOfDot encDot (fun _=>rfl) (fun x v hv=>by simp[encDot] at hv;rcases hv with rfl | rfl <;> rfl) (fun x y:Nat=>Lib.compareInt x y) swoDot 205 #[] g 0 cap ns.toArray w (enters_of Tryz.func205 (by kernel_rfl) rfl) (cmpLaysDot g 0 _ w) hH hblk (by simp;omega)
  refine Calls.mono hcon ?_
  rintro e w' ⟨rfl,d',m,os,⟨hsz,_,hp⟩,_,rfl⟩
  have hH':=holdsK_sortWorldK encDot 2 w g 0 m ns.toArray d' os hblk hH hsz
  have hperm:d'.toList.Perm ns:=by
   have e1:(d'.extract 0 ns.toArray.size)=d':=by rw[<- hsz];exact Array.extract_size
   have e2:(ns.toArray.extract 0 ns.toArray.size)=ns.toArray:=Array.extract_size
   rw[e1,e2] at hp
   simpa using hp
  have hlen:d'.toList.length=ns.length:=hperm.length_eq
  refine ⟨rfl,d'.toList,hperm,Or.inr ⟨g,0,cap,by rw[hlen],by rw[hlen];exact hnc,lt_sortWorldK _ _ _ _ _ _ _ _ hblk,fun j hj=>?_⟩,(heap_sortWorldK encDot 2 w g 0 m d' os).mono (fun k _ hk=>by subst hk;rfl)⟩
  have hj':j<d'.size:=by simpa using hj
  have c0:=(hH'.cell hj' (c:=0) (by omega)).1
  have c1:=(hH'.cell hj' (c:=1) (by omega)).1
  have e:d'[j]! = d'.toList[j]:=by simp[hj']
  rw[e] at c0 c1
  exact ⟨c0,c1⟩

theorem Collect_any (w:World) (gf:Nat) (lb:Array Value) (S:List Nat->Prop) (E:Nat->Prop) (hit:Iter Tryz.prog gf lb (fun n:Nat=>#[Value.agg #[.int .i64 (who n:Int),.int .i64 (nth n:Int)]]) S E w) (eg:∀ args w,(callFunc gf args).run Tryz.prog w=.ok (.enter gf args) w) (hE:∀ k,E k->k<w.heap.size) (hS:∀ ns,S ns->ns.length<=4000) :
  Calls Tryz.prog 249 #[.func (.func gf) #[] lb] w fun e w'=>∃ v ns,e=.returned v/\S ns/\w'.ownsRow w.heap.size 134 2 v ns.length (dcells ns)/\Below w.heap.size w w':=by
 have Hc:Hid (_):=AppendSeq_any w gf lb S E hit eg hE hS
 clear hit eg hE hS
 go_enter Tryz.func249,Tryz.ntmps249
 go_wp2_with fail
 refine Calls.mono Hc.out ?_
 rintro e w1 ⟨v,ns,rfl,h1,h2,h3⟩
 have HF:Hid (S ns/\w1.ownsRow w.heap.size 134 2 v ns.length (dcells ns)/\Below w.heap.size w w1):=⟨h1,h2,h3⟩
 clear h1 h2 h3 Hc
 go_wp2
 go_ret
 exact ⟨v,ns,rfl,HF.out⟩

theorem SortedFunc_any (w:World) (gf:Nat) (lb:Array Value) (It:Nat->Option Value) (E:Nat->Prop) (hit:Iter Tryz.prog gf lb (fun n:Nat=>#[Value.agg #[.int .i64 (who n:Int),.int .i64 (nth n:Int)]]) (AllOf It) E w) (eg:∀ args w,(callFunc gf args).run Tryz.prog w=.ok (.enter gf args) w) (hE:∀ k,E k->k<w.heap.size) (h501:∀ n,It n≠none->okD n) :
  Calls Tryz.prog 203 #[.func (.func gf) #[] lb,.func (.func 205) #[] #[]] w fun e w'=>∃ v ns,e=.returned v/\AllOf It ns/\SliceD w' v ns/\(∀ b,v.ownBlock=some b->w.heap.size<=b)/\Below w.heap.size w w':=by
 have hS:∀ ns,AllOf It ns->ns.length<=4000:=fun ns h=>by
  have:=nodup_lt 3072 ns h.1 (fun n hn=>okD_lt (h501 n ((h.2 n).1 hn)))
  omega
 have HS:Hid (∀ ns,AllOf It ns->ns.length<=4000):=hS
 have Hc:Hid (_):=Collect_any w gf lb (AllOf It) E hit eg hE hS
 clear hit eg hE hS
 go_enter Tryz.func203,Tryz.ntmps203
 go_wp2_with fail
 refine Calls.mono Hc.out ?_
 rintro e w1 ⟨v,ns,rfl,h1,h2,h3⟩
 have HF:Hid (AllOf It ns/\w1.ownsRow w.heap.size 134 2 v ns.length (dcells ns)/\Below w.heap.size w w1):=⟨h1,h2,h3⟩
 clear h1 h2 h3 Hc
 go_wp2_with fail
 refine Calls.mono (SortFunc_any w1 _ v ns HF.out.2.1 (HS.out ns HF.out.1)) ?_
 rintro e w2 ⟨rfl,ns',hp,hsl,hch⟩
 have HG:Hid (AllOf It ns'/\SliceD w2 v ns'/\(∀ b,v.ownBlock=some b->w.heap.size<=b)/\Below w.heap.size w w2):=⟨⟨hp.nodup_iff.2 HF.out.1.1,fun n=>(hp.mem_iff).trans (HF.out.1.2 n)⟩,hsl,fun b hb=>(HF.out.2.1.lt b hb).1,HF.out.2.2.trans ⟨hch.os,hch.tape,hch.output,hch.size,fun k hk=>hch.block k (Nat.lt_of_lt_of_le hk HF.out.2.2.size) (fun e=>by have:=(HF.out.2.1.lt k e).1;omega)⟩⟩
 clear hp hsl hch HF
 go_wp2
 go_ret
 exact ⟨v,ns',rfl,HG.out⟩

theorem All_any (w:World) (io co lo:Option Nat):Calls Tryz.prog 148 #[.agg #[.map io,.map co,.map lo]] w fun e w'=>e=.returned (.func (.func 202) #[] #[.pointer (some ⟨w.heap.size,0,none⟩)])/\w'=w.alloc (.cells #[.map io,.map co,.map lo] 102):=by
 go_enter Tryz.func148,Tryz.ntmps148
 go_wp2
 go_ret
 exact ⟨rfl,rfl⟩
end Go.Proofs.YtfmmllpjgkgeaaaGreatDoor
namespace Go.Proofs.YtfmmllpjgkgeaaaGreatDoor
open Go.RowKit Go.Maps Go.WideMaps Go.Shelf

attribute [local go_sem] Oper.semAt_some

structure Itm where
 n:Nat
 p:ByteArray
 a:Int
 v:ByteArray
 m:Int
noncomputable def itm (It:Nat->Option Value) (n:Nat):Itm:=@dite _ (∃ x:Itm,x.n=n/\It n=some (.agg #[.string x.p,.int .u8 x.a,.string x.v,.int .i64 x.m])) (Classical.propDecidable _) (fun h=>Classical.choose h) (fun _=>⟨n,⟨#[]⟩,0,⟨#[]⟩,0⟩)
theorem itm_n (It:Nat->Option Value) (n:Nat):(itm It n).n=n:=by
 unfold itm
 split
 ·rename_i h;exact (Classical.choose_spec h).1
 ·rfl
theorem itm_at {It:Nat->Option Value} {n:Nat} {v:Value} (h:It n=some v) (hv:ItemV v):It n=some (.agg #[.string (itm It n).p,.int .u8 (itm It n).a,.string (itm It n).v,.int .i64 (itm It n).m]):=by
 obtain ⟨s0,x1,s2,x3,rfl⟩:=hv
 unfold itm
 have hh:∃ x:Itm,x.n=n/\It n=some (.agg #[.string x.p,.int .u8 x.a,.string x.v,.int .i64 x.m]):=⟨⟨n,s0,x1,s2,x3⟩,rfl,h⟩
 rw[dif_pos hh]
 exact (Classical.choose_spec hh).2

def SAll (It:Nat->Option Value) (xs:List Itm):Prop:=AllOf It (xs.map Itm.n)/\∀ x∈xs,It x.n=some (.agg #[.string x.p,.int .u8 x.a,.string x.v,.int .i64 x.m])

theorem sAll_of {It:Nat->Option Value} {ns:List Nat} (h:AllOf It ns) (hv:∀ n v,It n=some v->ItemV v):SAll It (ns.map (itm It)):=by
 refine ⟨?_,fun x hx=>?_⟩
 ·have e:(ns.map (itm It)).map Itm.n=ns:=by rw[List.map_map];exact (List.map_congr_left (fun n _=>itm_n It n)).trans (List.map_id _)
  rw[e];exact h
 ·obtain ⟨n,hn,rfl⟩:=List.mem_map.1 hx
  obtain ⟨v,hvv⟩:=Option.ne_none_iff_exists'.1 ((h.2 n).1 hn)
  rw[itm_n]
  exact itm_at hvv (hv n v hvv)

theorem All1_iter (w0:World) (sb:Nat) (io co lo:Option Nat) (It:Nat->Option Value) (N:Nat) (hk:Blk w0 sb #[.map io,.map co,.map lo] 102) (hM:MapO Tryz.prog 134 w0 (.map io) N (im It)) (h501:∀ n,It n≠none->okD n) (hv:∀ n v,It n=some v->ItemV v) :
  Iter Tryz.prog 202 #[.pointer (some ⟨sb,0,none⟩)] (fun x:Itm=>#[dotE x.n,Value.agg #[.string x.p,.int .u8 x.a,.string x.v,.int .i64 x.m]]) (SAll It) (fun k=>k=sb\/io=some k) w0:=by
 intro l J Jx W hE hJ hJx hY h0
 have hkb:Blk W sb #[.map io,.map co,.map lo] 102:=(hE.2 sb (Or.inl rfl)).trans hk
 have c0:W.cell? ⟨sb,0,none⟩=some (.map io):=(hkb.cell 0).trans rfl
 have hMW:MapO Tryz.prog 134 W (.map io) N (im It):=by
  rcases hM with h | ⟨b,hb,h⟩
  ·exact Or.inl h
  ·exact Or.inr ⟨b,hb,h.block (hE.2 b (Or.inr (by cases hb;rfl)))⟩
 have hlt:∀ k,(k=sb\/io=some k)->k<W.heap.size:=by
  rintro k (rfl | h)
  ·exact hkb.lt
  ·exact hMW.lt k (by rw[h])
 clear hM hk
 have HKe:Hid (_):=Keys_any W io
 have HSo:Hid (∀ wx,wx=W.alloc (.cells #[.map io] 96)->Calls Tryz.prog 203 #[.func (.func 251) #[] #[.pointer (some ⟨W.heap.size,0,none⟩)],.func (.func 205) #[] #[]] wx fun e w'=>∃ v ns,e=.returned v/\AllOf It ns/\SliceD w' v ns/\(∀ b,v.ownBlock=some b->W.heap.size<=b)/\Below W.heap.size W w'):=fun wx hx=>by
  subst hx
  have hb:Below W.heap.size W (W.alloc (.cells #[.map io] 96)):=(Below.refl _ W).alloc (Nat.le_refl _) _
  refine Calls.mono (SortedFunc_any _ _ _ It _ (Keys1_iter _ W.heap.size io It N (Blk.new W _ _) (hMW.below hb) h501) (enters_of Tryz.func251 (by kernel_rfl) rfl) ?_ h501) ?_
  ·rintro k (rfl | h)
   ·simp
   ·have:=hlt k (Or.inr h);simp;omega
  ·rintro e w' ⟨v,ns,rfl,h1,h2,h3,h4⟩
   exact ⟨v,ns,rfl,h1,h2,fun b hb'=>by have:=h3 b hb';simp at this;omega,hb.trans (h4.mono (by simp))⟩
 refine callsIn_of_wp Tryz.func202 rfl trivial ?_ rfl
 simp only[Tryz.ntmps202,List.size_toArray,List.length_cons,List.length_nil,Nat.reduceAdd,Nat.reduceSub,Array.replicate_succ,Array.replicate_zero,List.push_toArray,List.append_toArray,List.nil_append,List.cons_append]
 gi_wp2_with fail
 refine ⟨trivial,(callsIn_wide.2 HKe.out).mono ?_⟩
 rintro e w1 ⟨rfl,rfl⟩
 gi_wp2_with fail
 refine ⟨trivial,(callsIn_wide.2 (HSo.out _ rfl)).mono ?_⟩
 rintro e w2 ⟨v,ns,rfl,hns,hsl,hvb,hb2⟩
 obtain ⟨T,hT⟩:∃ T:Nat->Prop,T=fun k=>v.ownBlock=some k:=⟨_,rfl⟩
 have hTl:∀ k,T k->k<w2.heap.size:=fun k hk=>by
  rw[hT] at hk
  rcases hsl with ⟨rfl,_⟩ | ⟨b,off,cap,rfl,_,h3,_⟩
  ·cases hk
  ·cases hk;exact h3
 have hJ2:J T [] w2:=hJ _ _ _ _ _ h0 (Chg.of_below hb2) (fun k hk=>⟨Or.inr (by rw[hT] at hk;exact hvb k hk),hTl k hk⟩)
 have hshape:∃ ao cap,v=.slice ao ns.length cap/\ns.length<=cap:=by
  rcases hsl with ⟨rfl,rfl⟩ | ⟨b,off,cap,rfl,h2,_⟩
  ·exact ⟨none,0,rfl,Nat.le_refl _⟩
  ·exact ⟨_,cap,rfl,h2⟩
 obtain ⟨ao,cap,hveq,hcap⟩:=hshape
 have hl502:ns.length<=3072:=nodup_lt 3072 ns hns.1 (fun n hn=>okD_lt (h501 n ((hns.2 n).1 hn)))
 have HJ2:Hid (J T [] w2):=hJ2
 have HE2:Hid (Blk w2 sb #[.map io,.map co,.map lo] 102/\MapO Tryz.prog 134 w2 (.map io) N (im It)/\SliceD w2 v ns):=⟨hkb.below hb2,hMW.below hb2,hsl⟩
 clear hJ2 hsl hb2 HSo HKe hkb hMW c0
 subst hveq
 gi_wp2_with fail
 gi_loopg [10] ns.length (fun g v10 wx=>∃ i:Nat,i+g=ns.length/\v10=.int .i64 (i:Int)/\J T ((ns.take i).map (itm It)) wx/\Blk wx sb #[.map io,.map co,.map lo] 102/\MapO Tryz.prog 134 wx (.map io) N (im It)/\SliceD wx (.slice ao ns.length cap) ns/\w2.heap.size<=wx.heap.size)
 case atStart=>exact ⟨0,by omega,rfl,HJ2.out,HE2.out.1,HE2.out.2.1,HE2.out.2.2,Nat.le_refl _⟩
 case round =>
  obtain ⟨i,hig,rfl,hJi,hbk,hmo,hsl,hwsz⟩:=hrel
  have HJi:Hid (J T ((ns.take i).map (itm It)) wr):=hJi
  have HEi:Hid (Blk wr sb #[.map io,.map co,.map lo] 102/\MapO Tryz.prog 134 wr (.map io) N (im It)/\SliceD wr (.slice ao ns.length cap) ns):=⟨hbk,hmo,hsl⟩
  clear HJ2 HE2 hJi hbk hmo
  by_cases hi:i<ns.length
  ·obtain ⟨b,off,cap',hvv,_,hb,hcells⟩:=hsl.resolve_left (fun h=>by rw[h.2] at hi;simp at hi)
   simp only[Value.slice.injEq] at hvv
   obtain ⟨rfl,_,rfl⟩:=hvv
   have k0:=(hcells i hi).1
   have k1:=(hcells i hi).2
   clear hsl hcells
   have hmem:ns[i]∈ns:=List.getElem_mem hi
   have hall:ns.take (i+1)=ns.take i ++ [ns[i]]:=List.take_succ_eq_append_getElem hi
   obtain ⟨vi,hvi⟩:=Option.ne_none_iff_exists'.1 ((hns.2 _).1 hmem)
   have hIt:=itm_at hvi (hv _ _ hvi)
   have hin:=itm_n It ns[i]
   have hn501:=h501 _ ((hns.2 _).1 hmem)
   have hpre:∃ ys,SAll It ys/\(ns.take i).map (itm It) ++ [itm It ns[i]] <+: ys:=⟨ns.map (itm It),sAll_of hns hv,by rw[<- List.map_singleton,<- List.map_append,<- hall];exact (List.take_prefix _ _).map _⟩
   have Hall:Hid ((ns.take (i+1)).map (itm It)=(ns.take i).map (itm It) ++ [itm It ns[i]]):=by show _=_;rw[hall,List.map_append];(first | done | rfl)
   generalize ns[i]=n at *
   generalize itm It n=x at *
   obtain ⟨xn,s0,x1,s2,x3⟩:=x
   simp only at hin hIt
   subst hin
   gi_wp2_with fail
   have kd:Blk (wr.alloc (.cells #[.int .i64 (who xn:Int),.int .i64 (nth xn:Int)] 134)) wr.heap.size #[.int .i64 (who xn:Int),.int .i64 (nth xn:Int)] 134:=Blk.new wr _ _
   have hbw:Below wr.heap.size wr (wr.alloc (.cells #[.int .i64 (who xn:Int),.int .i64 (nth xn:Int)] 134)):=(Below.refl _ wr).alloc (Nat.le_refl _) _
   generalize wr.alloc (.cells #[.int .i64 (who xn:Int),.int .i64 (nth xn:Int)] 134)=w5 at *
   have d0:w5.cell? ⟨wr.heap.size,0,none⟩=some (.int .i64 (who xn:Int)):=(kd.cell 0).trans rfl
   have d1:w5.cell? ⟨wr.heap.size,1,none⟩=some (.int .i64 (nth xn:Int)):=(kd.cell 1).trans rfl
   have s0':w5.cell? ⟨sb,0,none⟩=some (.map io):=((HEi.out.1.below hbw).cell 0).trans rfl
   obtain ⟨kl,hkl⟩:=keyE xn (by have:=hn501.1;omega)
   have hlk:(Instr.lookup 96 (.map io) (.agg #[.int .i64 (who xn:Int),.int .i64 (nth xn:Int)]) false).run Tryz.prog w5.drew=.ok (.agg #[.string s0,.int .u8 x1,.string s2,.int .i64 x3]) w5.drew:=by
    have h1:=((HEi.out.2.1.below hbw).below (Below.refl _ w5).drew).look kDot Tryz.underlying96 (zCh _) hkl
    rw[im_dot,hIt] at h1
    exact h1
   have hJ6:J T ((ns.take i).map (itm It)) w5.drew:=hJ _ _ _ _ _ HJi.out (Chg.of_below (hbw.drew)) (fun k hk=>⟨Or.inl hk,by have:=hTl k hk;have:=hbw.size;show k<w5.heap.size;omega⟩)
   obtain ⟨fn,tmps,assign,body,hy,hRd⟩:=hY T _ ⟨xn,s0,x1,s2,x3⟩ _ hJ6 hpre
   try dsimp only at hy
   have hRd2:RoundIn Fence.wide 3 Tryz.prog l fn tmps assign body w5.drew fun e W'=>∃ bb:Bool,e=.returned (.bool bb)/\(bb=true->J T ((ns.take i).map (itm It) ++ [⟨xn,s0,x1,s2,x3⟩]) W'/\KeepT (fun k=>(k=sb\/io=some k)\/T k) w5.drew W')/\(bb=false->Jx T ((ns.take i).map (itm It) ++ [⟨xn,s0,x1,s2,x3⟩]) W'):=hRd.mono (by
    rintro e W' (⟨rfl,h1,h2⟩ | ⟨rfl,h1,_⟩)
    ·exact ⟨true,rfl,fun _=>⟨h1,h2⟩,fun h=>by cases h⟩
    ·exact ⟨false,rfl,(fun h=>by cases h),fun _=>h1⟩)
   have HK:Hid (∀ W3,KeepT (fun k=>(k=sb\/io=some k)\/T k) w5.drew W3->Blk W3 sb #[.map io,.map co,.map lo] 102/\MapO Tryz.prog 134 W3 (.map io) N (im It)/\SliceD W3 (.slice (some ⟨b,off,none⟩) ns.length cap) ns/\w2.heap.size<=W3.heap.size):=fun W3 hk=>by
    have e1:=HEi.out.1.below hbw
    have e2:=HEi.out.2.1.below hbw
    have e3:=HEi.out.2.2.below hbw
    refine ⟨(hk.2 sb (Or.inl (Or.inl rfl))).trans e1, ?_, ?_,by have:=hk.1;have:=hbw.size;simp only[World.drew] at *;omega⟩
    ·rcases e2 with h | ⟨b',hb',h⟩
     ·exact Or.inl h
     ·exact Or.inr ⟨b',hb',h.block (hk.2 b' (Or.inl (Or.inr (by cases hb';rfl))))⟩
    ·rcases e3 with ⟨h,_⟩ | ⟨b',off',cap'',h1,h2,h3,h4⟩
     ·cases h
     ·have hbb:b'=b:=by cases h1;rfl
      have e:∀ i,W3.cell? ⟨b',i,none⟩=w5.cell? ⟨b',i,none⟩:=fun i=>World.cell?_of_block (w:=w5) (hk.2 b' (Or.inr (by rw[hT,hbb];rfl)))
      exact Or.inr ⟨b',off',cap'',h1,h2,Nat.lt_of_lt_of_le h3 hk.1,fun j hj=>⟨(e _).trans (h4 j hj).1,(e _).trans (h4 j hj).2⟩⟩
   gi_region_with (first | (refine RoundIn.mono (roundIn_wide_any hRd2) ?_;rintro e W3 ⟨bb,rfl,h3,h4⟩))
   all_goals
    cases bb with
    | true =>
     have H3:Hid (_):=h3 rfl
     clear h3 h4 hRd2 hy hlk d0 d1 s0' kd
     gi_wp2_with fail
     gi_roundg (ns.length-(i+1))
     case measure=>omega
     case rel=>exact ⟨i+1,by omega,by go_num,by rw[Hall.out];exact H3.out.1,HK.out _ H3.out.2⟩
    | false =>
     have H4:Hid (_):=h4 rfl
     clear h3 h4 hRd2 hy hlk d0 d1 s0' kd
     gi_wp2_with fail
     refine bodyPost_ret (results_none rfl _ _ _) rfl ?_
     exact ⟨⟨_,rfl⟩,Or.inr ⟨_,T,H4.out⟩⟩
  ·clear hsl
   gi_wp2_with fail
   go_end0
   refine ⟨⟨_,rfl⟩,Or.inl ⟨ns.map (itm It),sAll_of hns hv,T, ?_⟩⟩
   have:=HJi.out
   rw[List.take_of_length_le (by omega)] at this
   exact this
end Go.Proofs.YtfmmllpjgkgeaaaGreatDoor
namespace Go.Proofs.YtfmmllpjgkgeaaaGreatDoor
open Go.RowKit

theorem Clone_any (s:ByteArray) (w:World) (hs:s.size<=1048576) :
  Calls Tryz.prog 56 #[.string s] w fun e w'=>e=.returned (.string s)/\Below w.heap.size w w':=by
 have Hc1:Hid (_):=Tryz.stringslite_Clone s w (by omega)
 go_enter Tryz.func56,Tryz.ntmps56
 go_wp2_with fail
 refine Calls.mono Hc1.out ?_
 rintro e w1 ⟨rfl,hb⟩
 go_wp2
 go_ret
 exact ⟨rfl,hb⟩

structure ChAt (w:World) (b:Nat) (p:ByteArray) (a:UInt8) (v:ByteArray) (n:Int):Prop where
 tag:Tagged w b 86
 c0:w.cell? ⟨b,0,none⟩=some (.string p)
 c1:w.cell? ⟨b,1,none⟩=some (.int .u8 (a.toNat:Int))
 c2:w.cell? ⟨b,2,none⟩=some (.string v)
 c3:w.cell? ⟨b,3,none⟩=some (.int .i64 n)

theorem ChAt.chg {M:Nat->Prop} {w w':World} {b:Nat} {p:ByteArray} {a:UInt8} {v:ByteArray} {n:Int} (h:ChAt w b p a v n) (hc:Chg M w w') (hm:¬M b):ChAt w' b p a v n:=by
 have hcell:∀ i,w'.cell? ⟨b,i,none⟩=w.cell? ⟨b,i,none⟩:=fun i=>World.cell?_of_block (w:=w) (hc.block b h.tag.lt hm)
 exact ⟨h.tag.chg hc hm,(hcell 0).trans h.c0,(hcell 1).trans h.c1,(hcell 2).trans h.c2,(hcell 3).trans h.c3⟩
theorem ChAt.below {w w':World} {b:Nat} {p:ByteArray} {a:UInt8} {v:ByteArray} {n:Int} (h:ChAt w b p a v n) (hb:Below w.heap.size w w'):ChAt w' b p a v n :=
 h.chg (Chg.of_below (M:=fun _=>False) hb) (fun h=>h)
theorem ChAt.set2 {w:World} {b:Nat} {p:ByteArray} {a:UInt8} {v:ByteArray} {n:Int} (h:ChAt w b p a v n) (v':ByteArray):ChAt (w.setCell ⟨b,2,none⟩ (.string v')) b p a v' n :=
 ⟨h.tag.setCell _ _,(cs_oth (Or.inr (by omega))).trans h.c0,(cs_oth (Or.inr (by omega))).trans h.c1,cs_same h.c2,(cs_oth (Or.inr (by omega))).trans h.c3⟩
theorem ChAt.set3 {w:World} {b:Nat} {p:ByteArray} {a:UInt8} {v:ByteArray} {n:Int} (h:ChAt w b p a v n) (n':Int):ChAt (w.setCell ⟨b,3,none⟩ (.int .i64 n')) b p a v n' :=
 ⟨h.tag.setCell _ _,(cs_oth (Or.inr (by omega))).trans h.c0,(cs_oth (Or.inr (by omega))).trans h.c1,(cs_oth (Or.inr (by omega))).trans h.c2,cs_same h.c3⟩
theorem ChAt.set0 {w:World} {b:Nat} {p:ByteArray} {a:UInt8} {v:ByteArray} {n:Int} (h:ChAt w b p a v n) (p':ByteArray):ChAt (w.setCell ⟨b,0,none⟩ (.string p')) b p' a v n :=
 ⟨h.tag.setCell _ _,cs_same h.c0,(cs_oth (Or.inr (by omega))).trans h.c1,(cs_oth (Or.inr (by omega))).trans h.c2,(cs_oth (Or.inr (by omega))).trans h.c3⟩
theorem ChAt.set1 {w:World} {b:Nat} {p:ByteArray} {a:UInt8} {v:ByteArray} {n:Int} (h:ChAt w b p a v n) (a':UInt8):ChAt (w.setCell ⟨b,1,none⟩ (.int .u8 (a'.toNat:Int))) b p a' v n :=
 ⟨h.tag.setCell _ _,(cs_oth (Or.inr (by omega))).trans h.c0,cs_same h.c1,(cs_oth (Or.inr (by omega))).trans h.c2,(cs_oth (Or.inr (by omega))).trans h.c3⟩
theorem ChAt.setOth {w:World} {b b' i:Nat} {p:ByteArray} {a:UInt8} {v:ByteArray} {n:Int} (h:ChAt w b p a v n) (hb:b≠b') (u:Value):ChAt (w.setCell ⟨b',i,none⟩ u) b p a v n :=
 h.chg ((Chg.refl (fun k=>k=b') w).setCell (p:=⟨b',i,none⟩) rfl u) hb
theorem chAt_alloc (w:World) (p:ByteArray) (a:UInt8) (v:ByteArray) (n:Int):ChAt (w.alloc (.cells #[.string p,.int .u8 (a.toNat:Int),.string v,.int .i64 n] 86)) w.heap.size p a v n:=by
 have h:(w.alloc (.cells #[.string p,.int .u8 (a.toNat:Int),.string v,.int .i64 n] 86)).heap[w.heap.size]? = some (.cells #[.string p,.int .u8 (a.toNat:Int),.string v,.int .i64 n] 86 (0,0)):=heap_alloc_new _ _
 refine ⟨⟨_,h⟩, ?_, ?_, ?_, ?_⟩ <;> rw[World.cell?_alloc_at _ _ _ _ rfl] <;> rfl

theorem copied_any (p:ByteArray) (a:UInt8) (v:ByteArray) (n:Int) (w:World) (hp:p.size<=1048576) (hv:v.size<=1048576) :
  Calls Tryz.prog 85 #[.agg #[.string p,.int .u8 (a.toNat:Int),.string v,.int .i64 n]] w
   fun e w'=>e=.returned (.agg #[.string p,.int .u8 (a.toNat:Int),.string v,.int .i64 n])/\Below w.heap.size w w':=by
 have HA0:Hid (∀ o,ChAt ((w.alloc (.cells #[.string p,.int .u8 (a.toNat:Int),.string v,.int .i64 n] 86)).alloc o) w.heap.size p a v n):=fun o=>(chAt_alloc w p a v n).below ((Below.refl _ _).alloc (Nat.le_refl _) o)
 have HA1:Hid (∀ o,ChAt ((w.alloc o).alloc (.cells #[.string ⟨#[]⟩,.int .u8 0,.string ⟨#[]⟩,.int .i64 0] 86)) (w.heap.size+1) ⟨#[]⟩ 0 ⟨#[]⟩ 0):=fun o=>by
  have:=chAt_alloc (w.alloc o) ⟨#[]⟩ 0 ⟨#[]⟩ 0
  have e:(w.alloc o).heap.size=w.heap.size+1:=by simp
  rw[e] at this;exact this
 have HB:Hid (∀ o o',Below w.heap.size w ((w.alloc o).alloc o')):=fun o o'=>((Below.refl _ w).alloc (Nat.le_refl _) o).alloc (by simp) o'
 go_enter Tryz.func85,Tryz.ntmps85
 go_wp2_with fail
 refine Calls.mono (Clone_any p _ hp) ?_
 rintro e w1 ⟨rfl,hb1⟩
 have a0:ChAt w1 w.heap.size p a v n:=(HA0.out _).below hb1
 have a1:ChAt w1 (w.heap.size+1) ⟨#[]⟩ 0 ⟨#[]⟩ 0:=(HA1.out _).below hb1
 have b1:Hid (Below w.heap.size w w1):=(HB.out _ _).trans (hb1.mono (by simp;omega))
 clear hb1
 have x0:=a0.c0
 have x1:=a0.c1
 have x2:=a0.c2
 have x3:=a0.c3
 have xf:=a0.tag.frozen
 have A0:Hid (ChAt w1 w.heap.size p a v n):=a0
 have A1:Hid (ChAt w1 (w.heap.size+1) ⟨#[]⟩ 0 ⟨#[]⟩ 0):=a1
 clear a0 a1 HA0 HA1 HB
 go_wp2_with fail
 refine Calls.mono (Clone_any v _ hv) ?_
 rintro e w2 ⟨rfl,hb2⟩
 have a0:ChAt w2 w.heap.size p a v n:=(A0.out.set0 p).below hb2
 have a1:ChAt w2 (w.heap.size+1) ⟨#[]⟩ 0 ⟨#[]⟩ 0:=(A1.out.chg ((Chg.refl (fun k=>k=w.heap.size) w1).setCell (p:=⟨w.heap.size,0,none⟩) rfl (.string p)) (by simp)).below hb2
 have b2:Hid (Below w.heap.size w w2):=(b1.out.setCell (p:=⟨w.heap.size,0,none⟩) (Nat.le_refl _) (.string p)).trans (hb2.mono (by have:=b1.out.size;simpa[World.setCell] using this))
 clear hb2 x0 x1 x2 x3 xf
 have x0:=a0.c0
 have x1:=a0.c1
 have x2:=a0.c2
 have x3:=a0.c3
 have xf:=a0.tag.frozen
 have y0:=a1.c0
 have y1:=a1.c1
 have y2:=a1.c2
 have y3:=a1.c3
 have yf:=a1.tag.frozen
 have A1:Hid (ChAt w2 (w.heap.size+1) ⟨#[]⟩ 0 ⟨#[]⟩ 0):=a1
 clear a0 a1 A0 b1
 go_wp2
 have hF:ChAt (((((w2.setCell ⟨w.heap.size,2,none⟩ (.string v)).setCell ⟨w.heap.size+1,0,none⟩ (.string p)).setCell ⟨w.heap.size+1,1,none⟩ (.int .u8 (a.toNat:Int))).setCell ⟨w.heap.size+1,2,none⟩ (.string v)).setCell ⟨w.heap.size+1,3,none⟩ (.int .i64 n)) (w.heap.size+1) p a v n :=
  ((((A1.out.setOth (by omega) _).set0 p).set1 a).set2 v).set3 n
 have hB:Below w.heap.size w (((((w2.setCell ⟨w.heap.size,2,none⟩ (.string v)).setCell ⟨w.heap.size+1,0,none⟩ (.string p)).setCell ⟨w.heap.size+1,1,none⟩ (.int .u8 (a.toNat:Int))).setCell ⟨w.heap.size+1,2,none⟩ (.string v)).setCell ⟨w.heap.size+1,3,none⟩ (.int .i64 n)) :=
  ((((b2.out.setCell (p:=⟨w.heap.size,2,none⟩) (Nat.le_refl _) _).setCell (p:=⟨w.heap.size+1,0,none⟩) (Nat.le_succ _) _).setCell (p:=⟨w.heap.size+1,1,none⟩) (Nat.le_succ _) _).setCell (p:=⟨w.heap.size+1,2,none⟩) (Nat.le_succ _) _).setCell (p:=⟨w.heap.size+1,3,none⟩) (Nat.le_succ _) _
 generalize (((((w2.setCell ⟨w.heap.size,2,none⟩ (.string v)).setCell ⟨w.heap.size+1,0,none⟩ (.string p)).setCell ⟨w.heap.size+1,1,none⟩ (.int .u8 (a.toNat:Int))).setCell ⟨w.heap.size+1,2,none⟩ (.string v)).setCell ⟨w.heap.size+1,3,none⟩ (.int .i64 n))=WF at *
 refine bodyPost_ret (v:=.agg #[.string p,.int .u8 (a.toNat:Int),.string v,.int .i64 n]) (by simp[results,Tryz.results85,go_sem,hF.c0,hF.c1,hF.c2,hF.c3]) rfl ⟨rfl,hB⟩

def keptVal (a:UInt8) (t:ByteArray):ByteArray:=if a.toNat=43\/a.toNat=45\/a.toNat=61 then t else ByteArray.empty

theorem opA {p:Thk.Bs} {a:UInt8} {l:Thk.Bs} (ha:a.toNat=43\/a.toNat=45\/a.toNat=61):(Thk.operand p a l).isRight=Thk.word Thk.isAln 8 l/\∀ c,Thk.operand p a l=.inr c->c.n=0:=by
 have hv:Thk.val l=Thk.word Thk.isAln 8 l:=rfl
 unfold Thk.operand
 rw[if_pos ha,hv]
 cases Thk.word Thk.isAln 8 l
 ·simp
 ·simp only[if_true,Sum.isRight_inr,Sum.inr.injEq,true_and];rintro c rfl;rfl
theorem opB {p:Thk.Bs} {a:UInt8} {l:Thk.Bs} (ha:a.toNat=62):(Thk.operand p a l).isRight=(Thk.num l).isSome/\∀ c,Thk.operand p a l=.inr c->Thk.num l=some c.n:=by
 unfold Thk.operand
 rw[if_neg (by omega),if_pos ha]
 cases Thk.num l
 ·simp
 ·simp only[Sum.isRight_inr,Sum.inr.injEq,Option.isSome_some,true_and];rintro c rfl;rfl
theorem opC {p:Thk.Bs} {a:UInt8} {l:Thk.Bs} (ha:¬(a.toNat=43\/a.toNat=45\/a.toNat=61)) (hb:¬a.toNat=62):(Thk.operand p a l).isRight=decide (l=[])/\∀ c,Thk.operand p a l=.inr c->c.n=0:=by
 unfold Thk.operand
 rw[if_neg ha,if_neg hb]
 by_cases h:l=[]
 ·rw[if_pos h];simp only[Sum.isRight_inr,Sum.inr.injEq,h,decide_true,true_and];rintro c rfl;rfl
 ·rw[if_neg h];simp[h]
theorem keptA {a:UInt8} {t:ByteArray} (ha:a.toNat=43\/a.toNat=45\/a.toNat=61):keptVal a t=t:=if_pos ha
theorem keptN {a:UInt8} {t:ByteArray} (ha:¬(a.toNat=43\/a.toNat=45\/a.toNat=61)):keptVal a t=ByteArray.empty:=if_neg ha

theorem readOperand_any (b:Nat) (p:ByteArray) (a:UInt8) (t:ByteArray) (w:World) (ht:t.size<=1048576) (hG:Glob w) (hC:ChAt w b p a ByteArray.empty 0) :
  Calls Tryz.prog 84 #[.pointer (some ⟨b,0,none⟩),.string t] w
   fun e w'=>e=.returned (.bool (Thk.operand (toL p) a (toL t)).isRight)/\(∀ c,Thk.operand (toL p) a (toL t)=.inr c->ChAt w' b p a (keptVal a t) c.n)/\Chg (· = b) w w':=by
 have c0:=hC.c0
 have c1:=hC.c1
 have c2:=hC.c2
 have c3:=hC.c3
 have fz:=hC.tag.frozen
 have HC:Hid (ChAt w b p a ByteArray.empty 0):=hC
 have Hn:Hid (_):=readNumber_any t w ht hG
 clear hG hC
 go_enter Tryz.func84,Tryz.ntmps84
 go_wp2_with (first | (go_at_call 145;refine Calls.mono Hn.out ?_;rintro e w1 ⟨n,rfl,hn,hb⟩;have z3:=(HC.out.below hb).c3;have zf:=(HC.out.below hb).tag.frozen) | (go_at_call 143;refine (isWord_alnum t 8 _ ht (by omega)).mono ?_;rintro e w1 ⟨rfl,rfl⟩))
 iterate 3
  ·go_ret
   have ha:a.toNat=43\/a.toNat=45\/a.toNat=61:=by simp only[beq_iff_eq,beq_eq_false_iff_ne] at *;omega
   refine ⟨ret_bool (opA ha).1.symm,fun c hc=>?_,Chg.setCell (M:=fun x=>x=b) (Chg.refl _ w) (p:=⟨b,2,none⟩) rfl _⟩
   rw[(opA ha).2 c hc,keptA ha];exact HC.out.set2 t
 ·go_ret
  have hb':a.toNat=62:=by simp only[beq_iff_eq,beq_eq_false_iff_ne] at *;omega
  refine ⟨ret_bool (opB hb').1.symm,fun c hc=>?_,Chg.setCell (M:=fun x=>x=b) (Chg.of_below hb) (p:=⟨b,3,none⟩) rfl _⟩
  rw[<- hn _ ((opB hb').2 c hc),keptN (by omega)];exact (HC.out.below hb).set3 n
 ·go_ret
  have ha:¬(a.toNat=43\/a.toNat=45\/a.toNat=61):=by simp only[beq_iff_eq,beq_eq_false_iff_ne] at *;omega
  have hb':¬a.toNat=62:=by simp only[beq_iff_eq,beq_eq_false_iff_ne] at *;omega
  refine ⟨ret_bool ?_,fun c hc=>?_,Chg.refl _ w⟩
  ·rw[(opC ha hb').1,toList_eq]
   show (toL t).isEmpty=_
   cases toL t <;> rfl
  ·rw[(opC ha hb').2 c hc,keptN ha];exact HC.out

def actsB:ByteArray:=⟨#[43,45,94,95,61,62,33]⟩
theorem acts_low:∀ b∈actsB.data.toList,b.toNat<128:=by decide +kernel

theorem iter_below (w:World) (s:ByteArray) (i:Nat):Below w.heap.size w (w.iter s i):=(Below.refl _ w).alloc (Nat.le_refl _) _

theorem IndexRune_bad (w:World) :
  Calls Tryz.prog 137 #[.string actsB,.int .i32 65533] w fun e w'=>e=.returned (.int .i64 (-1))/\Below w.heap.size w w':=by
 have hsz:actsB.size=7:=rfl
 have Hlow:Hid (∀ i (h:i<actsB.size),(actsB[i]'h).toNat<128):=fun i h=>acts_low _ (Array.getElem_mem_toList (xs:=actsB.data) h)
 generalize actsB=s at *
 go_enter Tryz.func137,Tryz.ntmps137
 go_wp2_with fail
 go_loopg [5,6] 7 (fun g _ _ wx=>∃ i:Nat,i+g=7/\wx=w.iter s i)
 case atStart=>exact ⟨0,by omega,rfl⟩
 case round =>
  obtain ⟨i,hig,rfl⟩:=hrel
  cases gk with
  | zero =>
   have hnx:=fun ty=>run_next_end (P:=Tryz.prog) w s i ty (by omega)
   go_wp2
   go_ret
   exact ⟨rfl,iter_below _ _ _⟩
  | succ g =>
   have hi:i<s.size:=by omega
   have hx:=Hlow.out i hi
   have hnx:=fun ty=>run_next_ascii (P:=Tryz.prog) w s i ty hi hx
   generalize (s[i]'hi)=x at *
   have hne:((x.toNat:Int) == 65533)=false:=beq_eq_false_iff_ne.2 (by omega)
   go_wp2
   go_roundg g
   case measure=>omega
   case rel=>exact ⟨i+1,by omega,rfl⟩

theorem indexByte_none (c:UInt8):∀ l:Thk.Bs,(∀ b∈l,b≠c)->Lib.indexByte l c = -1:=by
 intro l
 induction l with
 | nil=>intro _;rfl
 | cons x l ih =>
  intro h
  have h1:(x == c)=false:=by simpa using h x (by simp)
  have h2:=ih (fun b hb=>h b (by simp[hb]))
  rw[ix_cons,h1,h2];(first | done | rfl)

theorem inBlock_ret (id:Nat) (Q:Exit->Act->World->Prop) (a:Act) (w:World):Exit.inBlock id Q .ret a w=Q .ret a w:=rfl
theorem then_ret (K:Act->World->Prop) (Q:Exit->Act->World->Prop) (a:Act) (w:World):Exit.then K Q .ret a w=Q .ret a w:=rfl

def Qb (s:ByteArray) (c:UInt8):Prop:=∀ i j wx,Calls Tryz.prog 81 #[.string (s.extract i j),.int .u8 (c.toNat:Int)] wx fun e w'=>e=.returned (.int .i64 (-1))/\w'=wx

theorem IndexRune_high (r:Int) (w:World) (h1:128<=r) (h2:r<=2147483647) :
  Calls Tryz.prog 137 #[.string actsB,.int .i32 r] w fun e w'=>e=.returned (.int .i64 (-1))/\Below w.heap.size w w':=by
 by_cases hbad:r=65533
 ·subst hbad;exact IndexRune_bad w
 have hne:(r == 65533)=false:=beq_eq_false_iff_ne.2 hbad
 have n128:¬r<128:=by omega
 cases hv:Lib.validRune r
 ·have Hv:Hid (Lib.validRune r=false):=hv
  clear hv
  go_enter Tryz.func137,Tryz.ntmps137
  go_wp2_with (go_at_call 193;refine (Tryz.utf8_ValidRune r _).mono ?_;rintro e w1 ⟨rfl,rfl⟩;rw[Hv.out])
  go_ret
  exact ⟨rfl,Below.refl _ _⟩
 ·have Hv:Hid (Lib.validRune r=true):=hv
  have hv2:Utf8.valid r=true:=by unfold Lib.validRune at hv;unfold Utf8.valid;simp at hv ⊢;omega
  obtain ⟨e1,e2,e3⟩:=encode_facts r hv2 h1
  clear hv hv2
  obtain ⟨n,hn⟩:∃ n,(Utf8.encode r).size=n+1:=⟨(Utf8.encode r).size-1,by omega⟩
  have hsz:actsB.size=7:=rfl
  have Hlow:Hid (∀ i (h:i<actsB.size),(actsB[i]'h).toNat<128):=fun i h=>acts_low _ (Array.getElem_mem_toList (xs:=actsB.data) h)
  generalize actsB=s at *
  have hcv:∀ wx,(convert 21 9 (.int .i32 r)).run Tryz.prog wx=.ok (.string (Utf8.encode r)) wx:=fun wx=>run_convert_int_string wx 21 9 .i32 r (by rw[Tryz.underlying21];rfl) Tryz.underlying9
  generalize Utf8.encode r=rs at *
  go_enter Tryz.func137,Tryz.ntmps137
  go_wp2_with (go_at_call 193;refine (Tryz.utf8_ValidRune r _).mono ?_;rintro e w1 ⟨rfl,rfl⟩;rw[Hv.out])
  go_step3
  go_wp2_with fail
  have hns:n<s.size:=by omega
  have hnr:n<rs.size:=by omega
  have hx:=Hlow.out n hns
  have hy:128<=(rs[n]'hnr).toNat:=by
   have:=e3 (by omega)
   have e:rs.size-1=n:=by omega
   simp only[e] at this;exact this
  have hneq:(((s[n]'hns).toNat:Int) != ((rs[n]'hnr).toNat:Int))=true:=by simp;omega
  have Hc:Hid (∀ i j,Lib.indexByte (s.extract i j).data.toList (rs[n]'hnr) = -1):=fun i j=>indexByte_none _ _ (fun b hb=>by
   intro he
   have h1:=mem_extract hb
   obtain ⟨k,hk,hk2⟩:=List.getElem_of_mem h1
   have h2:=Hlow.out k (by simpa using hk)
   have h3:s[k]'(by simpa using hk)=b:=hk2
   rw[h3,he] at h2;omega)
  have hback:(((rs[n]'hnr).toNat:Int)).toNat.toUInt8=rs[n]'hnr:=by simp
  have Hc2:Qb s (rs[n]'hnr):=fun i j wx=>by
   refine (Tryz.strings_IndexByte _ _ _).mono ?_
   rintro e w2 ⟨rfl,rfl⟩
   rw[hback,Hc.out]
   exact ⟨rfl,rfl⟩
  have hwr:IntKind.i64.wrap ((n:Int)+1)=(n:Int)+1:=wrap_small _ (by omega) (by omega)
  have hle:(n:Int)+1<=7:=by omega
  have hle0:(0:Int)<=(n:Int)+1:=by omega
  clear e1 e2 e3 hcv hn
  go_loopg [9,10,11,12] 0 (fun g v9 v10 v11 v12 wx=>v9=.int .i64 (n:Int)/\v10=.int .i64 0/\wx=w1)
  case atStart=>exact ⟨rfl,rfl,rfl⟩
  case round =>
   obtain ⟨rfl,rfl,rfl⟩:=hrel
   go_wp2_with fail
   go_step3
   go_wp2_with fail
   go_quiet (fail)
   go_wp2_with fail
   go_quiet (first | (go_at_call 81;exact Calls.mono (Hc2 _ _ _) (fun _ _ h=>⟨h.1,_,h.2⟩)))
   go_wp2
   rw[Exit.noGoto_ret,inBlock_ret,then_ret,inBlock_ret,then_ret,Exit.noGoto_ret,inBlock_ret]
   go_ret
   exact ⟨rfl,below_drewN (Below.refl _ _) _⟩

theorem decode_span (s:ByteArray) (i:Nat) (h:i<s.size) (ha:128<=(s[i]'h).toNat):∀ j,j<(Utf8.decode s i).2->∃ hj:i+j<s.size,128<=(s[i+j]'hj).toNat:=by
 have hg:∀ k (hk:i+k<s.size),(s.get! (i+k)).toNat / 64=2->128<=(s[i+k]'hk).toNat:=fun k hk h2=>by
  have e:s.get! (i+k)=s[i+k]'hk:=by simp[ByteArray.get!,getElem!_pos,hk];(first | done | rfl)
  rw[e] at h2;omega
 have h0:∃ hj:i+0<s.size,128<=(s[i+0]'hj).toNat:=⟨h,ha⟩
 have hn:¬(s[i]'h).toNat<128:=by omega
 intro j hj
 have hc:∀ k,(decide (i+k<s.size) && (s.get! (i+k)).toNat / 64 == 2)=true->∃ hj:i+k<s.size,128<=(s[i+k]'hj).toNat:=fun k hk=>by
  simp only[Bool.and_eq_true,decide_eq_true_eq,beq_iff_eq] at hk
  exact ⟨hk.1,hg k hk.1 hk.2⟩
 simp only[Utf8.decode,get_at s i h,hn,if_false] at hj
 split at hj
 ·rename_i hx
  simp only[Bool.and_eq_true] at hx
  have c1:=hc 1 (by simpa using hx.2)
  split at hj <;> (simp only at hj;rcases j with _ | _ | j;exact h0;exact c1;omega)
 ·split at hj
  ·rename_i hx
   simp only[Bool.and_eq_true] at hx
   have c1:=hc 1 (by simpa using hx.1.2)
   have c2:=hc 2 (by simpa using hx.2)
   split at hj <;> (simp only at hj;rcases j with _ | _ | _ | j;exact h0;exact c1;exact c2;omega)
  ·split at hj
   ·rename_i hx
    simp only[Bool.and_eq_true] at hx
    have c1:=hc 1 (by simpa using hx.1.1.2)
    have c2:=hc 2 (by simpa using hx.1.2)
    have c3:=hc 3 (by simpa using hx.2)
    split at hj <;> (simp only at hj;rcases j with _ | _ | _ | _ | j;exact h0;exact c1;exact c2;exact c3;omega)
   ·simp only at hj;rcases j with _ | j;exact h0;omega

end Go.Proofs.YtfmmllpjgkgeaaaGreatDoor
namespace Go.Proofs.YtfmmllpjgkgeaaaGreatDoor
open Go.RowKit Go.Lib

theorem acts_not (x:UInt8) (h:128<=x.toNat):(toL actsB).contains x=false:=by
 have:∀ b∈toL actsB,b.toNat<128:=acts_low
 cases hc:(toL actsB).contains x
 ·rfl
 ·have:=this x (by simpa using hc);omega

theorem NoAny_skip {s:ByteArray} {i d:Nat} (h:Lib.NoAny (toL s) (toL actsB) i) (hd:∀ j,j<d->∃ hj:i+j<s.size,128<=(s[i+j]'hj).toNat):Lib.NoAny (toL s) (toL actsB) (i+d):=by
 intro j b hj hb
 by_cases h1:j<i
 ·exact h j b h1 hb
 ·obtain ⟨hj',h2⟩:=hd (j-i) (by omega)
  have e:i+(j-i)=j:=by omega
  simp only[e] at hj' h2
  have e2:(toL s)[j]? = some (s[j]'hj'):=Lib.data_getElem? s j hj'
  rw[e2] at hb
  cases hb
  exact acts_not _ h2

theorem IndexAny_short (s:ByteArray) (w:World) (h8:s.size<=8) :
  Calls Tryz.prog 80 #[.string s,.string actsB] w fun e w'=>e=.returned (.int .i64 (Lib.indexAny (toL s) (toL actsB)))/\Below w.heap.size w w':=by
 have hsz:actsB.size=7:=rfl
 have hemp:actsB.toList.isEmpty=false:=by rw[toList_eq];(first | done | rfl)
 have h8z:decide ((8:Int)<(s.size:Int))=false:=decide_eq_false (by omega)
 have Hr:Hid (∀ (r:Int) (wx:World),128<=r->r<=2147483647->Calls Tryz.prog 137 #[.string actsB,.int .i32 r] wx fun e w'=>e=.returned (.int .i64 (-1))/\Below wx.heap.size wx w'):=fun r wx h1 h2=>IndexRune_high r wx h1 h2
 have Hs:Hid (∀ {i d:Nat},Lib.NoAny (toL s) (toL actsB) i->(∀ j,j<d->∃ hj:i+j<s.size,128<=(s[i+j]'hj).toNat)->Lib.NoAny (toL s) (toL actsB) (i+d)):=fun h hd=>NoAny_skip h hd
 generalize actsB=ch at *
 go_enter Tryz.func80,Tryz.ntmps80
 go_wp2_with (go_at_call 138;refine (Tryz.strings_shouldUseASCIISet _ _).mono ?_;rintro e w' ⟨rfl,hw⟩;rw[hw,h8z])
 go_loopg [9,10] s.size (fun g _ _ wx=>∃ i:Nat,i+g=s.size/\wx.heap[w.heap.size]? = some (.stringIter s i)/\Below w.heap.size w wx/\Lib.NoAny (toL s) (toL ch) i)
 case atStart=>exact ⟨0,by omega,World.iter_heap _ _ _,iter_below _ _ _,Lib.NoAny.zero _ _⟩
 case round =>
  obtain ⟨i,hig,hit,hbl,hno⟩:=hrel
  have HN:Hid (Lib.NoAny (toL s) (toL ch) i):=hno
  have HB:Hid (Below w.heap.size w wr):=hbl
  have Hit:Hid (wr.heap[w.heap.size]? = some (.stringIter s i)):=hit
  clear hno hbl
  by_cases hi:i<s.size
  ·by_cases hx:(s[i]'hi).toNat<128
   ·have hnx:=fun ty=>run_next_ascii_at (P:=Tryz.prog) wr w.heap.size s i ty hit hi hx
    have Hx:Hid ((toL s)[i]? = some (s[i]'hi)):=Lib.data_getElem? s i hi
    clear hit
    generalize (s[i]'hi)=x at *
    have hcon:(toL ch).contains x=decide (0<=Lib.indexByte ch.data.toList x):=Lib.contains_iff_indexByte ch.data.toList x
    have hback:((x.toNat:Int)).toNat.toUInt8=x:=by simp
    have HW:Hid ((wr.iterAt w.heap.size s (i+1)).heap[w.heap.size]? = some (.stringIter s (i+1))/\Below w.heap.size w (wr.iterAt w.heap.size s (i+1))):=⟨iterAt_heap _ _ _ _ _ Hit.out,below_iterAt HB.out (Nat.le_refl _) _ _⟩
    cases hin:(toL ch).contains x
    ·rw[hin] at hcon
     have hlt:¬((0:Int)<=Lib.indexByte ch.data.toList x):=of_decide_eq_false hcon.symm
     clear hcon
     go_wp2_with (go_at_call 137;refine (Tryz.strings_IndexRune_ascii _ _ _ (by omega) (by omega)).mono ?_;rintro e w' ⟨rfl,hw⟩;rw[hw,hback])
     go_roundg (s.size-(i+1))
     case measure=>omega
     case rel=>exact ⟨i+1,by omega,HW.out.1,HW.out.2,HN.out.succ Hx.out hin⟩
    ·rw[hin] at hcon
     have hge:(0:Int)<=Lib.indexByte ch.data.toList x:=of_decide_eq_true hcon.symm
     clear hcon
     go_wp2_with (go_at_call 137;refine (Tryz.strings_IndexRune_ascii _ _ _ (by omega) (by omega)).mono ?_;rintro e w' ⟨rfl,hw⟩;rw[hw,hback])
     go_ret
     exact ⟨by rw[Lib.indexAny_hit HN.out Hx.out hin];rfl,HW.out.2⟩
   ·have hnx:=fun ty=>run_next_any_at (P:=Tryz.prog) wr w.heap.size s i ty hit hi
    have hhi:=decode_high s i hi (by omega)
    have hle:=decode_le s i
    have Hsp:Hid (_):=decode_span s i hi (by omega)
    clear hit
    have Hd:Hid (i+(Utf8.decode s i).2<=s.size):=by
     obtain ⟨hj,_⟩:=Hsp.out ((Utf8.decode s i).2-1) (by omega)
     unfold Hid;omega
    generalize Utf8.decode s i=rd at *
    obtain ⟨r,d⟩:=rd
    simp only at *
    have hb1:Hid (Below w.heap.size w (wr.iterAt w.heap.size s (i+d))):=below_iterAt HB.out (Nat.le_refl _) _ _
    have hi1:Hid ((wr.iterAt w.heap.size s (i+d)).heap[w.heap.size]? = some (.stringIter s (i+d))):=iterAt_heap _ _ _ _ _ Hit.out
    generalize wr.iterAt w.heap.size s (i+d)=w2 at *
    go_wp2_with (go_at_call 137;refine (Hr.out _ _ (by omega) (by omega)).mono ?_;rintro e w' ⟨rfl,hb⟩)
    go_roundg (s.size-(i+d))
    case measure=>omega
    case rel =>
     have hlt2:w.heap.size<w2.heap.size:=(Array.getElem?_eq_some_iff.1 hi1.out).1
     refine ⟨i+d, ?_, ?_, ?_,Hs.out HN.out Hsp.out⟩
     ·have:=Hd.out;omega
     ·exact (hb.block _ hlt2).trans hi1.out
     ·exact hb1.out.trans (hb.mono (by omega))
  ·have he:i=s.size:=by omega
   have hnx:=fun ty=>run_next_end_at (P:=Tryz.prog) wr w.heap.size s i ty hit hi
   clear hit
   go_wp2
   go_ret
   exact ⟨by rw[Lib.indexAny_none (by rw[toL_length,<- he];exact HN.out)];rfl,HB.out⟩

theorem IndexAny_any (s:ByteArray) (w:World) (hs:s.size<=1048576) :
  Calls Tryz.prog 80 #[.string s,.string actsB] w fun e w'=>e=.returned (.int .i64 (Lib.indexAny (toL s) (toL actsB)))/\Below w.heap.size w w':=by
 by_cases h8:s.size<=8
 ·exact IndexAny_short s w h8
 ·have hsz:actsB.size=7:=rfl
  have h116:(Tryz.prog.info? 193).map (fun i=>(i.zero,i.size))=some (some (.agg (Array.replicate 256 (.bool false))),256):=by kernel_rfl
  refine Calls.mono (Tryz.strings_IndexAny_long ?_ s actsB w (by omega) (by omega) (by omega) (by omega) ?_) ?_
  ·exact (zero_of_info h116).1
  ·intro j b hj
   exact acts_low b (List.mem_of_getElem? hj)
  ·rintro e w' ⟨rfl,rfl⟩
   exact ⟨rfl,((Below.refl _ w).alloc (Nat.le_refl _) _).alloc (by simp) _⟩

theorem isAct_acts (c:UInt8):Thk.isAct c=(toL actsB).contains c:=by
 have e:toL actsB=[43,45,94,95,61,62,33]:=rfl
 rw[e,Bool.eq_iff_iff]
 simp only[Thk.isAct,List.contains_cons,List.contains_nil,Bool.or_eq_true,beq_iff_eq,<- UInt8.toNat_inj,Bool.or_false]
 simp
 omega

theorem indexAny_acts (l:Thk.Bs):(l.findIdx Thk.isAct=l.length/\Lib.indexAny l (toL actsB) = -1)\/(∃ h:l.findIdx Thk.isAct<l.length,Lib.indexAny l (toL actsB)=(l.findIdx Thk.isAct:Int)/\Thk.isAct (l[l.findIdx Thk.isAct]'h)=true):=by
 rcases Nat.lt_or_ge (l.findIdx Thk.isAct) l.length with h | h
 ·right
  have ha:Thk.isAct (l[l.findIdx Thk.isAct]'h)=true:=List.findIdx_getElem (w:=h)
  refine ⟨h, ?_,ha⟩
  refine Lib.indexAny_hit (x:=l[l.findIdx Thk.isAct]'h) ?_ (List.getElem?_eq_getElem h) (by rw[<- isAct_acts];exact ha)
  intro j b hj hb
  have hjl:j<l.length:=by omega
  rw[List.getElem?_eq_getElem hjl] at hb
  cases hb
  rw[<- isAct_acts]
  exact List.not_of_lt_findIdx hj
 ·left
  have he:l.findIdx Thk.isAct=l.length:=Nat.le_antisymm List.findIdx_le_length h
  refine ⟨he,Lib.indexAny_none ?_⟩
  intro j b hj hb
  rw[List.getElem?_eq_getElem hj] at hb
  cases hb
  rw[<- isAct_acts]
  exact List.not_of_lt_findIdx (he ▸ hj)

def chV (c:Thk.Ch):Value:=.agg #[.string ⟨c.path.toArray⟩,.int .u8 (c.act.toNat:Int),.string (keptVal c.act ⟨c.val.toArray⟩),.int .i64 c.n]
def noCh:Value:=.agg #[.string ⟨#[]⟩,.int .u8 0,.string ⟨#[]⟩,.int .i64 0]
def readV:Nat ⊕ Thk.Ch->Value
 | .inl m=>.tuple #[noCh,.int .i64 (m:Int)]
 | .inr c=>.tuple #[chV c,.int .i64 0]
theorem mk_toL (s:ByteArray):(⟨(toL s).toArray⟩:ByteArray)=s:=by
 show (⟨s.data.toList.toArray⟩:ByteArray)=s
 rw[Array.toArray_toList]
end Go.Proofs.YtfmmllpjgkgeaaaGreatDoor
namespace Go.Proofs.YtfmmllpjgkgeaaaGreatDoor
open Go.RowKit

theorem ChAt.store {w:World} {b:Nat} {p:ByteArray} {a:UInt8} {v:ByteArray} {n:Int} (h:ChAt w b p a v n) (p':ByteArray) (a':UInt8) (v':ByteArray) (n':Int) :
  ChAt ((((w.setCell ⟨b,0,none⟩ (.string p')).setCell ⟨b,1,none⟩ (.int .u8 (a'.toNat:Int))).setCell ⟨b,2,none⟩ (.string v')).setCell ⟨b,3,none⟩ (.int .i64 n')) b p' a' v' n' :=
 (((h.set0 p').set1 a').set2 v').set3 n'
theorem ChAt.store0 {w:World} {b:Nat} {p:ByteArray} {a:UInt8} {v:ByteArray} {n:Int} (h:ChAt w b p a v n) :
  ChAt ((((w.setCell ⟨b,0,none⟩ (.string ⟨#[]⟩)).setCell ⟨b,1,none⟩ (.int .u8 0)).setCell ⟨b,2,none⟩ (.string ⟨#[]⟩)).setCell ⟨b,3,none⟩ (.int .i64 0)) b ⟨#[]⟩ 0 ⟨#[]⟩ 0 :=
 h.store ⟨#[]⟩ 0 ⟨#[]⟩ 0
theorem below_store {B:Nat} {a w:World} (h:Below B a w) {b:Nat} (hb:B<=b) (x y z u:Value) :
  Below B a ((((w.setCell ⟨b,0,none⟩ x).setCell ⟨b,1,none⟩ y).setCell ⟨b,2,none⟩ z).setCell ⟨b,3,none⟩ u) :=
 (((h.setCell (p:=⟨b,0,none⟩) hb x).setCell (p:=⟨b,1,none⟩) hb y).setCell (p:=⟨b,2,none⟩) hb z).setCell (p:=⟨b,3,none⟩) hb u

theorem toL_take (s:ByteArray) (k:Nat):toL (s.extract 0 k)=(toL s).take k:=by
 show (s.extract 0 k).data.toList=s.data.toList.take k
 rw[ByteArray.data_extract,Array.toList_extract];simp
theorem toL_drop (s:ByteArray) (k:Nat):toL (s.extract k s.size)=(toL s).drop k:=by
 show (s.extract k s.size).data.toList=s.data.toList.drop k
 rw[ByteArray.data_extract,Array.toList_extract]
 show (s.data.toList.drop k).take (s.size-k)=_
 rw[List.take_of_length_le]
 simp

theorem actionsOf_val (k:UInt8) (w:World):Calls Tryz.prog 82 #[.int .u8 (k.toNat:Int)] w fun e w'=>e=.returned (.string ⟨(actsOf k).toArray⟩)/\w'=w:=by
 refine (actionsOf_any k w).mono ?_
 rintro e w' ⟨t,rfl,ht,rfl⟩
 exact ⟨by rw[<- ht,mk_toL],rfl⟩

theorem fits_acts (k a:UInt8):Thk.fits k a=(actsOf k).contains a:=by
 unfold Thk.fits actsOf
 have hc:∀ n:Nat,((k.toNat:Int)=(n:Int))↔k.toNat=n:=fun n=>by omega
 simp only[show ((115:Int))=((115:Nat):Int) from rfl,show ((102:Int))=((102:Nat):Int) from rfl,show ((114:Int))=((114:Nat):Int) from rfl,show ((99:Int))=((99:Nat):Int) from rfl,hc]
 repeat' split
 all_goals
  rw[Bool.eq_iff_iff]
  simp only[List.contains_cons,List.contains_nil,Bool.or_eq_true,beq_iff_eq,<- UInt8.toNat_inj,Bool.or_false]
  simp <;> omega

theorem operand_inl {p:Thk.Bs} {a:UInt8} {v:Thk.Bs} {m:Nat} (h:Thk.operand p a v=.inl m):m=5:=by
 unfold Thk.operand at h
 split at h
 ·split at h <;> simp_all
 ·split at h
  ·split at h <;> simp_all
  ·split at h <;> simp_all
theorem operand_inr {p:Thk.Bs} {a:UInt8} {v:Thk.Bs} {c:Thk.Ch} (h:Thk.operand p a v=.inr c):c=⟨p,a,v,c.n⟩:=by
 unfold Thk.operand at h
 split at h
 ·split at h
  ·simp only[Sum.inr.injEq] at h;subst h;rfl
  ·cases h
 ·split at h
  ·split at h
   ·simp only[Sum.inr.injEq] at h;subst h;rfl
   ·cases h
  ·split at h
   ·simp only[Sum.inr.injEq] at h;subst h;rfl
   ·cases h
theorem chg_below {B b:Nat} {a c:World} (h:Chg (fun x=>x=b) a c) (hb:B<=b) (hs:B<=a.heap.size):Below B a c :=
 ⟨h.os,h.tape,h.output,h.size,fun k hk=>h.block k (by omega) (by omega)⟩
theorem keptVal_size (a:UInt8) (t:ByteArray):(keptVal a t).size<=t.size:=by
 unfold keptVal;split
 ·exact Nat.le_refl _
 ·exact Nat.zero_le _

theorem ProgRead_any (s:ByteArray) (w:World) (hs:s.size<=1048576) (hG:Glob w) :
  Calls Tryz.prog 47 #[.string s] w fun e w'=>e=.returned (readV (Thk.read (toL s)))/\Below w.heap.size w w':=by
 have Hi:Hid (_):=fun wx=>IndexAny_any s wx hs
 have Hz:Hid (ChAt (w.alloc (.cells #[.string ⟨#[]⟩,.int .u8 0,.string ⟨#[]⟩,.int .i64 0] 86)) w.heap.size ⟨#[]⟩ 0 ⟨#[]⟩ 0):=chAt_alloc w ⟨#[]⟩ 0 ⟨#[]⟩ 0
 have HzB:Hid (∀ o,Below w.heap.size w (w.alloc o)):=fun o=>(Below.refl _ w).alloc (Nat.le_refl _) o
 have HG:Hid (Glob w):=hG
 clear hG
 rcases indexAny_acts (toL s) with ⟨hk,hx⟩ | ⟨hk,hx,ha⟩
 ·have Hr:Hid (Thk.read (toL s)=.inl 4):=by unfold Hid Thk.read;rw[if_pos hk]
  have Hx:Hid (Lib.indexAny (toL s) (toL actsB) = -1):=hx
  clear hx hk
  go_enter Tryz.func47,Tryz.ntmps47
  go_wp2_with fail
  refine Calls.mono (Hi.out _) ?_
  rintro e w1 ⟨rfl,hb1⟩
  rw[Hx.out]
  have a1:=Hz.out.below hb1
  have b1:Hid (Below w.heap.size w w1):=(HzB.out _).trans (hb1.mono (by simp))
  clear hb1
  have x0:=a1.c0
  have x1:=a1.c1
  have x2:=a1.c2
  have x3:=a1.c3
  have xf:=a1.tag.frozen
  have A1:Hid (ChAt w1 w.heap.size ⟨#[]⟩ 0 ⟨#[]⟩ 0):=a1
  clear a1
  go_wp2
  have hF:=A1.out.store0
  have hB:=below_store b1.out (Nat.le_refl w.heap.size) (.string ⟨#[]⟩) (.int .u8 0) (.string ⟨#[]⟩) (.int .i64 0)
  generalize ((((w1.setCell ⟨w.heap.size,0,none⟩ (.string ⟨#[]⟩)).setCell ⟨w.heap.size,1,none⟩ (.int .u8 0)).setCell ⟨w.heap.size,2,none⟩ (.string ⟨#[]⟩)).setCell ⟨w.heap.size,3,none⟩ (.int .i64 0))=WF at *
  exact bodyPost_ret (v:=.tuple #[noCh,.int .i64 4]) (by simp[results,Tryz.results47,go_sem,hF.c0,hF.c1,hF.c2,hF.c3,noCh]) rfl ⟨by rw[Hr.out];rfl,hB⟩
 ·have Hr:Hid (Thk.read (toL s)=Thk.readAt (toL s) ((toL s).findIdx Thk.isAct)):=by unfold Hid Thk.read;rw[if_neg (by omega)]
  have Hx:Hid (Lib.indexAny (toL s) (toL actsB)=(((toL s).findIdx Thk.isAct:Nat):Int)):=hx
  clear hx ha
  generalize (toL s).findIdx Thk.isAct=k at *
  rw[toL_length] at hk
  have hk0:(0:Int)<=(k:Int):=by omega
  have hks:(k:Int)<=(s.size:Int):=by omega
  have hkn:¬((k:Int)<0):=by omega
  obtain ⟨p,hp⟩:∃ p,p=s.extract 0 k:=⟨_,rfl⟩
  have Hp:Hid (toL p=(toL s).take k):=by unfold Hid;rw[hp,toL_take]
  have hps:p.size<=1048576:=by
   have:p.size=(toL p).length:=(toL_length p).symm
   rw[this,Hp.out,List.length_take,toL_length];omega
  go_enter Tryz.func47,Tryz.ntmps47
  go_wp2_with fail
  refine Calls.mono (Hi.out _) ?_
  rintro e w1 ⟨rfl,hb1⟩
  rw[Hx.out]
  have b1:Hid (Below w.heap.size w w1):=(HzB.out _).trans (hb1.mono (by simp))
  have a1:Hid (ChAt w1 w.heap.size ⟨#[]⟩ 0 ⟨#[]⟩ 0):=Hz.out.below hb1
  clear hb1
  go_wp2_with fail
  rw[<- hp]
  clear hp
  obtain ⟨m,hm⟩:=(HG.out.mono b1.out).len
  have Hc2:Hid (_):=ReadPath_any p m w1 hps hm
  clear hm
  refine Calls.mono Hc2.out ?_
  rintro e w2 ⟨rfl,hb2⟩
  have b2:Hid (Below w.heap.size w w2):=b1.out.trans (hb2.mono b1.out.size)
  have a2:Hid (ChAt w2 w.heap.size ⟨#[]⟩ 0 ⟨#[]⟩ 0):=a1.out.below hb2
  clear hb2 Hc2
  cases hpa:Thk.path (toL p)
  ·have Hq:Hid (Thk.readAt (toL s) k=.inl 4):=by unfold Hid Thk.readAt;rw[if_pos (by rw[<- Hp.out];exact hpa)]
   have x0:=a2.out.c0
   have x1:=a2.out.c1
   have x2:=a2.out.c2
   have x3:=a2.out.c3
   have xf:=a2.out.tag.frozen
   go_wp2
   have hF:=a2.out.store0
   have hB:=below_store b2.out (Nat.le_refl w.heap.size) (.string ⟨#[]⟩) (.int .u8 0) (.string ⟨#[]⟩) (.int .i64 0)
   generalize ((((w2.setCell ⟨w.heap.size,0,none⟩ (.string ⟨#[]⟩)).setCell ⟨w.heap.size,1,none⟩ (.int .u8 0)).setCell ⟨w.heap.size,2,none⟩ (.string ⟨#[]⟩)).setCell ⟨w.heap.size,3,none⟩ (.int .i64 0))=WF at *
   exact bodyPost_ret (v:=.tuple #[noCh,.int .i64 4]) (by simp[results,Tryz.results47,go_sem,hF.c0,hF.c1,hF.c2,hF.c3,noCh]) rfl ⟨by rw[Hr.out,Hq.out];rfl,hB⟩
  ·have hok:okStr true p=p:=rfl
   rw[hok]
   have Hpa:Hid (Thk.path (toL p)=true):=hpa
   clear hok hpa
   have hkl:k<s.size:=hk
   have hx1:((s[k]'hkl).toNat:Int).toNat.toUInt8=s[k]'hkl:=by simp
   obtain ⟨ix,hix⟩:∃ ix,ix=Lib.indexByte (actsOf (Thk.kindOf (toL p))) (s[k]'hkl):=⟨_,rfl⟩
   have Hk1:Hid (∀ wx,Calls Tryz.prog 83 #[.string p] wx fun e w'=>e=.returned (.int .u8 ((Thk.kindOf (toL p)).toNat:Int))/\w'=wx):=fun wx=>Kind_any p wx hps Hpa.out
   have Hk2:Hid (∀ wx,Calls Tryz.prog 82 #[.int .u8 ((Thk.kindOf (toL p)).toNat:Int)] wx fun e w'=>e=.returned (.string ⟨(actsOf (Thk.kindOf (toL p))).toArray⟩)/\w'=wx):=fun wx=>actionsOf_val _ wx
   have Hk3:Hid (∀ wx,Calls Tryz.prog 81 #[.string ⟨(actsOf (Thk.kindOf (toL p))).toArray⟩,.int .u8 ((s[k]'hkl).toNat:Int)] wx fun e w'=>e=.returned (.int .i64 ix)/\w'=wx):=fun wx=>by
    refine (Tryz.strings_IndexByte _ _ _).mono ?_
    rintro e w' ⟨rfl,rfl⟩
    rw[hx1,hix]
    exact ⟨rfl,rfl⟩
   have Hfit:Hid (Thk.fits (Thk.kindOf (toL p)) (s[k]'hkl)=decide (0<=ix)):=by
    unfold Hid;rw[fits_acts,hix];exact Lib.contains_iff_indexByte _ _
   clear hix
   go_wp2_with fail
   go_quiet (first | (go_at_call 83;exact Calls.mono (Hk1.out _) (fun _ _ h=>⟨h.1,_,h.2⟩)) | (go_at_call 82;exact Calls.mono (Hk2.out _) (fun _ _ h=>⟨h.1,_,h.2⟩)) | (go_at_call 81;exact Calls.mono (Hk3.out _) (fun _ _ h=>⟨h.1,_,h.2⟩)))
   have b3:Hid (Below w.heap.size w (w2.drewN nq)):=below_drewN b2.out nq
   have a3:Hid (ChAt (w2.drewN nq) w.heap.size ⟨#[]⟩ 0 ⟨#[]⟩ 0):=a2.out.below (below_drewN (Below.refl _ _) nq)
   have hgd:Hid ((toL s).getD k 0=s[k]'hkl):=by
    unfold Hid;rw[List.getD_eq_getElem?_getD,show (toL s)[k]? = some (s[k]'hkl) from Lib.data_getElem? s k hkl];(first | done | rfl)
   have Hpf:Hid (¬Thk.path ((toL s).take k)=false):=by unfold Hid;rw[<- Hp.out,Hpa.out];simp
   generalize w2.drewN nq=w3 at *
   clear a1 a2 b1 b2 Hk1 Hk2 Hk3
   by_cases hlt:ix<0
   ·have Hq:Hid (Thk.readAt (toL s) k=.inl 6):=by
     unfold Hid Thk.readAt
     rw[if_neg Hpf.out,hgd.out,<- Hp.out,Hfit.out,if_pos (by simp;omega)]
    have x0:=a3.out.c0
    have x1:=a3.out.c1
    have x2:=a3.out.c2
    have x3:=a3.out.c3
    have xf:=a3.out.tag.frozen
    go_wp2
    have hF:=a3.out.store0
    have hB:=below_store b3.out (Nat.le_refl w.heap.size) (.string ⟨#[]⟩) (.int .u8 0) (.string ⟨#[]⟩) (.int .i64 0)
    generalize ((((w3.setCell ⟨w.heap.size,0,none⟩ (.string ⟨#[]⟩)).setCell ⟨w.heap.size,1,none⟩ (.int .u8 0)).setCell ⟨w.heap.size,2,none⟩ (.string ⟨#[]⟩)).setCell ⟨w.heap.size,3,none⟩ (.int .i64 0))=WF at *
    exact bodyPost_ret (v:=.tuple #[noCh,.int .i64 6]) (by simp[results,Tryz.results47,go_sem,hF.c0,hF.c1,hF.c2,hF.c3,noCh]) rfl ⟨by rw[Hr.out,Hq.out];rfl,hB⟩
   ·have Hq:Hid (Thk.readAt (toL s) k=Thk.operand (toL p) (s[k]'hkl) ((toL s).drop (k+1))):=by
     unfold Hid Thk.readAt
     rw[if_neg Hpf.out,hgd.out,<- Hp.out,Hfit.out,if_neg (by simp;omega)]
    have hwr:IntKind.i64.wrap ((k:Int)+1)=(k:Int)+1:=wrap_small _ (by omega) (by omega)
    have hle:(k:Int)+1<=(s.size:Int):=by omega
    have hle0:(0:Int)<=(k:Int)+1:=by omega
    go_wp2_with fail
    obtain ⟨t,ht⟩:∃ t,t=s.extract (k+1) s.size:=⟨_,rfl⟩
    have Ht:Hid (toL t=(toL s).drop (k+1)):=by unfold Hid;rw[ht,toL_drop]
    have hts:t.size<=1048576:=by
     have:t.size=(toL t).length:=(toL_length t).symm
     rw[this,Ht.out,List.length_drop,toL_length];omega
    rw[<- ht]
    clear ht
    rw[<- Ht.out] at Hq
    clear hgd Hfit hx1
    generalize (s[k]'hkl)=a at *
    have hB3:Hid (w.heap.size<w3.heap.size):=a3.out.tag.lt
    have bz:Hid (Below w.heap.size w (w3.alloc (.cells #[.string p,.int .u8 (a.toNat:Int),.string ⟨#[]⟩,.int .i64 0] 86))):=b3.out.alloc (Nat.le_of_lt hB3.out) _
    have az:Hid (ChAt (w3.alloc (.cells #[.string p,.int .u8 (a.toNat:Int),.string ⟨#[]⟩,.int .i64 0] 86)) w.heap.size ⟨#[]⟩ 0 ⟨#[]⟩ 0):=a3.out.below ((Below.refl _ _).alloc (Nat.le_refl _) _)
    refine Calls.mono (readOperand_any w3.heap.size p a t _ hts ((HG.out.mono bz.out)) (chAt_alloc w3 p a ⟨#[]⟩ 0)) ?_
    rintro e w4 ⟨rfl,hc,hchg⟩
    have b4:Hid (Below w.heap.size w w4):=bz.out.trans (chg_below hchg (Nat.le_of_lt hB3.out) bz.out.size)
    have a4:Hid (ChAt w4 w.heap.size ⟨#[]⟩ 0 ⟨#[]⟩ 0):=az.out.chg hchg (Nat.ne_of_lt hB3.out)
    clear hchg
    have x0:=a4.out.c0
    have x1:=a4.out.c1
    have x2:=a4.out.c2
    have x3:=a4.out.c3
    have xf:=a4.out.tag.frozen
    cases hop:Thk.operand (toL p) a (toL t) with
    | inl m =>
     have hm5:=operand_inl hop
     subst hm5
     have Hop:Hid (Thk.operand (toL p) a (toL t)=.inl 5):=hop
     clear hop hc
     have hri:(Sum.inl 5:Nat ⊕ Thk.Ch).isRight=false:=rfl
     rw[hri]
     go_wp2
     have hF:=a4.out.store0
     have hB:=below_store b4.out (Nat.le_refl w.heap.size) (.string ⟨#[]⟩) (.int .u8 0) (.string ⟨#[]⟩) (.int .i64 0)
     generalize ((((w4.setCell ⟨w.heap.size,0,none⟩ (.string ⟨#[]⟩)).setCell ⟨w.heap.size,1,none⟩ (.int .u8 0)).setCell ⟨w.heap.size,2,none⟩ (.string ⟨#[]⟩)).setCell ⟨w.heap.size,3,none⟩ (.int .i64 0))=WF at *
     exact bodyPost_ret (v:=.tuple #[noCh,.int .i64 5]) (by simp[results,Tryz.results47,go_sem,hF.c0,hF.c1,hF.c2,hF.c3,noCh]) rfl ⟨by rw[Hr.out,Hq.out,Hop.out];rfl,hB⟩
    | inr c =>
     have hcc:=operand_inr hop
     have Hop:Hid (Thk.operand (toL p) a (toL t)=.inr c):=hop
     have y:=hc c hop
     have hri:(Sum.inr c:Nat ⊕ Thk.Ch).isRight=true:=rfl
     rw[hri]
     clear hop hc hri
     have Hv:Hid (chV c=.agg #[.string p,.int .u8 (a.toNat:Int),.string (keptVal a t),.int .i64 c.n]):=by
      unfold Hid chV
      rw[hcc]
      simp only[mk_toL]
     clear hcc
     have hvs:(keptVal a t).size<=1048576:=Nat.le_trans (keptVal_size a t) hts
     generalize keptVal a t=v at *
     generalize c.n=n at *
     have y0:=y.c0
     have y1:=y.c1
     have y2:=y.c2
     have y3:=y.c3
     clear y
     go_wp2_with fail
     refine Calls.mono (copied_any p a v n w4 hps hvs) ?_
     rintro e w5 ⟨rfl,hb5⟩
     have b5:Hid (Below w.heap.size w w5):=b4.out.trans (hb5.mono b4.out.size)
     have a5:Hid (ChAt w5 w.heap.size ⟨#[]⟩ 0 ⟨#[]⟩ 0):=a4.out.below hb5
     clear hb5 x0 x1 x2 x3 xf y0 y1 y2 y3
     have x0:=a5.out.c0
     have x1:=a5.out.c1
     have x2:=a5.out.c2
     have x3:=a5.out.c3
     have xf:=a5.out.tag.frozen
     go_wp2
     have hF:=a5.out.store p a v n
     have hB:=below_store b5.out (Nat.le_refl w.heap.size) (.string p) (.int .u8 (a.toNat:Int)) (.string v) (.int .i64 n)
     generalize ((((w5.setCell ⟨w.heap.size,0,none⟩ (.string p)).setCell ⟨w.heap.size,1,none⟩ (.int .u8 (a.toNat:Int))).setCell ⟨w.heap.size,2,none⟩ (.string v)).setCell ⟨w.heap.size,3,none⟩ (.int .i64 n))=WF at *
     exact bodyPost_ret (v:=.tuple #[.agg #[.string p,.int .u8 (a.toNat:Int),.string v,.int .i64 n],.int .i64 0]) (by simp[results,Tryz.results47,go_sem,hF.c0,hF.c1,hF.c2,hF.c3]) rfl ⟨by rw[Hr.out,Hq.out,Hop.out];show _=Ending.returned (.tuple #[chV c,.int .i64 0]);rw[Hv.out],hB⟩
end Go.Proofs.YtfmmllpjgkgeaaaGreatDoor
namespace Go.Proofs.YtfmmllpjgkgeaaaGreatDoor
open Go.RowKit Go.Maps Go.ChangeMaps Go.MapKept

theorem MapV.count {P:Program} {k:TypeId} {w:World} {b N:Nat} {m:Value->Option Value} (h:MapV P k w b N m) (K:Keyed P k):∃ l:List Value,l.Nodup/\l.length=N/\∀ key,key∈l↔m key≠none:=by
 obtain ⟨D,h1,h2,h3⟩:=h
 obtain ⟨es,clock,hb,F,hs,rfl⟩:=h1
 refine ⟨es.toList.map (·.key), ?_, ?_,fun key=>⟨fun hk=>?_,fun hk=>?_⟩⟩
 ·rw[List.nodup_iff_pairwise_ne,List.pairwise_map]
  exact ((stamped_iff es clock).1 F.stamped).2.2
 ·rw[<- h2]
  simp only[Maps.size,length_sorted,List.length_map,Array.length_toList]
 ·obtain ⟨x,hx,rfl⟩:=List.mem_map.1 hk
  obtain ⟨y,hy⟩:=F.reads x hx
  have hkey:=WideElems.rd_key hy
  have hh:=(h3.1 _ _ hkey).1
  have:Maps.has (DataW.map ((es.toList.map (WideElems.rg P k idR)).foldr DataW.insert [])) y.1=true :=
   List.any_eq_true.2 ⟨WideElems.rg P k idR x,mem_sorted.2 (List.mem_map.2 ⟨x,hx,rfl⟩),by rw[WideElems.rg_of hy];exact WideAt.sameKey_self (K.key hkey)⟩
  rw[this] at hh
  intro e
  rw[e] at hh
  cases hh
 ·have hs:(m key).isSome=true:=by cases hm:m key with
   | none=>exact absurd hm hk
   | some v=>rfl
  obtain ⟨kl,hkl⟩:=h3.2 key hs
  have hh:=(h3.1 _ _ hkl).1
  rw[hs] at hh
  obtain ⟨p,hp,hpk⟩:=List.any_eq_true.1 hh
  obtain ⟨x,hx,rfl⟩:=List.mem_map.1 (mem_sorted.1 hp)
  obtain ⟨y,hy⟩:=F.reads x hx
  rw[WideElems.rg_of hy] at hpk
  have e:=WideAt.sameKey_eq hpk
  have hkey:=WideElems.rd_key hy
  rw[e] at hkey
  exact List.mem_map.2 ⟨x,hx,K.inj hkey hkl⟩
open Go.WideElems (Fit rd rg pl rd_key rd_val rg_of other_key rd_mk)

variable {P:Program} {k:TypeId} {w:World} {b r N cnt:Nat} {m:Value->Option Value} {left:Value->Prop}

end Go.Proofs.YtfmmllpjgkgeaaaGreatDoor

