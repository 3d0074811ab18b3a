import Derived.Shelf.SlSortCmp.NoneTotal
import Derived.Laws.Runes
import Derived.Laws.RangeAny
import Derived.WalkMore
import Derived.Lib.OthersKept
import Derived.Test.YtfmmllpjgkgeaaaGreatDoorPartM07
import Derived.Test.YtfmmllpjgkgeaaaGreatDoorPartM10
set_option linter.unusedVariables false
set_option linter.unusedSimpArgs false
set_option maxHeartbeats 16000000
set_option maxRecDepth 100000
namespace Go.Proofs.YtfmmllpjgkgeaaaGreatDoor
open Go.Proofs.Tryz Go.RowKit Go.Maps Go.WideMaps Go.Shelf
attribute [local go_sem] Oper.semAt_some
theorem Tryz.infoDot:(prog.info? 134).map (λi=>(i.zero,i.size,i.bytes))=some (some (.agg #[.int .i64 0,.int .i64 0]),2,16):=by kernel_rfl
def aT(ns:List Nat):List Value:=ns.flatMap λn:Nat=>[.int .i64 (who n),.int .i64 (nth n)]
theorem qh(ns:List Nat)(n:Nat):aT (ns++[n])=aT ns++[.int .i64 (who n),.int .i64 (nth n)]:=by simp[aT]
theorem Az(w:World)(gf:Nat)(lb:Array Value)(S:List Nat->Prop)(E:Nat->Prop)(hit:Iter prog gf lb (λn:Nat=>#[Value.agg #[.int .i64 (who n),.int .i64 (nth n)]]) S E w)(eg:∀args w,(callFunc gf args).run prog w=.ok (.enter gf args) w)(hE:∀k,E k->k<w.heap.size)(hS:∀ns,S ns->ns.length<=4000):Calls prog 278 #[.slice none 0 0,.func (.func gf) #[] lb] w λe w'=>∃v ns,e=.returned v/\S ns/\w'.ownsRow w.heap.size 134 2 v ns.length (aT ns)/\Below w.heap.size w w':=by
 obtain⟨i0,hi,hz0,hz1,hz2⟩:=info_parts Tryz.infoDot;refine(callsIn_wide (n:=3)).1 ?_;refine callsIn_of_wp_marks func278 rfl trivial ?_ rfl;simp only[ntmps278,List.size_toArray,List.length_cons,List.length_nil,Nat.reduceAdd,Nat.reduceSub,Array.replicate_succ,Array.replicate_zero,List.push_toArray,List.append_toArray,List.nil_append,List.cons_append];gi_wp2;have hbw:Below w.heap.size w (w.alloc (.cells #[.slice none 0 0] 137)):=(Below.refl _ w).alloc (Nat.le_refl _) _;refine gy (gf:=gf) (lb:=lb) rfl eg hit ⟨hbw.size,λk hk=>hbw.block k (hE k hk)⟩ (λk hk=>Nat.lt_of_lt_of_le (hE k hk) hbw.size) (λ_=>rfl)
  (λT pre W=>Coll w w.heap.size 137 134 2 (aT pre) pre.length T W) (λ_ _ _ _=>False)
  (λT T' pre W W' h hc hT=>h.lH hc hT) (λ_ _ _ _ _ _ h _ _=>h)
  ⟨_,Boxed.new w _ _,World.ownsRow_nil _ _ _ _,λh=>h,λ_ _ h=>h,hbw,λ_ h=>h.elim,Nat.le_refl _⟩ ?round ?done ?stop
 case round =>
  rintro l T pre n W hTl hT⟨v,hC⟩ Fv ⟨ys,hys,hpre⟩;have hlen:pre.length+1<=4000:=by have:=hS ys hys;have:=hpre.length_le;simp at this;omega
  gi_wp2;refine⟨⟨by simp,λk hk=>?_⟩, ?_⟩
  ·exact((Below.refl _ W).alloc (Nat.le_refl _) _).block k (hk.elim (λh=>Nat.lt_of_lt_of_le (Nat.lt_of_lt_of_le (hE k h) hbw.size) (by have:=hC.bx.lt;have:=hC.below.size;simp;omega)) (λh=>(hT k h).2))
  intro W2 hc2 hs2 hE2;have hTs:∀k,T k->k<W2.heap.size:=λk hk=>by rw[hs2];have:=(hT k hk).2;simp;omega
  have hC2:iM w w.heap.size 137 134 2 (aT pre) pre.length T W2 v:=hC.lH ((ay.of_below ((Below.refl _ W).alloc (Nat.le_refl _) _)).trans hc2) (λk hk=>⟨Or.inl hk,hTs k hk⟩);have kd:aA W2 W.heap.size #[.int .i64 (who n),.int .i64 (nth n)] 134:=(aA.new W _ _).aJ hc2 (λhk=>by have:=(hT _ hk).2;omega);have c0:=hC2.bx.cell;have d0:=(kd.cell 0).trans rfl;have d1:=(kd.cell 1).trans rfl;have HC2:Hid (iM w w.heap.size 137 134 2 (aT pre) pre.length T W2 v):=hC2;have hb2:w.heap.size<=W2.heap.size:=hC2.below.size;have hml:Hid (pre.length+1<=maxLen):=by unfold Hid maxLen;omega
  have hmb:Hid ((pre.length+1)*16<=140737488355328):=by unfold Hid;omega
  have Jh:Hid (∀j u,([.int .i64 (who n),.int .i64 (nth n)]:List Value)[j]?=some u->(W2.alloc (.cells #[.int .i64 (who n),.int .i64 (nth n)] 134)).cell? ((⟨W2.heap.size,0,none⟩:Addr).add j)=some u):=λj u hj=>by
   match j,hj with
   | 0,hj=>cases hj;simp[Addr.add]
   | 1,hj=>cases hj;simp[Addr.add]
  clear hC hC2 kd hc2 hE2 hs2;gi_wp2_with (first|(gi_at_builtin;refine wpListIn_append_own_at _ rfl (.tmp 8) (.tmp 10) 137 rfl w.heap.size 134 i0 (.agg #[.int .i64 0,.int .i64 0]) 2 16 underlying137 hi hz0 hz1 hz2 rfl (by decide) v pre.length (aT pre) rfl (HC2.out.row.alloc _) ⟨W2.heap.size,0,none⟩ 1 1 [.int .i64 (who n),.int .i64 (nth n)] rfl rfl Jh.out (by simp[Value.oneCell']) hml.out hmb.out (by simp;omega) ?_;intro v' w1 hown' hg' _ hloc;have happ:=HC2.out.app (E:=E) (by decide) hown' hg' hloc hTs hE;obtain⟨g',cap',rfl⟩:=ownsRow_succ hown';have hc1:=happ.1.cell;have hf1:=happ.1.frozen));refine⟨?_,happ.2.2⟩;have h2:=happ.2.1;rw[<- qh]at h2;exact⟨_,by rw[List.length_append];exact h2⟩
 case done =>
  rintro D T xs W hD xJ hS'⟨v,hC⟩ hT hK;have c0:=hC.bx.cell;have HC:Hid (iM w w.heap.size 137 134 2 (aT xs) xs.length T W v):=hC;clear hC;gi_wp2;refine⟨by simp,.inl ⟨_,_,rfl,run_takeDeferred hK, ?_⟩⟩;refine⟨_,results_tmp rfl _ _ _,v,xs,rfl,hS', ?_, ?_⟩
  ·exact ownsRow_putObj HC.out.row _ hK rfl
  ·have:=(HC.out.lH (T':=T) (dO W D (.deferred none) xJ) (λk hk=>⟨Or.inl hk,by rw[cu];exact(hT k hk).2⟩)).below;exact this
 case stop =>rintro D T c pre W _ _ h;exact h.elim
end Go.Proofs.YtfmmllpjgkgeaaaGreatDoor
namespace Go.Proofs.YtfmmllpjgkgeaaaGreatDoor
open Go.Proofs.Tryz Go.RowKit Go.Maps Go.WideMaps Go.Shelf Go.Sort
theorem sJ:∀(ns:List Nat)(i:Nat)(h:i<ns.length),(aT ns)[i*2]?=some (.int .i64 (who ns[i]))/\(aT ns)[i*2+1]?=some (.int .i64 (nth ns[i])):=by
 intro ns;induction ns with
 | nil=>intro i h;simp at h
 | cons n r ih =>
  intro i h;have e:aT (n::r)=[.int .i64 (who n),.int .i64 (nth n)]++aT r:=rfl;rw[e];cases i with
  | zero=>exact⟨rfl,rfl⟩
  | succ i =>have:=ih i (by simpa using h);rw[show(i+1)*2=i*2+2 by omega];exact⟨by rw[List.getElem?_append_right (by simp)];simpa using this.1,by rw[List.getElem?_append_right (by simp)];simpa using this.2⟩
def vG(n:Nat):List Value:=[.int .i64 (who n),.int .i64 (nth n)]
theorem yI{w:World}{base g cap:Nat}{ns:List Nat}(h:w.ownsRow base 134 2 (.slice (some ⟨g,0,none⟩) ns.length cap) ns.length (aT ns)):HoldsK vG 2 w g 0 ns.toArray:=by
 intro j hj;rw[size_flatK]at hj;simp at hj;have hf:w.frozen? ⟨g,0+j,none⟩=false:=by
  obtain⟨_,⟨h1,_⟩|⟨g',cap',cur,hv,_,hh,_⟩⟩:=h
  ·cases h1
  ·simp only[Value.slice.injEq,Option.some.injEq,Addr.mk.injEq,true_and,and_true]at hv;obtain⟨rfl,rfl⟩:=hv;simp[World.frozen?,hh]
 refine⟨?_,hf⟩;rw[get_flatK _ _ _ _ (by simpa using hj),Nat.zero_add,h.cellAt j hj];have hi:j / 2<ns.length:=by omega
 have hg:=sJ ns (j / 2) hi;have e1:ns.toArray[j / 2]! = ns[j / 2]:=by simp[hi]
 rw[e1];rcases Nat.mod_two_eq_zero_or_one j with h0|h0
 ·have e:j=j / 2*2:=by omega
  rw[h0]
  conv=>lhs;rw[e]
  rw[hg.1];(first|done|rfl)
 ·have e:j=j / 2*2+1:=by omega
  rw[h0]
  conv=>lhs;rw[e]
  rw[hg.2];(first|done|rfl)
theorem PX(x y:Nat):ltOf (λx y:Nat=>Lib.compareInt x y) x y=decide (x<y):=by
 unfold ltOf Lib.compareInt;by_cases h1:(x:Int)<y
 ·have:x<y:=by omega
  simp[this]
 ·have h3:¬x<y:=by omega
  by_cases h2:(y:Int)<x
  ·have:y<x:=by omega
   simp[h3,this]
  ·have:¬y<x:=by omega
   simp[h3,this]
theorem Wq:SWO (ltOf λx y:Nat=>Lib.compareInt x y):={
 irrefl x:=by rw[PX];simp
 trans x y z h1 h2:=by rw[PX]at *;simp at *;omega
 ntrans x y z h1 h2:=by rw[PX]at *;simp at *;omega }
theorem Ji(blk off size:Nat)(w:World):CmpLays prog 205 #[] vG 2 (λx y:Nat=>Lib.compareInt x y) blk off size w :=
 λ_ _ _ _ x y=>Fp _ x y
theorem Tryz.isAggDot(w:World):(isAgg 134).run prog w=.ok true w:=by kernel_rfl
theorem Tryz.sizeOfDot(w:World):(Go.sizeOf 134).run prog w=.ok 2 w:=by kernel_rfl
theorem wY{α:Type} [Inhabited α] (enc:α->List Value) (k:Nat) (w:World) (blk off m:Nat) (dk:Array α) (os:Array Obj):ay (λb=>b=blk) w (sortWorldK enc k w blk off m dk os):=by refine⟨rfl,rfl,rfl,size_sortWorldK_c enc k w blk off m dk os,λb hb hne=>?_⟩;unfold sortWorldK;rw[heap_grow_old _ _ (by simp[putRowK,putRow,mapBlock,Sort.ahead];exact hb)];simp only[putRowK,putRow,mapBlock,Sort.ahead];rw[Array.getElem?_modify];rw[if_neg (λe=>hne (Eq.symm e))]
theorem uh(w:World)(base:Nat)(v:Value)(ns:List Nat)(h:w.ownsRow base 134 2 v ns.length (aT ns))(hl:ns.length<=4000):Calls prog 250 #[v,.func (.func 205) #[] #[]] w λe w'=>e=.returned (.tuple #[])/\∃ns',ns'.Perm ns/\bZ w' v ns'/\ay (λk=>v.ownBlock=some k) w w':=by
 have h0:=h;obtain⟨hx,⟨rfl,hn⟩|⟨g,cap,cur,rfl,hg,hh,hnc,_⟩⟩:=h
 ·have hns:ns=[]:=List.eq_nil_of_length_eq_zero hn;subst hns;refine Calls.mono (AnyF.slices_SortFunc_none Tryz.sortDot none 0 _ w) ?_;rintro e w'⟨rfl,rfl⟩;exact⟨rfl,[],List.Perm.refl _,Or.inl ⟨rfl,rfl⟩,ay.refl _ _⟩
 ·have hH:=yI h0;have hblk:g<w.heap.size:=(h0.lt g rfl).2;have hcon:=AnyQ.slices_SortFunc Tryz.sortDot 2 Tryz.isAggDot Tryz.sizeOfDot vG (λ_=>rfl) (λx v hv=>by simp[vG]at hv;rcases hv with rfl|rfl<;>rfl) (λx y:Nat=>Lib.compareInt x y) Wq 205 #[] g 0 cap ns.toArray w (enters_of func205 (by kernel_rfl) rfl) (Ji g 0 _ w) hH hblk (by simp;omega);refine Calls.mono hcon ?_;rintro e w'⟨rfl,d',m,os,⟨hsz,_,hp⟩,_,rfl⟩;have hH':=holdsK_sortWorldK vG 2 w g 0 m ns.toArray d' os hblk hH hsz;have hperm:d'.toList.Perm ns:=by
   have e1:(d'.extract 0 ns.toArray.size)=d':=by rw[<- hsz];exact Array.extract_size
   have e2:(ns.toArray.extract 0 ns.toArray.size)=ns.toArray:=Array.extract_size;rw[e1,e2]at hp;simpa using hp
  have hlen:d'.toList.length=ns.length:=hperm.length_eq;refine⟨rfl,d'.toList,hperm,Or.inr ⟨g,0,cap,by rw[hlen],by rw[hlen];exact hnc,lt_sortWorldK _ _ _ _ _ _ _ _ hblk,λj hj=>?_⟩,(wY vG 2 w g 0 m d' os).mono (λk _ hk=>by subst hk;rfl)⟩;have hj':j<d'.size:=by simpa using hj
  have c0:=(hH'.cell hj' (c:=0) (by omega)).1;have c1:=(hH'.cell hj' (c:=1) (by omega)).1;have e:d'[j]! = d'.toList[j]:=by simp[hj']
  rw[e]at c0 c1;exact⟨c0,c1⟩
theorem wB(w:World)(gf:Nat)(lb:Array Value)(S:List Nat->Prop)(E:Nat->Prop)(hit:Iter prog gf lb (λn:Nat=>#[Value.agg #[.int .i64 (who n),.int .i64 (nth n)]]) S E w)(eg:∀args w,(callFunc gf args).run prog w=.ok (.enter gf args) w)(hE:∀k,E k->k<w.heap.size)(hS:∀ns,S ns->ns.length<=4000):Calls prog 249 #[.func (.func gf) #[] lb] w λe w'=>∃v ns,e=.returned v/\S ns/\w'.ownsRow w.heap.size 134 2 v ns.length (aT ns)/\Below w.heap.size w w':=by have Hc:Hid (_):=Az w gf lb S E hit eg hE hS;clear hit eg hE hS;go_enter func249,ntmps249;go_wp2_with fail;refine Calls.mono Hc.out ?_;rintro e w1⟨v,ns,rfl,h1,h2,h3⟩;have HF:Hid (S ns/\w1.ownsRow w.heap.size 134 2 v ns.length (aT ns)/\Below w.heap.size w w1):=⟨h1,h2,h3⟩;clear h1 h2 h3 Hc;go_wp2;go_ret;exact⟨v,ns,rfl,HF.out⟩
theorem yJ(w:World)(gf:Nat)(lb:Array Value)(It:Nat->Option Value)(E:Nat->Prop)(hit:Iter prog gf lb (λn:Nat=>#[Value.agg #[.int .i64 (who n),.int .i64 (nth n)]]) (AllOf It) E w)(eg:∀args w,(callFunc gf args).run prog w=.ok (.enter gf args) w)(hE:∀k,E k->k<w.heap.size)(jw:∀n,It n≠none->okD n):Calls prog 203 #[.func (.func gf) #[] lb,.func (.func 205) #[] #[]] w λe w'=>∃v ns,e=.returned v/\AllOf It ns/\bZ w' v ns/\(∀b,v.ownBlock=some b->w.heap.size<=b)/\Below w.heap.size w w':=by
 have hS:∀ns,AllOf It ns->ns.length<=4000:=λns h=>by have:=jT 3072 ns h.1 (λn hn=>lg (jw n ((h.2 n).1 hn)));omega
 have HS:Hid (∀ns,AllOf It ns->ns.length<=4000):=hS;have Hc:Hid (_):=wB w gf lb (AllOf It) E hit eg hE hS;clear hit eg hE hS;go_enter func203,ntmps203;go_wp2_with fail;refine Calls.mono Hc.out ?_;rintro e w1⟨v,ns,rfl,h1,h2,h3⟩;have HF:Hid (AllOf It ns/\w1.ownsRow w.heap.size 134 2 v ns.length (aT ns)/\Below w.heap.size w w1):=⟨h1,h2,h3⟩;clear h1 h2 h3 Hc;go_wp2_with fail;refine Calls.mono (uh w1 _ v ns HF.out.2.1 (HS.out ns HF.out.1)) ?_;rintro e w2⟨rfl,ns',hp,hsl,hch⟩;have HG:Hid (AllOf It ns'/\bZ w2 v ns'/\(∀b,v.ownBlock=some b->w.heap.size<=b)/\Below w.heap.size w w2):=⟨⟨hp.nodup_iff.2 HF.out.1.1,λn=>(hp.mem_iff).trans (HF.out.1.2 n)⟩,hsl,λb hb=>(HF.out.2.1.lt b hb).1,HF.out.2.2.trans ⟨hch.os,hch.tape,hch.output,hch.size,λk hk=>hch.block k (Nat.lt_of_lt_of_le hk HF.out.2.2.size) (λe=>by have:=(HF.out.2.1.lt k e).1;omega)⟩⟩;clear hp hsl hch HF;go_wp2;go_ret;exact⟨v,ns',rfl,HG.out⟩
theorem Dw(w:World)(io co lo:Option Nat):Calls prog 148 #[.agg #[.map io,.map co,.map lo]] w λe w'=>e=.returned (.func (.func 202) #[] #[.pointer (some ⟨w.heap.size,0,none⟩)])/\w'=w.alloc (.cells #[.map io,.map co,.map lo] 102):=by go_enter func148,ntmps148;go_wp2;go_ret;exact⟨rfl,rfl⟩
end Go.Proofs.YtfmmllpjgkgeaaaGreatDoor
namespace Go.Proofs.YtfmmllpjgkgeaaaGreatDoor
open Go.Proofs.Tryz Go.RowKit Go.Maps Go.WideMaps Go.Shelf
attribute [local go_sem] Oper.semAt_some
structure gX where
 n:Nat
 p:ByteArray
 a:Int
 v:ByteArray
 m:Int
noncomputable def Af(It:Nat->Option Value)(n:Nat):gX:=@dite _ (∃x:gX,x.n=n/\It n=some (.agg #[.string x.p,.int .u8 x.a,.string x.v,.int .i64 x.m])) (Classical.propDecidable _) (λh=>Classical.choose h) (λ_=>⟨n,⟨#[]⟩,0,⟨#[]⟩,0⟩)
theorem PY(It:Nat->Option Value)(n:Nat):(Af It n).n=n:=by
 unfold Af;split
 ·rename_i h;exact(Classical.choose_spec h).1
 ·rfl
theorem PZ{It:Nat->Option Value}{n:Nat}{v:Value}(h:It n=some v)(hv:rV v):It n=some (.agg #[.string (Af It n).p,.int .u8 (Af It n).a,.string (Af It n).v,.int .i64 (Af It n).m]):=by obtain⟨s0,x1,s2,x3,rfl⟩:=hv;unfold Af;have hh:∃x:gX,x.n=n/\It n=some (.agg #[.string x.p,.int .u8 x.a,.string x.v,.int .i64 x.m]):=⟨⟨n,s0,x1,s2,x3⟩,rfl,h⟩;rw[dif_pos hh];exact(Classical.choose_spec hh).2
def jU(It:Nat->Option Value)(xs:List gX):Prop:=AllOf It (xs.map gX.n)/\∀x∈xs,It x.n=some (.agg #[.string x.p,.int .u8 x.a,.string x.v,.int .i64 x.m])
theorem KU{It:Nat->Option Value}{ns:List Nat}(h:AllOf It ns)(hv:∀n v,It n=some v->rV v):jU It (ns.map (Af It)):=by
 refine⟨?_,λx hx=>?_⟩
 ·have e:(ns.map (Af It)).map gX.n=ns:=by rw[List.map_map];exact(List.map_congr_left (λn _=>PY It n)).trans (List.map_id _)
  rw[e];exact h
 ·obtain⟨n,hn,rfl⟩:=List.mem_map.1 hx;obtain⟨v,hvv⟩:=Option.ne_none_iff_exists'.1 ((h.2 n).1 hn);rw[PY];exact PZ hvv (hv n v hvv)
theorem vH(w0:World)(sb:Nat)(io co lo:Option Nat)(It:Nat->Option Value)(N:Nat)(hk:aA w0 sb #[.map io,.map co,.map lo] 102)(hM:cZ prog 134 w0 (.map io) N (im It))(jw:∀n,It n≠none->okD n)(hv:∀n v,It n=some v->rV v):Iter prog 202 #[.pointer (some ⟨sb,0,none⟩)] (λx:gX=>#[aP x.n,Value.agg #[.string x.p,.int .u8 x.a,.string x.v,.int .i64 x.m]]) (jU It) (λk=>k=sb\/io=some k) w0:=by
 intro l J Jx W hE hJ hJx hY h0;have hkb:aA W sb #[.map io,.map co,.map lo] 102:=(hE.2 sb (Or.inl rfl)).trans hk;have c0:W.cell? ⟨sb,0,none⟩=some (.map io):=(hkb.cell 0).trans rfl;have MI:cZ prog 134 W (.map io) N (im It):=by
  rcases hM with h|⟨b,hb,h⟩
  ·exact Or.inl h
  ·exact Or.inr ⟨b,hb,h.block (hE.2 b (Or.inr (by cases hb;rfl)))⟩
 have hlt:∀k,(k=sb\/io=some k)->k<W.heap.size:=by
  rintro k (rfl|h)
  ·exact hkb.lt
  ·exact MI.lt k (by rw[h])
 clear hM hk;have HKe:Hid (_):=PV W io;have HSo:Hid (∀wx,wx=W.alloc (.cells #[.map io] 96)->Calls prog 203 #[.func (.func 251) #[] #[.pointer (some ⟨W.heap.size,0,none⟩)],.func (.func 205) #[] #[]] wx λe w'=>∃v ns,e=.returned v/\AllOf It ns/\bZ w' v ns/\(∀b,v.ownBlock=some b->W.heap.size<=b)/\Below W.heap.size W w'):=λwx hx=>by
  subst hx;have hb:Below W.heap.size W (W.alloc (.cells #[.map io] 96)):=(Below.refl _ W).alloc (Nat.le_refl _) _;refine Calls.mono (yJ _ _ _ It _ (Jg _ W.heap.size io It N (aA.new W _ _) (MI.below hb) jw) (enters_of func251 (by kernel_rfl) rfl) ?_ jw) ?_
  ·rintro k (rfl|h)
   ·simp
   ·have:=hlt k (Or.inr h);simp;omega
  ·rintro e w'⟨v,ns,rfl,h1,h2,h3,h4⟩;exact⟨v,ns,rfl,h1,h2,λb hb'=>by have:=h3 b hb';simp at this;omega,hb.trans (h4.mono (by simp))⟩
 refine callsIn_of_wp func202 rfl trivial ?_ rfl;simp only[ntmps202,List.size_toArray,List.length_cons,List.length_nil,Nat.reduceAdd,Nat.reduceSub,Array.replicate_succ,Array.replicate_zero,List.push_toArray,List.append_toArray,List.nil_append,List.cons_append];gi_wp2_with fail;refine⟨trivial,(callsIn_wide.2 HKe.out).mono ?_⟩;rintro e w1⟨rfl,rfl⟩;gi_wp2_with fail;refine⟨trivial,(callsIn_wide.2 (HSo.out _ rfl)).mono ?_⟩;rintro e w2⟨v,ns,rfl,hns,hsl,hvb,hb2⟩;obtain⟨T,hT⟩:∃T:Nat->Prop,T=λk=>v.ownBlock=some k:=⟨_,rfl⟩;have hTl:∀k,T k->k<w2.heap.size:=λk hk=>by
  rw[hT]at hk;rcases hsl with⟨rfl,_⟩|⟨b,off,cap,rfl,_,h3,_⟩
  ·cases hk
  ·cases hk;exact h3
 have hJ2:J T [] w2:=hJ _ _ _ _ _ h0 (ay.of_below hb2) (λk hk=>⟨Or.inr (by rw[hT]at hk;exact hvb k hk),hTl k hk⟩);have hshape:∃ao cap,v=.slice ao ns.length cap/\ns.length<=cap:=by
  rcases hsl with⟨rfl,rfl⟩|⟨b,off,cap,rfl,h2,_⟩
  ·exact⟨none,0,rfl,Nat.le_refl _⟩
  ·exact⟨_,cap,rfl,h2⟩
 obtain⟨ao,cap,Dx,hcap⟩:=hshape;have aj3:ns.length<=3072:=jT 3072 ns hns.1 (λn hn=>lg (jw n ((hns.2 n).1 hn)));have HJ2:Hid (J T [] w2):=hJ2;have HE2:Hid (aA w2 sb #[.map io,.map co,.map lo] 102/\cZ prog 134 w2 (.map io) N (im It)/\bZ w2 v ns):=⟨hkb.below hb2,MI.below hb2,hsl⟩;clear hJ2 hsl hb2 HSo HKe hkb MI c0;subst Dx;gi_wp2_with fail
 gi_loopg [10] ns.length (λg v10 wx=>∃i:Nat,i+g=ns.length/\v10=.int .i64 i/\J T ((ns.take i).map (Af It)) wx/\aA wx sb #[.map io,.map co,.map lo] 102/\cZ prog 134 wx (.map io) N (im It)/\bZ wx (.slice ao ns.length cap) ns/\w2.heap.size<=wx.heap.size)
 case atStart=>exact⟨0,by omega,rfl,HJ2.out,HE2.out.1,HE2.out.2.1,HE2.out.2.2,Nat.le_refl _⟩
 case round =>
  obtain⟨i,hig,rfl,hJi,hbk,hmo,hsl,al2⟩:=hrel;have HJi:Hid (J T ((ns.take i).map (Af It)) wr):=hJi;have Za:Hid (aA wr sb #[.map io,.map co,.map lo] 102/\cZ prog 134 wr (.map io) N (im It)/\bZ wr (.slice ao ns.length cap) ns):=⟨hbk,hmo,hsl⟩;clear HJ2 HE2 hJi hbk hmo;by_cases hi:i<ns.length
  ·obtain⟨b,off,cap',hvv,_,hb,hcells⟩:=hsl.resolve_left (λh=>by rw[h.2]at hi;simp at hi);simp only[Value.slice.injEq]at hvv;obtain⟨rfl,_,rfl⟩:=hvv;have k0:=(hcells i hi).1;have k1:=(hcells i hi).2;clear hsl hcells;have hmem:ns[i]∈ns:=List.getElem_mem hi;have hall:ns.take (i+1)=ns.take i++[ns[i]]:=List.take_succ_eq_append_getElem hi;obtain⟨vi,hvi⟩:=Option.ne_none_iff_exists'.1 ((hns.2 _).1 hmem);have Du:=PZ hvi (hv _ _ hvi);have hin:=PY It ns[i];have Zb:=jw _ ((hns.2 _).1 hmem);have hpre:∃ys,jU It ys/\(ns.take i).map (Af It)++[Af It ns[i]] <+: ys:=⟨ns.map (Af It),KU hns hv,by rw[<- List.map_singleton,<- List.map_append,<- hall];exact(List.take_prefix _ _).map _⟩;have dX:Hid ((ns.take (i+1)).map (Af It)=(ns.take i).map (Af It)++[Af It ns[i]]):=by show _=_;rw[hall,List.map_append];(first|done|rfl)
   generalize ns[i]=n at *;generalize Af It n=x at *;obtain⟨xn,s0,x1,s2,x3⟩:=x;simp only at hin Du;subst hin;gi_wp2_with fail;have kd:aA (wr.alloc (.cells #[.int .i64 (who xn),.int .i64 (nth xn)] 134)) wr.heap.size #[.int .i64 (who xn),.int .i64 (nth xn)] 134:=aA.new wr _ _;have hbw:Below wr.heap.size wr (wr.alloc (.cells #[.int .i64 (who xn),.int .i64 (nth xn)] 134)):=(Below.refl _ wr).alloc (Nat.le_refl _) _;generalize wr.alloc (.cells #[.int .i64 (who xn),.int .i64 (nth xn)] 134)=w5 at *;have d0:w5.cell? ⟨wr.heap.size,0,none⟩=some (.int .i64 (who xn)):=(kd.cell 0).trans rfl;have d1:w5.cell? ⟨wr.heap.size,1,none⟩=some (.int .i64 (nth xn)):=(kd.cell 1).trans rfl;have s0':w5.cell? ⟨sb,0,none⟩=some (.map io):=((Za.out.1.below hbw).cell 0).trans rfl;obtain⟨kl,hkl⟩:=keyE xn (by have:=Zb.1;omega);have hlk:(Instr.lookup 96 (.map io) (.agg #[.int .i64 (who xn),.int .i64 (nth xn)]) false).run prog w5.drew=.ok (.agg #[.string s0,.int .u8 x1,.string s2,.int .i64 x3]) w5.drew:=by have h1:=((Za.out.2.1.below hbw).below (Below.refl _ w5).drew).look iU underlying96 (YV _) hkl;rw[iC,Du]at h1;exact h1
   have Wi:J T ((ns.take i).map (Af It)) w5.drew:=hJ _ _ _ _ _ HJi.out (ay.of_below (hbw.drew)) (λk hk=>⟨Or.inl hk,by have:=hTl k hk;have:=hbw.size;show k<w5.heap.size;omega⟩);obtain⟨fn,tmps,assign,body,hy,MK⟩:=hY T _ ⟨xn,s0,x1,s2,x3⟩ _ Wi hpre;try dsimp only at hy
   have Ws:RoundIn Fence.wide 3 prog l fn tmps assign body w5.drew λe W'=>∃bb:Bool,e=.returned (.bool bb)/\(bb=true->J T ((ns.take i).map (Af It)++[⟨xn,s0,x1,s2,x3⟩]) W'/\bI (λk=>(k=sb\/io=some k)\/T k) w5.drew W')/\(bb=false->Jx T ((ns.take i).map (Af It)++[⟨xn,s0,x1,s2,x3⟩]) W'):=MK.mono (by
    rintro e W' (⟨rfl,h1,h2⟩|⟨rfl,h1,_⟩)
    ·exact⟨true,rfl,λ_=>⟨h1,h2⟩,λh=>by cases h⟩
    ·exact⟨false,rfl,(λh=>by cases h),λ_=>h1⟩)
   have HK:Hid (∀W3,bI (λk=>(k=sb\/io=some k)\/T k) w5.drew W3->aA W3 sb #[.map io,.map co,.map lo] 102/\cZ prog 134 W3 (.map io) N (im It)/\bZ W3 (.slice (some ⟨b,off,none⟩) ns.length cap) ns/\w2.heap.size<=W3.heap.size):=λW3 hk=>by
    have e1:=Za.out.1.below hbw;have e2:=Za.out.2.1.below hbw;have e3:=Za.out.2.2.below hbw;refine⟨(hk.2 sb (Or.inl (Or.inl rfl))).trans e1, ?_, ?_,by have:=hk.1;have:=hbw.size;simp only[World.drew]at *;omega⟩
    ·rcases e2 with h|⟨b',hb',h⟩
     ·exact Or.inl h
     ·exact Or.inr ⟨b',hb',h.block (hk.2 b' (Or.inl (Or.inr (by cases hb';rfl))))⟩
    ·rcases e3 with⟨h,_⟩|⟨b',off',cap'',h1,h2,h3,h4⟩
     ·cases h
     ·have hbb:b'=b:=by cases h1;rfl
      have e:∀i,W3.cell? ⟨b',i,none⟩=w5.cell? ⟨b',i,none⟩:=λi=>World.cell?_of_block (w:=w5) (hk.2 b' (Or.inr (by rw[hT,hbb];rfl)));exact Or.inr ⟨b',off',cap'',h1,h2,Nat.lt_of_lt_of_le h3 hk.1,λj hj=>⟨(e _).trans (h4 j hj).1,(e _).trans (h4 j hj).2⟩⟩
   gi_region_with (first|(refine RoundIn.mono (eX Ws) ?_;rintro e W3⟨bb,rfl,h3,h4⟩))
   all_goals
    cases bb with
    | true =>
     have H3:Hid (_):=h3 rfl;clear h3 h4 Ws hy hlk d0 d1 s0' kd;gi_wp2_with fail
     gi_roundg (ns.length-(i+1))
     case measure=>omega
     case rel=>exact⟨i+1,by omega,by go_num,by rw[dX.out];exact H3.out.1,HK.out _ H3.out.2⟩
    | false =>have H4:Hid (_):=h4 rfl;clear h3 h4 Ws hy hlk d0 d1 s0' kd;gi_wp2_with fail;refine bodyPost_ret (results_none rfl _ _ _) rfl ?_;exact⟨⟨_,rfl⟩,Or.inr ⟨_,T,H4.out⟩⟩
  ·clear hsl;gi_wp2_with fail
   go_end0
   refine⟨⟨_,rfl⟩,Or.inl ⟨ns.map (Af It),KU hns hv,T, ?_⟩⟩;have:=HJi.out;rw[List.take_of_length_le (by omega)]at this;exact this
end Go.Proofs.YtfmmllpjgkgeaaaGreatDoor
namespace Go.Proofs.YtfmmllpjgkgeaaaGreatDoor
open Go.Proofs.Tryz Go.RowKit
variable{p v:ByteArray}{n:Int}{b:Nat}{a:UInt8}{w:World}
theorem qN(s:ByteArray)(w:World)(hs:s.size<=1048576):Calls prog 56 #[.string s] w λe w'=>e=.returned (.string s)/\Below w.heap.size w w':=by have L9:Hid (_):=Tryz.stringslite_Clone s w (by omega);go_enter func56,ntmps56;go_wp2_with fail;refine Calls.mono L9.out ?_;rintro e w1⟨rfl,hb⟩;go_wp2;go_ret;exact⟨rfl,hb⟩
structure eH(w:World)(b:Nat)(p:ByteArray)(a:UInt8)(v:ByteArray)(n:Int):Prop where
 tag:Tagged w b 86
 c0:w.cell? ⟨b,0,none⟩=some (.string p)
 c1:w.cell? ⟨b,1,none⟩=some (.int .u8 (a.toNat:Int))
 c2:w.cell? ⟨b,2,none⟩=some (.string v)
 c3:w.cell? ⟨b,3,none⟩=some (.int .i64 n)
theorem eH.aJ{M:Nat->Prop}{w':World}(h:eH w b p a v n)(hc:ay M w w')(hm:¬M b):eH w' b p a v n:=by have hcell:∀i,w'.cell? ⟨b,i,none⟩=w.cell? ⟨b,i,none⟩:=λi=>World.cell?_of_block (w:=w) (hc.block b h.tag.lt hm);exact⟨h.tag.aJ hc hm,(hcell 0).trans h.c0,(hcell 1).trans h.c1,(hcell 2).trans h.c2,(hcell 3).trans h.c3⟩
theorem eH.below{w':World}(h:eH w b p a v n)(hb:Below w.heap.size w w'):eH w' b p a v n :=
 h.aJ (ay.of_below (M:=λ_=>False) hb) (λh=>h)
theorem eH.set2(h:eH w b p a v n)(v':ByteArray):eH (w.setCell ⟨b,2,none⟩ (.string v')) b p a v' n :=
 ⟨h.tag.setCell _ _,(aK (Or.inr (by omega))).trans h.c0,(aK (Or.inr (by omega))).trans h.c1,bQ h.c2,(aK (Or.inr (by omega))).trans h.c3⟩
theorem eH.Wu(h:eH w b p a v n)(n':Int):eH (w.setCell ⟨b,3,none⟩ (.int .i64 n')) b p a v n' :=
 ⟨h.tag.setCell _ _,(aK (Or.inr (by omega))).trans h.c0,(aK (Or.inr (by omega))).trans h.c1,(aK (Or.inr (by omega))).trans h.c2,bQ h.c3⟩
theorem eH.set0(h:eH w b p a v n)(p':ByteArray):eH (w.setCell ⟨b,0,none⟩ (.string p')) b p' a v n :=
 ⟨h.tag.setCell _ _,bQ h.c0,(aK (Or.inr (by omega))).trans h.c1,(aK (Or.inr (by omega))).trans h.c2,(aK (Or.inr (by omega))).trans h.c3⟩
theorem eH.set1(h:eH w b p a v n)(a':UInt8):eH (w.setCell ⟨b,1,none⟩ (.int .u8 (a'.toNat:Int))) b p a' v n :=
 ⟨h.tag.setCell _ _,(aK (Or.inr (by omega))).trans h.c0,bQ h.c1,(aK (Or.inr (by omega))).trans h.c2,(aK (Or.inr (by omega))).trans h.c3⟩
theorem eH.Wv{b' i:Nat}(h:eH w b p a v n)(hb:b≠b')(u:Value):eH (w.setCell ⟨b',i,none⟩ u) b p a v n :=
 h.aJ ((ay.refl (λk=>k=b') w).setCell (p:=⟨b',i,none⟩) rfl u) hb
theorem nO(w:World)(p:ByteArray)(a:UInt8)(v:ByteArray)(n:Int):eH (w.alloc (.cells #[.string p,.int .u8 (a.toNat:Int),.string v,.int .i64 n] 86)) w.heap.size p a v n:=by have h:(w.alloc (.cells #[.string p,.int .u8 (a.toNat:Int),.string v,.int .i64 n] 86)).heap[w.heap.size]?=some (.cells #[.string p,.int .u8 (a.toNat:Int),.string v,.int .i64 n] 86 (0,0)):=heap_alloc_new _ _;refine⟨⟨_,h⟩, ?_, ?_, ?_, ?_⟩<;>rw[World.cell?_alloc_at _ _ _ _ rfl]<;>rfl
theorem Jj(p:ByteArray)(a:UInt8)(v:ByteArray)(n:Int)(w:World)(hp:p.size<=1048576)(hv:v.size<=1048576):Calls prog 85 #[.agg #[.string p,.int .u8 (a.toNat:Int),.string v,.int .i64 n]] w λe w'=>e=.returned (.agg #[.string p,.int .u8 (a.toNat:Int),.string v,.int .i64 n])/\Below w.heap.size w w':=by
 have uf:Hid (∀o,eH ((w.alloc (.cells #[.string p,.int .u8 (a.toNat:Int),.string v,.int .i64 n] 86)).alloc o) w.heap.size p a v n):=λo=>(nO w p a v n).below ((Below.refl _ _).alloc (Nat.le_refl _) o);have HA1:Hid (∀o,eH ((w.alloc o).alloc (.cells #[.string ⟨#[]⟩,.int .u8 0,.string ⟨#[]⟩,.int .i64 0] 86)) (w.heap.size+1) ⟨#[]⟩ 0 ⟨#[]⟩ 0):=λo=>by
  have:=nO (w.alloc o) ⟨#[]⟩ 0 ⟨#[]⟩ 0;have e:(w.alloc o).heap.size=w.heap.size+1:=by simp
  rw[e]at this;exact this
 have HB:Hid (∀o o',Below w.heap.size w ((w.alloc o).alloc o')):=λo o'=>((Below.refl _ w).alloc (Nat.le_refl _) o).alloc (by simp) o';go_enter func85,ntmps85;go_wp2_with fail;refine Calls.mono (qN p _ hp) ?_;rintro e w1⟨rfl,hb1⟩;have a0:eH w1 w.heap.size p a v n:=(uf.out _).below hb1;have a1:eH w1 (w.heap.size+1) ⟨#[]⟩ 0 ⟨#[]⟩ 0:=(HA1.out _).below hb1;have b1:Hid (Below w.heap.size w w1):=(HB.out _ _).trans (hb1.mono (by simp;omega));clear hb1;have x0:=a0.c0;have x1:=a0.c1;have x2:=a0.c2;have x3:=a0.c3;have xf:=a0.tag.frozen;have A0:Hid (eH w1 w.heap.size p a v n):=a0;have A1:Hid (eH w1 (w.heap.size+1) ⟨#[]⟩ 0 ⟨#[]⟩ 0):=a1;clear a0 a1 uf HA1 HB;go_wp2_with fail;refine Calls.mono (qN v _ hv) ?_;rintro e w2⟨rfl,hb2⟩;have a0:eH w2 w.heap.size p a v n:=(A0.out.set0 p).below hb2;have a1:eH w2 (w.heap.size+1) ⟨#[]⟩ 0 ⟨#[]⟩ 0:=(A1.out.aJ ((ay.refl (λk=>k=w.heap.size) w1).setCell (p:=⟨w.heap.size,0,none⟩) rfl (.string p)) (by simp)).below hb2;have b2:Hid (Below w.heap.size w w2):=(b1.out.setCell (p:=⟨w.heap.size,0,none⟩) (Nat.le_refl _) (.string p)).trans (hb2.mono (by have:=b1.out.size;simpa[World.setCell]using this));clear hb2 x0 x1 x2 x3 xf;have x0:=a0.c0;have x1:=a0.c1;have x2:=a0.c2;have x3:=a0.c3;have xf:=a0.tag.frozen;have y0:=a1.c0;have y1:=a1.c1;have y2:=a1.c2;have y3:=a1.c3;have yf:=a1.tag.frozen;have A1:Hid (eH w2 (w.heap.size+1) ⟨#[]⟩ 0 ⟨#[]⟩ 0):=a1;clear a0 a1 A0 b1;go_wp2;have hF:eH (((((w2.setCell ⟨w.heap.size,2,none⟩ (.string v)).setCell ⟨w.heap.size+1,0,none⟩ (.string p)).setCell ⟨w.heap.size+1,1,none⟩ (.int .u8 (a.toNat:Int))).setCell ⟨w.heap.size+1,2,none⟩ (.string v)).setCell ⟨w.heap.size+1,3,none⟩ (.int .i64 n)) (w.heap.size+1) p a v n :=
  ((((A1.out.Wv (by omega) _).set0 p).set1 a).set2 v).Wu n
 have hB:Below w.heap.size w (((((w2.setCell ⟨w.heap.size,2,none⟩ (.string v)).setCell ⟨w.heap.size+1,0,none⟩ (.string p)).setCell ⟨w.heap.size+1,1,none⟩ (.int .u8 (a.toNat:Int))).setCell ⟨w.heap.size+1,2,none⟩ (.string v)).setCell ⟨w.heap.size+1,3,none⟩ (.int .i64 n)) :=
  ((((b2.out.setCell (p:=⟨w.heap.size,2,none⟩) (Nat.le_refl _) _).setCell (p:=⟨w.heap.size+1,0,none⟩) (Nat.le_succ _) _).setCell (p:=⟨w.heap.size+1,1,none⟩) (Nat.le_succ _) _).setCell (p:=⟨w.heap.size+1,2,none⟩) (Nat.le_succ _) _).setCell (p:=⟨w.heap.size+1,3,none⟩) (Nat.le_succ _) _
 generalize (((((w2.setCell ⟨w.heap.size,2,none⟩ (.string v)).setCell ⟨w.heap.size+1,0,none⟩ (.string p)).setCell ⟨w.heap.size+1,1,none⟩ (.int .u8 (a.toNat:Int))).setCell ⟨w.heap.size+1,2,none⟩ (.string v)).setCell ⟨w.heap.size+1,3,none⟩ (.int .i64 n))=WF at *;refine bodyPost_ret (v:=.agg #[.string p,.int .u8 (a.toNat:Int),.string v,.int .i64 n]) (by simp[results,Tryz.results85,go_sem,hF.c0,hF.c1,hF.c2,hF.c3]) rfl ⟨rfl,hB⟩
def aC(a:UInt8)(t:ByteArray):ByteArray:=if a.toNat=43\/a.toNat=45\/a.toNat=61 then t else ByteArray.empty
theorem opA{p:Thk.Bs}{l:Thk.Bs}(ha:a.toNat=43\/a.toNat=45\/a.toNat=61):(Thk.operand p a l).isRight=Thk.word Thk.pG 8 l/\∀c,Thk.operand p a l=.inr c->c.n=0:=by
 have hv:Thk.val l=Thk.word Thk.pG 8 l:=rfl;unfold Thk.operand;rw[if_pos ha,hv];cases Thk.word Thk.pG 8 l
 ·simp
 ·simp only[if_true,Sum.isRight_inr,Sum.inr.injEq,true_and];rintro c rfl;rfl
theorem opB{p:Thk.Bs}{l:Thk.Bs}(ha:a.toNat=62):(Thk.operand p a l).isRight=(Thk.num l).isSome/\∀c,Thk.operand p a l=.inr c->Thk.num l=some c.n:=by
 unfold Thk.operand;rw[if_neg (by omega),if_pos ha];cases Thk.num l
 ·simp
 ·simp only[Sum.isRight_inr,Sum.inr.injEq,Option.isSome_some,true_and];rintro c rfl;rfl
theorem opC{p:Thk.Bs}{l:Thk.Bs}(ha:¬(a.toNat=43\/a.toNat=45\/a.toNat=61))(hb:¬a.toNat=62):(Thk.operand p a l).isRight=decide (l=[])/\∀c,Thk.operand p a l=.inr c->c.n=0:=by
 unfold Thk.operand;rw[if_neg ha,if_neg hb];by_cases h:l=[]
 ·rw[if_pos h];simp only[Sum.isRight_inr,Sum.inr.injEq,h,decide_true,true_and];rintro c rfl;rfl
 ·rw[if_neg h];simp[h]
theorem Zc{t:ByteArray}(ha:a.toNat=43\/a.toNat=45\/a.toNat=61):aC a t=t:=if_pos ha
theorem Va{t:ByteArray}(ha:¬(a.toNat=43\/a.toNat=45\/a.toNat=61)):aC a t=ByteArray.empty:=if_neg ha
theorem wZ(b:Nat)(p:ByteArray)(a:UInt8)(t:ByteArray)(w:World)(ht:t.size<=1048576)(hG:Glob w)(hC:eH w b p a ByteArray.empty 0):Calls prog 84 #[.pointer (some ⟨b,0,none⟩),.string t] w λe w'=>e=.returned (.bool (Thk.operand (ah p) a (ah t)).isRight)/\(∀c,Thk.operand (ah p) a (ah t)=.inr c->eH w' b p a (aC a t) c.n)/\ay (· = b) w w':=by
 have c0:=hC.c0;have c1:=hC.c1;have c2:=hC.c2;have c3:=hC.c3;have fz:=hC.tag.frozen;have HC:Hid (eH w b p a ByteArray.empty 0):=hC;have Hn:Hid (_):=yC t w ht hG;clear hG hC;go_enter func84,ntmps84;go_wp2_with (first|(go_at_call 145;refine Calls.mono Hn.out ?_;rintro e w1⟨n,rfl,hn,hb⟩;have z3:=(HC.out.below hb).c3;have zf:=(HC.out.below hb).tag.frozen)|(go_at_call 143;refine(Dh t 8 _ ht (by omega)).mono ?_;rintro e w1⟨rfl,rfl⟩))
 iterate 3
  ·go_ret;have ha:a.toNat=43\/a.toNat=45\/a.toNat=61:=by simp only[beq_iff_eq,beq_eq_false_iff_ne]at *;omega
   refine⟨aY (opA ha).1.symm,λc hc=>?_,ay.setCell (M:=λx=>x=b) (ay.refl _ w) (p:=⟨b,2,none⟩) rfl _⟩;rw[(opA ha).2 c hc,Zc ha];exact HC.out.set2 t
 ·go_ret;have hb':a.toNat=62:=by simp only[beq_iff_eq,beq_eq_false_iff_ne]at *;omega
  refine⟨aY (opB hb').1.symm,λc hc=>?_,ay.setCell (M:=λx=>x=b) (ay.of_below hb) (p:=⟨b,3,none⟩) rfl _⟩;rw[<- hn _ ((opB hb').2 c hc),Va (by omega)];exact(HC.out.below hb).Wu n
 ·go_ret;have ha:¬(a.toNat=43\/a.toNat=45\/a.toNat=61):=by simp only[beq_iff_eq,beq_eq_false_iff_ne]at *;omega
  have hb':¬a.toNat=62:=by simp only[beq_iff_eq,beq_eq_false_iff_ne]at *;omega
  refine⟨aY ?_,λc hc=>?_,ay.refl _ w⟩
  ·rw[(opC ha hb').1,toList_eq];show(ah t).isEmpty=_;cases ah t<;>rfl
  ·rw[(opC ha hb').2 c hc,Va ha];exact HC.out
def dS:ByteArray:=⟨#[43,45,94,95,61,62,33]⟩
theorem uj:∀b∈dS.data.toList,b.toNat<128:=by decide +kernel
theorem yK(w:World)(s:ByteArray)(i:Nat):Below w.heap.size w (w.iter s i):=(Below.refl _ w).alloc (Nat.le_refl _) _
theorem AB(w:World):Calls prog 137 #[.string dS,.int .i32 65533] w λe w'=>e=.returned (.int .i64 (-1))/\Below w.heap.size w w':=by
 have hsz:dS.size=7:=rfl;have TY:Hid (∀i(h:i<dS.size),(dS[i]'h).toNat<128):=λi h=>uj _ (Array.getElem_mem_toList (xs:=dS.data) h);generalize dS=s at *;go_enter func137,ntmps137;go_wp2_with fail;go_loopg [5,6] 7 (λg _ _ wx=>∃i:Nat,i+g=7/\wx=w.iter s i);case atStart=>exact⟨0,by omega,rfl⟩
 case round =>
  obtain⟨i,hig,rfl⟩:=hrel;cases gk with
  | zero =>have hnx:=λty=>run_next_end (P:=prog) w s i ty (by omega);go_wp2;go_ret;exact⟨rfl,yK _ _ _⟩
  | succ g =>
   have hi:i<s.size:=by omega
   have hx:=TY.out i hi;have hnx:=λty=>run_next_ascii (P:=prog) w s i ty hi hx;generalize (s[i]'hi)=x at *;have hne:((x.toNat:Int)==65533)=false:=beq_eq_false_iff_ne.2 (by omega);go_wp2;go_roundg g;case measure=>omega
   case rel=>exact⟨i+1,by omega,rfl⟩
theorem indexByte_none(c:UInt8):∀l:Thk.Bs,(∀b∈l,b≠c)->Lib.indexByte l c = -1:=by
 intro l;induction l with
 | nil=>intro _;rfl
 | cons x l ih =>
  intro h;have h1:(x==c)=false:=by simpa using h x (by simp)
  have h2:=ih (λb hb=>h b (by simp[hb]));rw[xH,h1,h2];(first|done|rfl)
theorem qj(id:Nat)(Q:Exit->Act->World->Prop)(a:Act)(w:World):Exit.inBlock id Q .ret a w=Q .ret a w:=rfl
theorem Fz(K:Act->World->Prop)(Q:Exit->Act->World->Prop)(a:Act)(w:World):Exit.then K Q .ret a w=Q .ret a w:=rfl
def Qb(s:ByteArray)(c:UInt8):Prop:=∀i j wx,Calls prog 81 #[.string (s.extract i j),.int .u8 (c.toNat:Int)] wx λe w'=>e=.returned (.int .i64 (-1))/\w'=wx
theorem yL(r:Int)(w:World)(h1:128<=r)(h2:r<=2147483647):Calls prog 137 #[.string dS,.int .i32 r] w λe w'=>e=.returned (.int .i64 (-1))/\Below w.heap.size w w':=by
 by_cases hbad:r=65533
 ·subst hbad;exact AB w
 have hne:(r==65533)=false:=beq_eq_false_iff_ne.2 hbad;have n128:¬r<128:=by omega
 cases hv:Lib.validRune r
 ·have Hv:Hid (Lib.validRune r=false):=hv;clear hv;go_enter func137,ntmps137;go_wp2_with (go_at_call 193;refine(Tryz.utf8_ValidRune r _).mono ?_;rintro e w1⟨rfl,rfl⟩;rw[Hv.out]);go_ret;exact⟨rfl,Below.refl _ _⟩
 ·have Hv:Hid (Lib.validRune r=true):=hv;have hv2:Utf8.valid r=true:=by unfold Lib.validRune at hv;unfold Utf8.valid;simp at hv⊢;omega
  obtain⟨e1,e2,e3⟩:=encode_facts r hv2 h1;clear hv hv2;obtain⟨n,hn⟩:∃n,(Utf8.encode r).size=n+1:=⟨(Utf8.encode r).size-1,by omega⟩;have hsz:dS.size=7:=rfl;have TY:Hid (∀i(h:i<dS.size),(dS[i]'h).toNat<128):=λi h=>uj _ (Array.getElem_mem_toList (xs:=dS.data) h);generalize dS=s at *;have hcv:∀wx,(convert 21 9 (.int .i32 r)).run prog wx=.ok (.string (Utf8.encode r)) wx:=λwx=>run_convert_int_string wx 21 9 .i32 r (by rw[underlying21];rfl) underlying9;generalize Utf8.encode r=rs at *;go_enter func137,ntmps137;go_wp2_with (go_at_call 193;refine(Tryz.utf8_ValidRune r _).mono ?_;rintro e w1⟨rfl,rfl⟩;rw[Hv.out])
  go_step3
  go_wp2_with fail;have hns:n<s.size:=by omega
  have hnr:n<rs.size:=by omega
  have hx:=TY.out n hns;have hy:128<=(rs[n]'hnr).toNat:=by
   have:=e3 (by omega);have e:rs.size-1=n:=by omega
   simp only[e]at this;exact this
  have hneq:(((s[n]'hns).toNat:Int) !=((rs[n]'hnr).toNat:Int))=true:=by simp;omega
  have Hc:Hid (∀i j,Lib.indexByte (s.extract i j).data.toList (rs[n]'hnr) = -1):=λi j=>indexByte_none _ _ (λb hb=>by intro he;have h1:=mem_extract hb;obtain⟨k,hk,hk2⟩:=List.getElem_of_mem h1;have h2:=TY.out k (by simpa using hk);have h3:s[k]'(by simpa using hk)=b:=hk2;rw[h3,he]at h2;omega);have hback:(((rs[n]'hnr).toNat:Int)).toNat.toUInt8=rs[n]'hnr:=by simp
  have EJ:Qb s (rs[n]'hnr):=λi j wx=>by refine(Tryz.strings_IndexByte _ _ _).mono ?_;rintro e w2⟨rfl,rfl⟩;rw[hback,Hc.out];exact⟨rfl,rfl⟩
  have hwr:IntKind.i64.wrap ((n:Int)+1)=(n:Int)+1:=wrap_small _ (by omega) (by omega);have hle:(n:Int)+1<=7:=by omega
  have hle0:(0:Int)<=(n:Int)+1:=by omega
  clear e1 e2 e3 hcv hn;go_loopg [9,10,11,12] 0 (λg v9 v10 v11 v12 wx=>v9=.int .i64 n/\v10=.int .i64 0/\wx=w1);case atStart=>exact⟨rfl,rfl,rfl⟩
  case round =>
   obtain⟨rfl,rfl,rfl⟩:=hrel;go_wp2_with fail
   go_step3
   go_wp2_with fail
   go_quiet (fail)
   go_wp2_with fail
   go_quiet (first|(go_at_call 81;exact Calls.mono (EJ _ _ _) (λ_ _ h=>⟨h.1,_,h.2⟩)))
   go_wp2;rw[Exit.noGoto_ret,qj,Fz,qj,Fz,Exit.noGoto_ret,qj];go_ret;exact⟨rfl,below_drewN (Below.refl _ _) _⟩
theorem FB(s:ByteArray)(i:Nat)(h:i<s.size)(ha:128<=(s[i]'h).toNat):∀j,j<(Utf8.decode s i).2->∃hj:i+j<s.size,128<=(s[i+j]'hj).toNat:=by
 have hg:∀k(hk:i+k<s.size),(s.get! (i+k)).toNat / 64=2->128<=(s[i+k]'hk).toNat:=λk hk h2=>by
  have e:s.get! (i+k)=s[i+k]'hk:=by simp[ByteArray.get!,getElem!_pos,hk];(first|done|rfl)
  rw[e]at h2;omega
 have h0:∃hj:i+0<s.size,128<=(s[i+0]'hj).toNat:=⟨h,ha⟩;have hn:¬(s[i]'h).toNat<128:=by omega
 intro j hj;have hc:∀k,(decide (i+k<s.size)&&(s.get! (i+k)).toNat / 64==2)=true->∃hj:i+k<s.size,128<=(s[i+k]'hj).toNat:=λk hk=>by simp only[Bool.and_eq_true,decide_eq_true_eq,beq_iff_eq]at hk;exact⟨hk.1,hg k hk.1 hk.2⟩
 simp only[Utf8.decode,get_at s i h,hn,if_false]at hj;split at hj
 ·rename_i hx;simp only[Bool.and_eq_true]at hx;have c1:=hc 1 (by simpa using hx.2);split at hj<;>(simp only at hj;rcases j with _|_|j;exact h0;exact c1;omega)
 ·split at hj
  ·rename_i hx;simp only[Bool.and_eq_true]at hx;have c1:=hc 1 (by simpa using hx.1.2);have c2:=hc 2 (by simpa using hx.2);split at hj<;>(simp only at hj;rcases j with _|_|_|j;exact h0;exact c1;exact c2;omega)
  ·split at hj
   ·rename_i hx;simp only[Bool.and_eq_true]at hx;have c1:=hc 1 (by simpa using hx.1.1.2);have c2:=hc 2 (by simpa using hx.1.2);have c3:=hc 3 (by simpa using hx.2);split at hj<;>(simp only at hj;rcases j with _|_|_|_|j;exact h0;exact c1;exact c2;exact c3;omega)
   ·simp only at hj;rcases j with _|j;exact h0;omega
end Go.Proofs.YtfmmllpjgkgeaaaGreatDoor
namespace Go.Proofs.YtfmmllpjgkgeaaaGreatDoor
open Go.Proofs.Tryz Go.RowKit Go.Lib
theorem P5(x:UInt8)(h:128<=x.toNat):(ah dS).contains x=false:=by
 have:∀b∈ah dS,b.toNat<128:=uj;cases hc:(ah dS).contains x
 ·rfl
 ·have:=this x (by simpa using hc);omega
theorem Jk{s:ByteArray}{i d:Nat}(h:Lib.NoAny (ah s) (ah dS) i)(hd:∀j,j<d->∃hj:i+j<s.size,128<=(s[i+j]'hj).toNat):Lib.NoAny (ah s) (ah dS) (i+d):=by
 intro j b hj hb;by_cases h1:j<i
 ·exact h j b h1 hb
 ·obtain⟨hj',h2⟩:=hd (j-i) (by omega);have e:i+(j-i)=j:=by omega
  simp only[e]at hj' h2;have e2:(ah s)[j]?=some (s[j]'hj'):=Lib.data_getElem? s j hj';rw[e2]at hb;cases hb
  exact P5 _ h2
theorem yM(s:ByteArray)(w:World)(h8:s.size<=8):Calls prog 80 #[.string s,.string dS] w λe w'=>e=.returned (.int .i64 (Lib.indexAny (ah s) (ah dS)))/\Below w.heap.size w w':=by
 have hsz:dS.size=7:=rfl;have hemp:dS.toList.isEmpty=false:=by rw[toList_eq];(first|done|rfl)
 have h8z:decide ((8:Int)<(s.size:Int))=false:=decide_eq_false (by omega);have Hr:Hid (∀(r:Int)(wx:World),128<=r->r<=2147483647->Calls prog 137 #[.string dS,.int .i32 r] wx λe w'=>e=.returned (.int .i64 (-1))/\Below wx.heap.size wx w'):=λr wx h1 h2=>yL r wx h1 h2;have Hs:Hid (∀{i d:Nat},Lib.NoAny (ah s) (ah dS) i->(∀j,j<d->∃hj:i+j<s.size,128<=(s[i+j]'hj).toNat)->Lib.NoAny (ah s) (ah dS) (i+d)):=λh hd=>Jk h hd;generalize dS=ch at *;go_enter func80,ntmps80;go_wp2_with (go_at_call 138;refine(Tryz.strings_shouldUseASCIISet _ _).mono ?_;rintro e w'⟨rfl,hw⟩;rw[hw,h8z]);go_loopg [9,10] s.size (λg _ _ wx=>∃i:Nat,i+g=s.size/\wx.heap[w.heap.size]?=some (.stringIter s i)/\Below w.heap.size w wx/\Lib.NoAny (ah s) (ah ch) i);case atStart=>exact⟨0,by omega,World.iter_heap _ _ _,yK _ _ _,Lib.NoAny.zero _ _⟩
 case round =>
  obtain⟨i,hig,hit,hbl,hno⟩:=hrel;have HN:Hid (Lib.NoAny (ah s) (ah ch) i):=hno;have HB:Hid (Below w.heap.size w wr):=hbl;have Hit:Hid (wr.heap[w.heap.size]?=some (.stringIter s i)):=hit;clear hno hbl;by_cases hi:i<s.size
  ·by_cases hx:(s[i]'hi).toNat<128
   ·have hnx:=λty=>run_next_ascii_at (P:=prog) wr w.heap.size s i ty hit hi hx;have Hx:Hid ((ah s)[i]?=some (s[i]'hi)):=Lib.data_getElem? s i hi;clear hit;generalize (s[i]'hi)=x at *;have hcon:(ah ch).contains x=decide (0<=Lib.indexByte ch.data.toList x):=Lib.contains_iff_indexByte ch.data.toList x;have hback:((x.toNat:Int)).toNat.toUInt8=x:=by simp
    have HW:Hid ((wr.iterAt w.heap.size s (i+1)).heap[w.heap.size]?=some (.stringIter s (i+1))/\Below w.heap.size w (wr.iterAt w.heap.size s (i+1))):=⟨iterAt_heap _ _ _ _ _ Hit.out,below_iterAt HB.out (Nat.le_refl _) _ _⟩;cases hin:(ah ch).contains x
    ·rw[hin]at hcon;have hlt:¬((0:Int)<=Lib.indexByte ch.data.toList x):=of_decide_eq_false hcon.symm;clear hcon;go_wp2_with (go_at_call 137;refine(Tryz.strings_IndexRune_ascii _ _ _ (by omega) (by omega)).mono ?_;rintro e w'⟨rfl,hw⟩;rw[hw,hback]);go_roundg (s.size-(i+1));case measure=>omega
     case rel=>exact⟨i+1,by omega,HW.out.1,HW.out.2,HN.out.succ Hx.out hin⟩
    ·rw[hin]at hcon;have hge:(0:Int)<=Lib.indexByte ch.data.toList x:=of_decide_eq_true hcon.symm;clear hcon;go_wp2_with (go_at_call 137;refine(Tryz.strings_IndexRune_ascii _ _ _ (by omega) (by omega)).mono ?_;rintro e w'⟨rfl,hw⟩;rw[hw,hback]);go_ret;exact⟨by rw[Lib.indexAny_hit HN.out Hx.out hin];rfl,HW.out.2⟩
   ·have hnx:=λty=>run_next_any_at (P:=prog) wr w.heap.size s i ty hit hi;have hhi:=decode_high s i hi (by omega);have hle:=decode_le s i;have XQ:Hid (_):=FB s i hi (by omega);clear hit;have Hd:Hid (i+(Utf8.decode s i).2<=s.size):=by obtain⟨hj,_⟩:=XQ.out ((Utf8.decode s i).2-1) (by omega);unfold Hid;omega
    generalize Utf8.decode s i=rd at *;obtain⟨r,d⟩:=rd;simp only at *;have hb1:Hid (Below w.heap.size w (wr.iterAt w.heap.size s (i+d))):=below_iterAt HB.out (Nat.le_refl _) _ _;have hi1:Hid ((wr.iterAt w.heap.size s (i+d)).heap[w.heap.size]?=some (.stringIter s (i+d))):=iterAt_heap _ _ _ _ _ Hit.out;generalize wr.iterAt w.heap.size s (i+d)=w2 at *;go_wp2_with (go_at_call 137;refine(Hr.out _ _ (by omega) (by omega)).mono ?_;rintro e w'⟨rfl,hb⟩);go_roundg (s.size-(i+d));case measure=>omega
    case rel =>
     have hlt2:w.heap.size<w2.heap.size:=(Array.getElem?_eq_some_iff.1 hi1.out).1;refine⟨i+d, ?_, ?_, ?_,Hs.out HN.out XQ.out⟩
     ·have:=Hd.out;omega
     ·exact(hb.block _ hlt2).trans hi1.out
     ·exact hb1.out.trans (hb.mono (by omega))
  ·have he:i=s.size:=by omega
   have hnx:=λty=>run_next_end_at (P:=prog) wr w.heap.size s i ty hit hi;clear hit;go_wp2;go_ret;exact⟨by rw[Lib.indexAny_none (by rw[aB,<- he];exact HN.out)];rfl,HB.out⟩
theorem Dy(s:ByteArray)(w:World)(hs:s.size<=1048576):Calls prog 80 #[.string s,.string dS] w λe w'=>e=.returned (.int .i64 (Lib.indexAny (ah s) (ah dS)))/\Below w.heap.size w w':=by
 by_cases h8:s.size<=8
 ·exact yM s w h8
 ·have hsz:dS.size=7:=rfl;have h116:(prog.info? 193).map (λi=>(i.zero,i.size))=some (some (.agg (Array.replicate 256 (.bool false))),256):=by kernel_rfl
  refine Calls.mono (Tryz.strings_IndexAny_long ?_ s dS w (by omega) (by omega) (by omega) (by omega) ?_) ?_
  ·exact(zero_of_info h116).1
  ·intro j b hj;exact uj b (List.mem_of_getElem? hj)
  ·rintro e w'⟨rfl,rfl⟩;exact⟨rfl,((Below.refl _ w).alloc (Nat.le_refl _) _).alloc (by simp) _⟩
theorem sK(c:UInt8):Thk.dG c=(ah dS).contains c:=by have e:ah dS=[43,45,94,95,61,62,33]:=rfl;rw[e,Bool.eq_iff_iff];simp only[Thk.dG,List.contains_cons,List.contains_nil,Bool.or_eq_true,beq_iff_eq,<- UInt8.toNat_inj,Bool.or_false];simp;omega
theorem AL(l:Thk.Bs):(l.findIdx Thk.dG=l.length/\Lib.indexAny l (ah dS) = -1)\/(∃h:l.findIdx Thk.dG<l.length,Lib.indexAny l (ah dS)=(l.findIdx Thk.dG:Int)/\Thk.dG (l[l.findIdx Thk.dG]'h)=true):=by
 rcases Nat.lt_or_ge (l.findIdx Thk.dG) l.length with h|h
 ·right;have ha:Thk.dG (l[l.findIdx Thk.dG]'h)=true:=List.findIdx_getElem (w:=h);refine⟨h, ?_,ha⟩;refine Lib.indexAny_hit (x:=l[l.findIdx Thk.dG]'h) ?_ (List.getElem?_eq_getElem h) (by rw[<- sK];exact ha);intro j b hj hb;have hjl:j<l.length:=by omega
  rw[List.getElem?_eq_getElem hjl]at hb;cases hb
  rw[<- sK];exact List.not_of_lt_findIdx hj
 ·left;have he:l.findIdx Thk.dG=l.length:=Nat.le_antisymm List.findIdx_le_length h;refine⟨he,Lib.indexAny_none ?_⟩;intro j b hj hb;rw[List.getElem?_eq_getElem hj]at hb;cases hb
  rw[<- sK];exact List.not_of_lt_findIdx (he▸hj)
def qO(c:Thk.Ch):Value:=.agg #[.string ⟨c.path.toArray⟩,.int .u8 (c.act.toNat:Int),.string (aC c.act ⟨c.val.toArray⟩),.int .i64 c.n]
def Dz:Value:=.agg #[.string ⟨#[]⟩,.int .u8 0,.string ⟨#[]⟩,.int .i64 0]
def KW:Nat ⊕ Thk.Ch->Value
 | .inl m=>.tuple #[Dz,.int .i64 m]
 | .inr c=>.tuple #[qO c,.int .i64 0]
theorem yN(s:ByteArray):(⟨(ah s).toArray⟩:ByteArray)=s:=by show(⟨s.data.toList.toArray⟩:ByteArray)=s;rw[Array.toArray_toList]
end Go.Proofs.YtfmmllpjgkgeaaaGreatDoor
namespace Go.Proofs.YtfmmllpjgkgeaaaGreatDoor
open Go.Proofs.Tryz Go.RowKit
variable{b:Nat}{a:UInt8}{w:World}
theorem eH.store{p:ByteArray}{v:ByteArray}{n:Int}(h:eH w b p a v n)(p':ByteArray)(a':UInt8)(v':ByteArray)(n':Int):eH ((((w.setCell ⟨b,0,none⟩ (.string p')).setCell ⟨b,1,none⟩ (.int .u8 (a'.toNat:Int))).setCell ⟨b,2,none⟩ (.string v')).setCell ⟨b,3,none⟩ (.int .i64 n')) b p' a' v' n' :=
 (((h.set0 p').set1 a').set2 v').Wu n'
theorem eH.DC{p:ByteArray}{v:ByteArray}{n:Int}(h:eH w b p a v n):eH ((((w.setCell ⟨b,0,none⟩ (.string ⟨#[]⟩)).setCell ⟨b,1,none⟩ (.int .u8 0)).setCell ⟨b,2,none⟩ (.string ⟨#[]⟩)).setCell ⟨b,3,none⟩ (.int .i64 0)) b ⟨#[]⟩ 0 ⟨#[]⟩ 0 :=
 h.store ⟨#[]⟩ 0 ⟨#[]⟩ 0
theorem jV{B:Nat}{a:World}(h:Below B a w)(hb:B<=b)(x y z u:Value):Below B a ((((w.setCell ⟨b,0,none⟩ x).setCell ⟨b,1,none⟩ y).setCell ⟨b,2,none⟩ z).setCell ⟨b,3,none⟩ u) :=
 (((h.setCell (p:=⟨b,0,none⟩) hb x).setCell (p:=⟨b,1,none⟩) hb y).setCell (p:=⟨b,2,none⟩) hb z).setCell (p:=⟨b,3,none⟩) hb u
theorem yO(s:ByteArray)(k:Nat):ah (s.extract 0 k)=(ah s).take k:=by show(s.extract 0 k).data.toList=s.data.toList.take k;rw[ByteArray.data_extract,Array.toList_extract];simp
theorem yP(s:ByteArray)(k:Nat):ah (s.extract k s.size)=(ah s).drop k:=by show(s.extract k s.size).data.toList=s.data.toList.drop k;rw[ByteArray.data_extract,Array.toList_extract];show(s.data.toList.drop k).take (s.size-k)=_;rw[List.take_of_length_le];simp
theorem AO(k:UInt8)(w:World):Calls prog 82 #[.int .u8 (k.toNat:Int)] w λe w'=>e=.returned (.string ⟨(pO k).toArray⟩)/\w'=w:=by refine(Ap k w).mono ?_;rintro e w'⟨t,rfl,ht,rfl⟩;exact⟨by rw[<- ht,yN],rfl⟩
theorem ML(k a:UInt8):Thk.fits k a=(pO k).contains a:=by
 unfold Thk.fits pO;have hc:∀n:Nat,((k.toNat:Int)=(n:Int))↔k.toNat=n:=λn=>by omega
 simp only[show((115:Int))=((115:Nat):Int)from rfl,show((102:Int))=((102:Nat):Int)from rfl,show((114:Int))=((114:Nat):Int)from rfl,show((99:Int))=((99:Nat):Int)from rfl,hc]
 repeat' split
 all_goals
  rw[Bool.eq_iff_iff];simp only[List.contains_cons,List.contains_nil,Bool.or_eq_true,beq_iff_eq,<- UInt8.toNat_inj,Bool.or_false];simp<;>omega
theorem FC{p:Thk.Bs}{v:Thk.Bs}{m:Nat}(h:Thk.operand p a v=.inl m):m=5:=by
 unfold Thk.operand at h;split at h
 ·split at h<;>simp_all
 ·split at h
  ·split at h<;>simp_all
  ·split at h<;>simp_all
theorem ql{p:Thk.Bs}{v:Thk.Bs}{c:Thk.Ch}(h:Thk.operand p a v=.inr c):c=⟨p,a,v,c.n⟩:=by
 unfold Thk.operand at h;split at h
 ·split at h
  ·simp only[Sum.inr.injEq]at h;subst h;rfl
  ·cases h
 ·split at h
  ·split at h
   ·simp only[Sum.inr.injEq]at h;subst h;rfl
   ·cases h
  ·split at h
   ·simp only[Sum.inr.injEq]at h;subst h;rfl
   ·cases h
theorem MN{B:Nat}{a c:World}(h:ay (λx=>x=b) a c)(hb:B<=b)(hs:B<=a.heap.size):Below B a c :=
 ⟨h.os,h.tape,h.output,h.size,λk hk=>h.block k (by omega) (by omega)⟩
theorem nP(a:UInt8)(t:ByteArray):(aC a t).size<=t.size:=by
 unfold aC;split
 ·exact Nat.le_refl _
 ·exact Nat.zero_le _
theorem um(s:ByteArray)(w:World)(hs:s.size<=1048576)(hG:Glob w):Calls prog 47 #[.string s] w λe w'=>e=.returned (KW (Thk.read (ah s)))/\Below w.heap.size w w':=by
 have Hi:Hid (_):=λwx=>Dy s wx hs;have Hz:Hid (eH (w.alloc (.cells #[.string ⟨#[]⟩,.int .u8 0,.string ⟨#[]⟩,.int .i64 0] 86)) w.heap.size ⟨#[]⟩ 0 ⟨#[]⟩ 0):=nO w ⟨#[]⟩ 0 ⟨#[]⟩ 0;have HzB:Hid (∀o,Below w.heap.size w (w.alloc o)):=λo=>(Below.refl _ w).alloc (Nat.le_refl _) o;have HG:Hid (Glob w):=hG;clear hG;rcases AL (ah s) with⟨hk,hx⟩|⟨hk,hx,ha⟩
 ·have Hr:Hid (Thk.read (ah s)=.inl 4):=by unfold Hid Thk.read;rw[if_pos hk]
  have Hx:Hid (Lib.indexAny (ah s) (ah dS) = -1):=hx;clear hx hk;go_enter func47,ntmps47;go_wp2_with fail;refine Calls.mono (Hi.out _) ?_;rintro e w1⟨rfl,hb1⟩;rw[Hx.out];have a1:=Hz.out.below hb1;have b1:Hid (Below w.heap.size w w1):=(HzB.out _).trans (hb1.mono (by simp));clear hb1;have x0:=a1.c0;have x1:=a1.c1;have x2:=a1.c2;have x3:=a1.c3;have xf:=a1.tag.frozen;have A1:Hid (eH w1 w.heap.size ⟨#[]⟩ 0 ⟨#[]⟩ 0):=a1;clear a1;go_wp2;have hF:=A1.out.DC;have hB:=jV b1.out (Nat.le_refl w.heap.size) (.string ⟨#[]⟩) (.int .u8 0) (.string ⟨#[]⟩) (.int .i64 0);generalize ((((w1.setCell ⟨w.heap.size,0,none⟩ (.string ⟨#[]⟩)).setCell ⟨w.heap.size,1,none⟩ (.int .u8 0)).setCell ⟨w.heap.size,2,none⟩ (.string ⟨#[]⟩)).setCell ⟨w.heap.size,3,none⟩ (.int .i64 0))=WF at *;exact bodyPost_ret (v:=.tuple #[Dz,.int .i64 4]) (by simp[results,Tryz.results47,go_sem,hF.c0,hF.c1,hF.c2,hF.c3,Dz]) rfl ⟨by rw[Hr.out];rfl,hB⟩
 ·have Hr:Hid (Thk.read (ah s)=Thk.iq (ah s) ((ah s).findIdx Thk.dG)):=by unfold Hid Thk.read;rw[if_neg (by omega)]
  have Hx:Hid (Lib.indexAny (ah s) (ah dS)=(((ah s).findIdx Thk.dG:Nat):Int)):=hx;clear hx ha;generalize (ah s).findIdx Thk.dG=k at *;rw[aB]at hk;have hk0:(0:Int)<=(k:Int):=by omega
  have hks:(k:Int)<=(s.size:Int):=by omega
  have hkn:¬((k:Int)<0):=by omega
  obtain⟨p,hp⟩:∃p,p=s.extract 0 k:=⟨_,rfl⟩;have Hp:Hid (ah p=(ah s).take k):=by unfold Hid;rw[hp,yO]
  have hps:p.size<=1048576:=by have:p.size=(ah p).length:=(aB p).symm;rw[this,Hp.out,List.length_take,aB];omega
  go_enter func47,ntmps47;go_wp2_with fail;refine Calls.mono (Hi.out _) ?_;rintro e w1⟨rfl,hb1⟩;rw[Hx.out];have b1:Hid (Below w.heap.size w w1):=(HzB.out _).trans (hb1.mono (by simp));have a1:Hid (eH w1 w.heap.size ⟨#[]⟩ 0 ⟨#[]⟩ 0):=Hz.out.below hb1;clear hb1;go_wp2_with fail;rw[<- hp];clear hp;obtain⟨m,hm⟩:=(HG.out.mono b1.out).len;have EJ:Hid (_):=tX p m w1 hps hm;clear hm;refine Calls.mono EJ.out ?_;rintro e w2⟨rfl,hb2⟩;have b2:Hid (Below w.heap.size w w2):=b1.out.trans (hb2.mono b1.out.size);have a2:Hid (eH w2 w.heap.size ⟨#[]⟩ 0 ⟨#[]⟩ 0):=a1.out.below hb2;clear hb2 EJ;cases hpa:Thk.path (ah p)
  ·have Hq:Hid (Thk.iq (ah s) k=.inl 4):=by unfold Hid Thk.iq;rw[if_pos (by rw[<- Hp.out];exact hpa)]
   have x0:=a2.out.c0;have x1:=a2.out.c1;have x2:=a2.out.c2;have x3:=a2.out.c3;have xf:=a2.out.tag.frozen;go_wp2;have hF:=a2.out.DC;have hB:=jV b2.out (Nat.le_refl w.heap.size) (.string ⟨#[]⟩) (.int .u8 0) (.string ⟨#[]⟩) (.int .i64 0);generalize ((((w2.setCell ⟨w.heap.size,0,none⟩ (.string ⟨#[]⟩)).setCell ⟨w.heap.size,1,none⟩ (.int .u8 0)).setCell ⟨w.heap.size,2,none⟩ (.string ⟨#[]⟩)).setCell ⟨w.heap.size,3,none⟩ (.int .i64 0))=WF at *;exact bodyPost_ret (v:=.tuple #[Dz,.int .i64 4]) (by simp[results,Tryz.results47,go_sem,hF.c0,hF.c1,hF.c2,hF.c3,Dz]) rfl ⟨by rw[Hr.out,Hq.out];rfl,hB⟩
  ·have hok:U7 true p=p:=rfl;rw[hok];have Hpa:Hid (Thk.path (ah p)=true):=hpa;clear hok hpa;have hkl:k<s.size:=hk;have hx1:((s[k]'hkl).toNat:Int).toNat.toUInt8=s[k]'hkl:=by simp
   obtain⟨ix,hix⟩:∃ix,ix=Lib.indexByte (pO (Thk.kindOf (ah p))) (s[k]'hkl):=⟨_,rfl⟩;have Hk1:Hid (∀wx,Calls prog 83 #[.string p] wx λe w'=>e=.returned (.int .u8 ((Thk.kindOf (ah p)).toNat:Int))/\w'=wx):=λwx=>E5 p wx hps Hpa.out;have MO:Hid (∀wx,Calls prog 82 #[.int .u8 ((Thk.kindOf (ah p)).toNat:Int)] wx λe w'=>e=.returned (.string ⟨(pO (Thk.kindOf (ah p))).toArray⟩)/\w'=wx):=λwx=>AO _ wx;have Hk3:Hid (∀wx,Calls prog 81 #[.string ⟨(pO (Thk.kindOf (ah p))).toArray⟩,.int .u8 ((s[k]'hkl).toNat:Int)] wx λe w'=>e=.returned (.int .i64 ix)/\w'=wx):=λwx=>by refine(Tryz.strings_IndexByte _ _ _).mono ?_;rintro e w'⟨rfl,rfl⟩;rw[hx1,hix];exact⟨rfl,rfl⟩
   have Wx:Hid (Thk.fits (Thk.kindOf (ah p)) (s[k]'hkl)=decide (0<=ix)):=by unfold Hid;rw[ML,hix];exact Lib.contains_iff_indexByte _ _
   clear hix;go_wp2_with fail
   go_quiet (first|(go_at_call 83;exact Calls.mono (Hk1.out _) (λ_ _ h=>⟨h.1,_,h.2⟩))|(go_at_call 82;exact Calls.mono (MO.out _) (λ_ _ h=>⟨h.1,_,h.2⟩))|(go_at_call 81;exact Calls.mono (Hk3.out _) (λ_ _ h=>⟨h.1,_,h.2⟩)))
   have b3:Hid (Below w.heap.size w (w2.drewN nq)):=below_drewN b2.out nq;have a3:Hid (eH (w2.drewN nq) w.heap.size ⟨#[]⟩ 0 ⟨#[]⟩ 0):=a2.out.below (below_drewN (Below.refl _ _) nq);have hgd:Hid ((ah s).getD k 0=s[k]'hkl):=by unfold Hid;rw[List.getD_eq_getElem?_getD,show(ah s)[k]?=some (s[k]'hkl)from Lib.data_getElem? s k hkl];(first|done|rfl)
   have Hpf:Hid (¬Thk.path ((ah s).take k)=false):=by unfold Hid;rw[<- Hp.out,Hpa.out];simp
   generalize w2.drewN nq=w3 at *;clear a1 a2 b1 b2 Hk1 MO Hk3;by_cases hlt:ix<0
   ·have Hq:Hid (Thk.iq (ah s) k=.inl 6):=by unfold Hid Thk.iq;rw[if_neg Hpf.out,hgd.out,<- Hp.out,Wx.out,if_pos (by simp;omega)]
    have x0:=a3.out.c0;have x1:=a3.out.c1;have x2:=a3.out.c2;have x3:=a3.out.c3;have xf:=a3.out.tag.frozen;go_wp2;have hF:=a3.out.DC;have hB:=jV b3.out (Nat.le_refl w.heap.size) (.string ⟨#[]⟩) (.int .u8 0) (.string ⟨#[]⟩) (.int .i64 0);generalize ((((w3.setCell ⟨w.heap.size,0,none⟩ (.string ⟨#[]⟩)).setCell ⟨w.heap.size,1,none⟩ (.int .u8 0)).setCell ⟨w.heap.size,2,none⟩ (.string ⟨#[]⟩)).setCell ⟨w.heap.size,3,none⟩ (.int .i64 0))=WF at *;exact bodyPost_ret (v:=.tuple #[Dz,.int .i64 6]) (by simp[results,Tryz.results47,go_sem,hF.c0,hF.c1,hF.c2,hF.c3,Dz]) rfl ⟨by rw[Hr.out,Hq.out];rfl,hB⟩
   ·have Hq:Hid (Thk.iq (ah s) k=Thk.operand (ah p) (s[k]'hkl) ((ah s).drop (k+1))):=by unfold Hid Thk.iq;rw[if_neg Hpf.out,hgd.out,<- Hp.out,Wx.out,if_neg (by simp;omega)]
    have hwr:IntKind.i64.wrap ((k:Int)+1)=(k:Int)+1:=wrap_small _ (by omega) (by omega);have hle:(k:Int)+1<=(s.size:Int):=by omega
    have hle0:(0:Int)<=(k:Int)+1:=by omega
    go_wp2_with fail;obtain⟨t,ht⟩:∃t,t=s.extract (k+1) s.size:=⟨_,rfl⟩;have Ht:Hid (ah t=(ah s).drop (k+1)):=by unfold Hid;rw[ht,yP]
    have hts:t.size<=1048576:=by have:t.size=(ah t).length:=(aB t).symm;rw[this,Ht.out,List.length_drop,aB];omega
    rw[<- ht];clear ht;rw[<- Ht.out]at Hq;clear hgd Wx hx1;generalize (s[k]'hkl)=a at *;have hB3:Hid (w.heap.size<w3.heap.size):=a3.out.tag.lt;have bz:Hid (Below w.heap.size w (w3.alloc (.cells #[.string p,.int .u8 (a.toNat:Int),.string ⟨#[]⟩,.int .i64 0] 86))):=b3.out.alloc (Nat.le_of_lt hB3.out) _;have az:Hid (eH (w3.alloc (.cells #[.string p,.int .u8 (a.toNat:Int),.string ⟨#[]⟩,.int .i64 0] 86)) w.heap.size ⟨#[]⟩ 0 ⟨#[]⟩ 0):=a3.out.below ((Below.refl _ _).alloc (Nat.le_refl _) _);refine Calls.mono (wZ w3.heap.size p a t _ hts ((HG.out.mono bz.out)) (nO w3 p a ⟨#[]⟩ 0)) ?_;rintro e w4⟨rfl,hc,wX⟩;have b4:Hid (Below w.heap.size w w4):=bz.out.trans (MN wX (Nat.le_of_lt hB3.out) bz.out.size);have a4:Hid (eH w4 w.heap.size ⟨#[]⟩ 0 ⟨#[]⟩ 0):=az.out.aJ wX (Nat.ne_of_lt hB3.out);clear wX;have x0:=a4.out.c0;have x1:=a4.out.c1;have x2:=a4.out.c2;have x3:=a4.out.c3;have xf:=a4.out.tag.frozen;cases hop:Thk.operand (ah p) a (ah t) with
    | inl m =>have Tz:=FC hop;subst Tz;have Hop:Hid (Thk.operand (ah p) a (ah t)=.inl 5):=hop;clear hop hc;have XW:(Sum.inl 5:Nat ⊕ Thk.Ch).isRight=false:=rfl;rw[XW];go_wp2;have hF:=a4.out.DC;have hB:=jV b4.out (Nat.le_refl w.heap.size) (.string ⟨#[]⟩) (.int .u8 0) (.string ⟨#[]⟩) (.int .i64 0);generalize ((((w4.setCell ⟨w.heap.size,0,none⟩ (.string ⟨#[]⟩)).setCell ⟨w.heap.size,1,none⟩ (.int .u8 0)).setCell ⟨w.heap.size,2,none⟩ (.string ⟨#[]⟩)).setCell ⟨w.heap.size,3,none⟩ (.int .i64 0))=WF at *;exact bodyPost_ret (v:=.tuple #[Dz,.int .i64 5]) (by simp[results,Tryz.results47,go_sem,hF.c0,hF.c1,hF.c2,hF.c3,Dz]) rfl ⟨by rw[Hr.out,Hq.out,Hop.out];rfl,hB⟩
    | inr c =>
     have hcc:=ql hop;have Hop:Hid (Thk.operand (ah p) a (ah t)=.inr c):=hop;have y:=hc c hop;have XW:(Sum.inr c:Nat ⊕ Thk.Ch).isRight=true:=rfl;rw[XW];clear hop hc XW;have Hv:Hid (qO c=.agg #[.string p,.int .u8 (a.toNat:Int),.string (aC a t),.int .i64 c.n]):=by unfold Hid qO;rw[hcc];simp only[yN]
     clear hcc;have hvs:(aC a t).size<=1048576:=Nat.le_trans (nP a t) hts;generalize aC a t=v at *;generalize c.n=n at *;have y0:=y.c0;have y1:=y.c1;have y2:=y.c2;have y3:=y.c3;clear y;go_wp2_with fail;refine Calls.mono (Jj p a v n w4 hps hvs) ?_;rintro e w5⟨rfl,hb5⟩;have b5:Hid (Below w.heap.size w w5):=b4.out.trans (hb5.mono b4.out.size);have a5:Hid (eH w5 w.heap.size ⟨#[]⟩ 0 ⟨#[]⟩ 0):=a4.out.below hb5;clear hb5 x0 x1 x2 x3 xf y0 y1 y2 y3;have x0:=a5.out.c0;have x1:=a5.out.c1;have x2:=a5.out.c2;have x3:=a5.out.c3;have xf:=a5.out.tag.frozen;go_wp2;have hF:=a5.out.store p a v n;have hB:=jV b5.out (Nat.le_refl w.heap.size) (.string p) (.int .u8 (a.toNat:Int)) (.string v) (.int .i64 n);generalize ((((w5.setCell ⟨w.heap.size,0,none⟩ (.string p)).setCell ⟨w.heap.size,1,none⟩ (.int .u8 (a.toNat:Int))).setCell ⟨w.heap.size,2,none⟩ (.string v)).setCell ⟨w.heap.size,3,none⟩ (.int .i64 n))=WF at *;exact bodyPost_ret (v:=.tuple #[.agg #[.string p,.int .u8 (a.toNat:Int),.string v,.int .i64 n],.int .i64 0]) (by simp[results,Tryz.results47,go_sem,hF.c0,hF.c1,hF.c2,hF.c3]) rfl ⟨by rw[Hr.out,Hq.out,Hop.out];show _=Ending.returned (.tuple #[qO c,.int .i64 0]);rw[Hv.out],hB⟩
end Go.Proofs.YtfmmllpjgkgeaaaGreatDoor
namespace Go.Proofs.YtfmmllpjgkgeaaaGreatDoor
open Go.Proofs.Tryz Go.RowKit Go.Maps Go.ChangeMaps Go.MapKept
theorem bM.count{P:Program}{k:TypeId}{w:World}{b N:Nat}{m:Value->Option Value}(h:bM P k w b N m)(K:Keyed P k):∃l:List Value,l.Nodup/\l.length=N/\∀key,key∈l↔m key≠none:=by
 obtain⟨D,h1,h2,h3⟩:=h;obtain⟨es,clock,hb,F,hs,rfl⟩:=h1;refine⟨es.toList.map (·.key), ?_, ?_,λkey=>⟨λhk=>?_,λhk=>?_⟩⟩
 ·rw[List.nodup_iff_pairwise_ne,List.pairwise_map];exact((stamped_iff es clock).1 F.stamped).2.2
 ·rw[<- h2];simp only[Maps.size,length_sorted,List.length_map,Array.length_toList]
 ·obtain⟨x,hx,rfl⟩:=List.mem_map.1 hk;obtain⟨y,hy⟩:=F.reads x hx;have hkey:=WideElems.rd_key hy;have hh:=(h3.1 _ _ hkey).1;have:Maps.has (DataW.map ((es.toList.map (WideElems.rg P k Ik)).foldr DataW.insert [])) y.1=true :=
   List.any_eq_true.2 ⟨WideElems.rg P k Ik x,mem_sorted.2 (List.mem_map.2 ⟨x,hx,rfl⟩),by rw[WideElems.rg_of hy];exact WideAt.sameKey_self (K.key hkey)⟩
  rw[this]at hh;intro e;rw[e]at hh;cases hh
 ·have hs:(m key).isSome=true:=by cases hm:m key with
   | none=>exact absurd hm hk
   | some v=>rfl
  obtain⟨kl,hkl⟩:=h3.2 key hs;have hh:=(h3.1 _ _ hkl).1;rw[hs]at hh;obtain⟨p,hp,hpk⟩:=List.any_eq_true.1 hh;obtain⟨x,hx,rfl⟩:=List.mem_map.1 (mem_sorted.1 hp);obtain⟨y,hy⟩:=F.reads x hx;rw[WideElems.rg_of hy]at hpk;have e:=WideAt.sameKey_eq hpk;have hkey:=WideElems.rd_key hy;rw[e]at hkey;exact List.mem_map.2 ⟨x,hx,K.inj hkey hkl⟩
open Go.WideElems (Fit rd rg pl rd_key rd_val rg_of other_key rd_mk)
variable{P:Program}{k:TypeId}{w:World}{b r N cnt:Nat}{m:Value->Option Value}{left:Value->Prop}
