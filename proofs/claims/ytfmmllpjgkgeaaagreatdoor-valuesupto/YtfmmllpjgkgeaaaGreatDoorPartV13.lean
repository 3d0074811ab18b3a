import Derived.Lib.AppendStr
import Derived.Test.YtfmmllpjgkgeaaaGreatDoorPartV11
set_option linter.unusedVariables false
set_option linter.unusedSimpArgs false
set_option maxHeartbeats 16000000
set_option maxRecDepth 100000
namespace Go.Proofs.YtfmmllpjgkgeaaaGreatDoor

def encN (n:Nat):Thk.Bs:=if n<128 then [UInt8.ofNat n] else [UInt8.ofNat (n % 128+128),UInt8.ofNat (n / 128)]
def encD (d:Nat):Thk.Bs:=encN (who d) ++ encN (nth d)
def encR (r:Nat × Nat):Thk.Bs:=encD r.1 ++ encN r.2
def encI (x:Nat × Thk.Bs):Thk.Bs:=encD x.1 ++ encN x.2.length ++ x.2
def encS (rs:List (Nat × Nat)) (its:List (Nat × Thk.Bs)):Thk.Bs:=encN rs.length ++ rs.flatMap encR ++ encN its.length ++ its.flatMap encI
def runD (r:Nat × Nat):List Nat:=(List.range r.2).map (fun k=>r.1+k)
def flatR (rs:List (Nat × Nat)):List Nat:=rs.flatMap runD
theorem runD_succ (d m:Nat):runD (d,m+1)=runD (d,m) ++ [d+m]:=by simp[runD,List.range_succ]
theorem flatR_snoc (rs:List (Nat × Nat)) (r:Nat × Nat):flatR (rs ++ [r])=flatR rs ++ runD r:=by simp[flatR]
theorem who_add {d k:Nat} (h:nth d+k<512):who (d+k)=who d:=by unfold who nth at *;omega
theorem nth_add {d k:Nat} (h:nth d+k<512):nth (d+k)=nth d+k:=by unfold nth at *;omega
theorem encN_one {n:Nat} (h:n<128):encN n=[UInt8.ofNat n]:=if_pos h
theorem encN_two {n:Nat} (h:¬n<128):encN n=[UInt8.ofNat (n % 128+128),UInt8.ofNat (n / 128)]:=if_neg h
theorem encN_len (n:Nat):1<=(encN n).length/\(encN n).length<=2:=by unfold encN;split <;> simp
end Go.Proofs.YtfmmllpjgkgeaaaGreatDoor
namespace Go.Proofs.YtfmmllpjgkgeaaaGreatDoor

theorem ofInt_nat (k n:Nat) (h:n<2 ^ k):(BitVec.ofInt k (n:Int)).toNat=n:=by
 rw[BitVec.toNat_ofInt]
 have h2:((2 ^ k:Nat):Int)=(2:Int) ^ k:=by simp
 rw[Int.emod_eq_of_lt (by omega) (by omega)]
 exact Int.toNat_natCast n
theorem bits_and_nat (k:IntKind) (x y:Nat) (hx:x<2 ^ k.bits) (hy:y<2 ^ k.bits):bits .and k (x:Int) (y:Int)=k.wrap ((x &&& y:Nat):Int):=by
 show k.wrap _=_
 rw[BitVec.toNat_and,ofInt_nat _ _ hx,ofInt_nat _ _ hy]
theorem bits_or_nat (k:IntKind) (x y:Nat) (hx:x<2 ^ k.bits) (hy:y<2 ^ k.bits):bits .or k (x:Int) (y:Int)=k.wrap ((x ||| y:Nat):Int):=by
 show k.wrap _=_
 rw[BitVec.toNat_or,ofInt_nat _ _ hx,ofInt_nat _ _ hy]
theorem wrap_i64 (n:Nat) (h:n<9223372036854775808):IntKind.i64.wrap (n:Int)=n:=by
 simp[IntKind.wrap,IntKind.bits,IntKind.signed];omega
theorem wrap_u8 (n:Nat) (h:n<256):IntKind.u8.wrap (n:Int)=n:=by
 simp[IntKind.wrap,IntKind.bits,IntKind.signed];omega
theorem and127 (n:Nat):n &&& 127=n % 128:=Nat.and_two_pow_sub_one_eq_mod n 7
theorem or_add (a b:Nat) (h:a<128):a ||| (b*128)=a+b*128:=by
 have:=Nat.two_pow_add_eq_or_of_lt (i:=7) (b:=a) h b
 rw[Nat.or_comm,<- Nat.mul_comm 128 b]
 rw[show (2:Nat) ^ 7=128 from rfl] at this
 omega
theorem low_i64 (n:Nat) (h:n<4611686018427387904):bits .and .i64 (n:Int) 127=((n % 128:Nat):Int):=by
 have:=bits_and_nat .i64 n 127 (Nat.lt_of_lt_of_le h (by decide)) (by decide)
 rw[and127,wrap_i64 _ (by omega)] at this
 exact this
theorem more_i64 (n:Nat) (h:n<128):bits .or .i64 (n:Int) 128=((n+128:Nat):Int):=by
 have:=bits_or_nat .i64 n 128 (Nat.lt_of_lt_of_le h (by decide)) (by decide)
 have e:=or_add n 1 h
 rw[show (128:Nat)=1*128 from rfl,e,wrap_i64 _ (by omega)] at this
 exact this
theorem low_u8 (n:Nat) (h:n<256):bits .and .u8 (n:Int) 127=((n % 128:Nat):Int):=by
 have:=bits_and_nat .u8 n 127 h (by decide)
 rw[and127,wrap_u8 _ (by omega)] at this
 exact this
theorem top_u8 (n:Nat) (h:n<256):bits .and .u8 (n:Int) 128=if n<128 then 0 else 128:=by
 have hall:∀ m:Fin 256,bits .and .u8 ((m.val:Nat):Int) 128=if m.val<128 then 0 else 128:=by decide +kernel
 exact hall ⟨n,h⟩
end Go.Proofs.YtfmmllpjgkgeaaaGreatDoor
namespace Go.Proofs.YtfmmllpjgkgeaaaGreatDoor
open Go.RowKit Go.Maps

theorem Tryz.infoU8:(Tryz.prog.info? 5).map (fun i=>(i.zero,i.size,i.bytes))=some (some (.int .u8 0),1,1):=by kernel_rfl
def bsV (l:Thk.Bs):List Value:=l.map fun b=>.int .u8 (b.toNat:Int)
theorem bsV_app (l m:Thk.Bs):bsV (l ++ m)=bsV l ++ bsV m:=by simp[bsV]
theorem bsV_len (l:Thk.Bs):(bsV l).length=l.length:=by simp[bsV]
def OutV (B:Nat) (w:World) (v:Value) (l:Thk.Bs):Prop:=w.ownsRow B 5 1 v l.length (bsV l)
def U8 (w:World) (k:Nat):Prop:=∃ cs fz,w.heap[k]? = some (.cells cs 5 fz)
def OutF (B:Nat) (w w':World):Prop:=Chg (fun k=>B<=k/\U8 w k) w w'
theorem OutF.refl (B:Nat) (w:World):OutF B w w:=Chg.refl _ w
theorem OutF.trans {B:Nat} {a b c:World} (h:OutF B a b) (k:OutF B b c):OutF B a c:=by
 have hs:=h.size
 refine ⟨k.os.trans h.os,k.tape.trans h.tape,k.output.trans h.output,Nat.le_trans hs k.size,fun i hi hm=>?_⟩
 have e:=h.block i hi hm
 refine (k.block i (Nat.lt_of_lt_of_le hi hs) (fun hk=>?_)).trans e
 obtain ⟨h1,cs,fz,h2⟩:=hk
 exact hm ⟨h1,cs,fz,e ▸ h2⟩
theorem OutF.of_below {B:Nat} {w w':World} (hb:Below w.heap.size w w'):OutF B w w':=Chg.of_below hb
theorem OutF.app {B:Nat} {w w':World} {o:Obj} {v:Value} {l:Thk.Bs} (h:OutV B w v l) (hg:(w.alloc o).grownBy w' v.ownBlock):OutF B w w':=by
 refine (Chg.of_below ((Below.refl _ w).alloc (Nat.le_refl _) o):Chg (fun k=>B<=k/\U8 w k) w (w.alloc o)).grown hg (fun k e=>Or.inl ?_)
 rcases h.2 with ⟨rfl,_⟩ | ⟨g,cap,cur,rfl,hB,hg,_⟩
 ·cases e
 ·cases e;exact ⟨hB,cur,_,hg⟩
theorem OutF.app0 {B:Nat} {w w':World} {v:Value} {l:Thk.Bs} (h:OutV B w v l) (hg:w.grownBy w' v.ownBlock):OutF B w w':=by
 refine (Chg.refl _ w).grown hg (fun k e=>Or.inl ?_)
 rcases h.2 with ⟨rfl,_⟩ | ⟨g,cap,cur,rfl,hB,hg,_⟩
 ·cases e
 ·cases e;exact ⟨hB,cur,_,hg⟩
theorem OutF.blk {B:Nat} {w w':World} {b:Nat} {cs:Array Value} {t:TypeId} (h:OutF B w w') (k:Blk w b cs t) (ht:t≠5):Blk w' b cs t:=by
 refine k.chg h (fun hm=>?_)
 obtain ⟨_,cs',fz,h2⟩:=hm
 rw[show w.heap[b]? = _ from k] at h2
 cases h2
 exact ht rfl
theorem OutF.below {B:Nat} {w w':World} (h:OutF B w w') (hB:B<=w.heap.size):Below B w w':=⟨h.os,h.tape,h.output,h.size,fun k hk=>h.block k (by omega) (fun hm=>by have:=hm.1;omega)⟩
theorem OutV.heap {B:Nat} {w w':World} {v:Value} {l:Thk.Bs} (h:OutV B w v l) (e:w'.heap=w.heap):OutV B w' v l:=by
 unfold OutV World.ownsRow at h ⊢
 rw[e]
 exact h
theorem OutV.nil (B:Nat) (w:World):OutV B w (.slice none 0 0) []:=World.ownsRow_nil _ _ _ _


theorem strCells_bsV (s:ByteArray):Lib.strCells s=bsV (toL s):=by
 unfold Lib.strCells bsV toL
 rfl

end Go.Proofs.YtfmmllpjgkgeaaaGreatDoor
namespace Go.Proofs.YtfmmllpjgkgeaaaGreatDoor
open Go.RowKit Go.Maps Go.WideMaps

abbrev runV (d m:Nat):Value:=.agg #[.int .i64 (who d:Int),.int .i64 (nth d:Int),.int .i64 (m:Int)]

theorem at_any (w:World) (d m k:Nat) (hk:nth d+k<512) :
  Calls Tryz.prog 243 #[runV d m,.int .i64 (k:Int)] w fun e w'=>e=.returned (dotE (d+k))/\Below w.heap.size w w':=by
 unfold dotE runV
 rw[who_add hk,nth_add hk]
 generalize who d=a at *
 generalize nth d=n at *
 have hkr:=Blk.new (w.alloc (.cells #[.int .i64 (a:Int),.int .i64 (n:Int),.int .i64 (m:Int)] 250)) #[.int .i64 0,.int .i64 0] 134
 rw[World.size_alloc] at hkr
 have r0:=(hkr.cell 0).trans rfl
 have r1:=(hkr.cell 1).trans rfl
 have f0:=hkr.frozen
 have hwr:wrap64 ((n:Int)+(k:Int))=(n:Int)+(k:Int):=by unfold wrap64;omega
 clear hkr
 go_enter Tryz.func243,Tryz.ntmps243
 go_wp2_with fail
 refine bodyPost_ret (v:=.agg #[.int .i64 (a:Int),.int .i64 ((n+k:Nat):Int)]) (by simp[results,Tryz.results243,go_sem,r0,r1,hwr,cs_same,cs_oth,World.cell?_setCell_other]) rfl ⟨rfl,by go_grown⟩

theorem Dots_any (w:World) (d m:Nat) (hm:nth d+m<=512) :
  Calls Tryz.prog 184 #[runV d m] w fun e w'=>∃ v,e=.returned v/\w'.ownsRow w.heap.size 134 2 v m (dcells (runD (d,m)))/\Below w.heap.size w w':=by
 obtain ⟨i0,hi,hz0,hz1,hz2⟩:=info_parts Tryz.infoDot
 have hnd:=nth_lt d
 have kb:=Blk.new w #[.int .i64 (who d:Int),.int .i64 (nth d:Int),.int .i64 (m:Int)] 250
 have hb0:Below w.heap.size w (w.alloc (.cells #[.int .i64 (who d:Int),.int .i64 (nth d:Int),.int .i64 (m:Int)] 250)):=(Below.refl _ w).alloc (Nat.le_refl _) _
 go_enter Tryz.func184,Tryz.ntmps184
 generalize hw0:w.alloc (.cells #[.int .i64 (who d:Int),.int .i64 (nth d:Int),.int .i64 (m:Int)] 250)=w0 at *
 have c2:w0.cell? ⟨w.heap.size,2,none⟩=some (.int .i64 (m:Int)):=(kb.cell 2).trans rfl
 go_wp2_with fail
 go_loopg [3,7] m (fun g v3 v7 wx=>∃ i:Nat,i+g=m/\v7=.int .i64 (i:Int)/\wx.ownsRow w.heap.size 134 2 v3 i (dcells (runD (d,i)))/\Below w.heap.size w wx/\Blk wx w.heap.size #[.int .i64 (who d:Int),.int .i64 (nth d:Int),.int .i64 (m:Int)] 250)
 case atStart=>exact ⟨0,by omega,rfl,World.ownsRow_nil _ _ _ _,hb0,kb⟩
 case round =>
  obtain ⟨i,hig,rfl,hown,hb,hk⟩:=hrel
  have HO:Hid (wr.ownsRow w.heap.size 134 2 u3 i (dcells (runD (d,i)))):=hown
  have HB:Hid (Below w.heap.size w wr):=hb
  have HK:Hid (Blk wr w.heap.size #[.int .i64 (who d:Int),.int .i64 (nth d:Int),.int .i64 (m:Int)] 250):=hk
  by_cases him:i<m
  ·have k0:=(hk.cell 0).trans rfl
   have k1:=(hk.cell 1).trans rfl
   have k2:=(hk.cell 2).trans rfl
   have Hat:Hid (_):=at_any wr d m i (by omega)
   have HE:Hid (dcells (runD (d,i+1))=dcells (runD (d,i)) ++ [.int .i64 (who (d+i):Int),.int .i64 (nth (d+i):Int)]):=by unfold Hid;rw[runD_succ,dcells_snoc]
   clear hown hb hk kb hb0 c2
   generalize d+i=x at *
   go_wp2_with fail
   refine Calls.mono Hat.out ?_
   rintro e w1 ⟨rfl,hb1⟩
   have hB1:Below w.heap.size w w1:=HB.out.trans (hb1.mono HB.out.size)
   have hO1:w1.ownsRow w.heap.size 134 2 u3 i (dcells (runD (d,i))):=own_below HO.out hb1
   have hK1:=HK.out.below hb1
   have HO1:Hid (∀ o,(w1.alloc o).ownsRow w.heap.size 134 2 u3 i (dcells (runD (d,i)))):=fun o=>hO1.alloc o
   have HX:Hid (w1.ownsRow w.heap.size 134 2 u3 i (dcells (runD (d,i)))/\Below w.heap.size w w1/\Blk w1 w.heap.size #[.int .i64 (who d:Int),.int .i64 (nth d:Int),.int .i64 (m:Int)] 250):=⟨hO1,hB1,hK1⟩
   have hw1:w.heap.size<=w1.heap.size:=hB1.size
   have h63:i+1<=maxLen:=by unfold maxLen;omega
   have h64:(i+1)*16<=140737488355328:=by omega
   have Hcn:Hid (∀ j u,([.int .i64 (who x:Int),.int .i64 (nth x:Int)]:List Value)[j]? = some u->(w1.alloc (.cells #[.int .i64 (who x:Int),.int .i64 (nth x:Int)] 134)).cell? ((⟨w1.heap.size,0,none⟩:Addr).add j)=some u):=fun j u hj=>by
    match j,hj with
    | 0,hj=>cases hj;simp[Addr.add]
    | 1,hj=>cases hj;simp[Addr.add]
   clear hO1 hB1 hK1 hb1 HO HB HK Hat k0 k1 k2
   go_wp2_with (first | (at_builtin;refine wpList_append_own_at _ rfl (.tmp 10) (.tmp 14) 137 rfl w.heap.size 134 i0 (.agg #[.int .i64 0,.int .i64 0]) 2 16 Tryz.underlying137 hi hz0 hz1 hz2 rfl (by decide) _ _ _ rfl (HO1.out _) ⟨w1.heap.size,0,none⟩ 1 1 [.int .i64 (who x:Int),.int .i64 (nth x:Int)] rfl rfl Hcn.out (by simp[Value.oneCell']) h63 h64 (by simp;omega) ?_;intro v6 w6 ho6 hg6 hn6 hl6))
   have hb6:Below w.heap.size w w6:=grown_below HX.out.2.1 (Nat.le_refl _) HX.out.1 hg6
   have hk6:Blk w6 w.heap.size #[.int .i64 (who d:Int),.int .i64 (nth d:Int),.int .i64 (m:Int)] 250:=by
    refine ((HX.out.2.2.alloc _).chg (M:=fun k=>u3.ownBlock=some k) ((Chg.refl _ _).grown hg6 (fun k e=>Or.inl e)) (fun e=>?_))
    exact ownsRow_ne HX.out.1 (fun cur fz h=>by rw[show w1.heap[w.heap.size]? = _ from HX.out.2.2] at h;cases h) e
   go_roundg (m-(i+1))
   case measure=>omega
   case rel=>exact ⟨i+1,by omega,by go_num,by rw[HE.out];exact ho6,hb6,hk6⟩
  ·clear hown hb hk kb hb0 c2
   have e:i=m:=by omega
   subst e
   go_wp2_with fail
   go_ret
   exact ⟨_,rfl,HO.out,HB.out⟩
end Go.Proofs.YtfmmllpjgkgeaaaGreatDoor
namespace Go.Proofs.YtfmmllpjgkgeaaaGreatDoor
open Go.RowKit Go.Maps Go.WideMaps Go.Shelf

attribute [local go_sem] Oper.semAt_some

theorem LKeys_any (w:World) (io:Option Nat):Calls Tryz.prog 256 #[.map io] w fun e w'=>e=.returned (.func (.func 282) #[] #[.pointer (some ⟨w.heap.size,0,none⟩)])/\w'=w.alloc (.cells #[.map io] 98):=by
 go_enter Tryz.func256,Tryz.ntmps256
 go_wp2
 go_ret
 exact ⟨rfl,rfl⟩

theorem LKeys1_iter (w0:World) (kb:Nat) (io:Option Nat) (It:Nat->Option Value) (N:Nat) (hk:Blk w0 kb #[.map io] 98) (hM:MapO Tryz.prog 134 w0 (.map io) N (im It)) (h501:∀ n,It n≠none->okD n) :
  Iter Tryz.prog 282 #[.pointer (some ⟨kb,0,none⟩)] (fun n:Nat=>#[Value.agg #[.int .i64 (who n:Int),.int .i64 (nth n:Int)]]) (AllOf It) (fun k=>k=kb\/io=some k) w0:=by
 intro l J Jx W hE hJ hJx hY h0
 have hkb:Blk W kb #[.map io] 98:=(hE.2 kb (Or.inl rfl)).trans hk
 have c0:W.cell? ⟨kb,0,none⟩=some (.map io):=(hkb.cell 0).trans rfl
 have hMW:MapO Tryz.prog 134 W (.map io) N (im It):=by
  rcases hM with h | ⟨b,hb,h⟩
  ·exact Or.inl h
  ·exact Or.inr ⟨b,hb,h.block (hE.2 b (Or.inr (by cases hb;rfl)))⟩
 have hlt:∀ k,(k=kb\/io=some k)->k<W.heap.size:=by
  rintro k (rfl | h)
  ·exact hkb.lt
  ·exact hMW.lt k (by rw[h])
 clear hM hk
 refine callsIn_of_wp Tryz.func282 rfl trivial ?_ rfl
 simp only[Tryz.ntmps282,List.size_toArray,List.length_cons,List.length_nil,Nat.reduceAdd,Nat.reduceSub,Array.replicate_succ,Array.replicate_zero,List.push_toArray,List.append_toArray,List.nil_append,List.cons_append]
 gi_wp2_with (first | (gi_at_range;refine wpListIn_rangeO rfl (.tmp 4) 98 rfl 69 kDot Tryz.underlying98 rfl hMW ?_;intro w1 hr1 hg1 hs1;go_frame))
 obtain ⟨T,hT⟩:∃ T:Nat->Prop,T=fun k=>k=W.heap.size:=⟨_,rfl⟩
 have hJ1:J T [] w1:=hJ _ _ _ _ _ h0 ((Chg.refl _ W).grown hg1 (fun k e=>by cases e)) (fun k hk=>by rw[hT] at hk;subst hk;exact ⟨Or.inr (Nat.le_refl _),by omega⟩)
 gi_loopw [3] (fun _ wx=>∃ (left:Value->Prop) (q:Nat) (pre:List Nat),RangeO Tryz.prog 134 wx (.map io) W.heap.size N (im It) left q/\J T pre wx/\pre.Nodup/\∀ k,k∈pre↔It k≠none/\¬left (dotE k)) (fun _ wx=>leftO (.map io) W.heap.size wx)
 case atStart =>
  refine ⟨_,_,[],hr1,hJ1,List.Pairwise.nil,fun k=>?_⟩
  simp only[List.not_mem_nil,false_iff,im_dot]
  rintro ⟨h1,h2⟩
  exact h2 (Option.isSome_iff_ne_none.2 h1)
 case round =>
  obtain ⟨left,q,pre,hR,hJp,hnd,hmem⟩:=hrel
  clear hr1 hJ1
  have HR:Hid (RangeO Tryz.prog 134 wr (.map io) W.heap.size N (im It) left q):=hR
  have Hsh:Hid (∀ key v,left key->im It key=some v->∃ x:Nat × Value,key=(fun x:Nat × Value=>dotE x.1) x/\v=(fun x:Nat × Value=>x.2) x):=fun key v _ hk=>by obtain ⟨n,h1,h2⟩:=im_shape hk;exact ⟨(n,v),h1,rfl⟩
  have HJp:Hid (J T pre wr):=hJp
  have Hm:Hid (pre.Nodup/\∀ k,k∈pre↔It k≠none/\¬left (dotE k)):=⟨hnd,hmem⟩
  have hrl:W.heap.size<wr.heap.size:=hR.lt
  clear hR hJp hnd hmem
  gi_wp2_with (first | (gi_at_next;refine wpListIn_nextO rfl (.tmp 5) rfl kDot (fun x:Nat × Value=>dotE x.1) (fun x:Nat × Value=>x.2) rfl HR.out Hsh.out ?_ ?_))
  ·intro hl0
   gi_wp2
   go_end0
   refine ⟨⟨_,rfl⟩,Or.inl ⟨pre,⟨Hm.out.1,fun n=>?_⟩,T,HJp.out⟩⟩
   rw[Hm.out.2 n]
   exact ⟨fun h=>h.1,fun h=>⟨h,hl0 _⟩⟩
  ·intro n v w4 q4 hlk hmk hR4 hlt4 hg4 hs4 hen4
   have hIn:It n≠none:=by rw[<- im_dot It n];exact fun e=>by rw[show dotE n=_ from rfl] at e;rw[hmk] at e;cases e
   have hch:Chg T wr (w4.alloc (.cells #[.int .i64 (who n:Int),.int .i64 (nth n:Int)] 134)):=((Chg.refl T wr).grown hg4 (fun k e=>by cases e;left;rw[hT])).below ((Below.refl _ w4).alloc (Nat.le_refl _) _)
   have hJ5:J T pre (w4.alloc (.cells #[.int .i64 (who n:Int),.int .i64 (nth n:Int)] 134)):=hJ _ _ _ _ _ HJp.out hch (fun k hk=>⟨Or.inl hk,by rw[hT] at hk;subst hk;simp;omega⟩)
   obtain ⟨fn,tmps,assign,body,hy,hRd⟩:=hY T pre n _ hJ5 (allOf_more h501 Hm.out.1 Hm.out.2 hlk hIn)
   try dsimp only at hy
   gi_wp2
   refine (roundIn_wide_any hRd).mono ?_
   rintro e W3 (⟨rfl,hJ3,hk3⟩ | ⟨rfl,hJx3,_⟩)
   ·have hR3:RangeO Tryz.prog 134 W3 (.map io) W.heap.size N (im It) (fun y=>left y/\y≠dotE n) q4:=by
     have h5:=hR4.chg (M:=fun _=>False) (Chg.of_below ((Below.refl _ w4).alloc (Nat.le_refl _) (.cells #[.int .i64 (who n:Int),.int .i64 (nth n:Int)] 134))) (fun _ _ h=>h) (fun h=>h)
     exact h5.keep (fun b hb=>hk3.2 b (Or.inl (Or.inr (by cases hb;rfl)))) (hk3.2 _ (Or.inr (by rw[hT])))
    gi_wp2
    go_roundw
    case rel =>
     refine ⟨_,q4,pre ++ [n],hR3,hJ3, ?_,fun k=>?_⟩
     ·rw[List.nodup_append]
      exact ⟨Hm.out.1,by simp,fun x hx y hy e=>by simp at hy;subst hy;subst e;exact ((Hm.out.2 _).1 hx).2 hlk⟩
     ·rw[List.mem_append,List.mem_singleton,Hm.out.2 k]
      constructor
      ·rintro (⟨h1,h2⟩ | rfl)
       ·exact ⟨h1,fun h=>h2 h.1⟩
       ·exact ⟨hIn,fun h=>h.2 rfl⟩
      ·rintro ⟨h1,h2⟩
       by_cases e:k=n
       ·exact Or.inr e
       ·exact Or.inl ⟨h1,fun h=>h2 ⟨h,fun e2=>e (dotE_inj e2)⟩⟩
    case measure=>rw[hR3.leftO,HR.out.leftO];exact hlt4
   ·gi_wp2
    refine bodyPost_ret (results_none rfl _ _ _) rfl ?_
    exact ⟨⟨_,rfl⟩,Or.inr ⟨pre ++ [n],T,hJx3⟩⟩

def litm (L:Nat->Bool):Nat->Option Value:=fun n=>if L n=true then some unitV else none
theorem lm_im (L:Nat->Bool):lm L=im (litm L):=by
 refine im_ext (fun n=>?_) (fun key hk=>?_)
 ·unfold litm
  by_cases h:L n=true
  ·rw[if_pos h];unfold lm;rw[if_pos ⟨n,h,rfl⟩]
  ·rw[if_neg h];unfold lm;rw[if_neg]
   rintro ⟨m,h1,h2⟩
   exact h (dotE_inj h2 ▸ h1)
 ·unfold lm;rw[if_neg]
  rintro ⟨m,_,h2⟩
  exact hk m h2
theorem litm_ne (L:Nat->Bool) (n:Nat):litm L n≠none↔L n=true:=by unfold litm;by_cases h:L n=true <;> simp[h]
end Go.Proofs.YtfmmllpjgkgeaaaGreatDoor
namespace Go.Proofs.YtfmmllpjgkgeaaaGreatDoor
open Go.RowKit Go.Maps Go.WideMaps Go.Shelf

theorem mem_runD {a m d:Nat} (hm:m<=501):d∈runD (mkD a 1,m)↔who d=a/\1<=nth d/\nth d<=m:=by
 have hw:nth (mkD a 1)=1:=nth_mk (by omega)
 have hw':who (mkD a 1)=a:=who_mk (by omega)
 unfold runD
 rw[List.mem_map]
 dsimp only
 constructor
 ·rintro ⟨k,hk,rfl⟩
  have hk':=List.mem_range.1 hk
  rw[who_add (by omega),nth_add (by omega),hw,hw']
  exact ⟨rfl,by omega,by omega⟩
 ·rintro ⟨rfl,h1,h2⟩
  refine ⟨nth d-1,List.mem_range.2 (by omega), ?_⟩
  refine dot_ext ?_ ?_
  ·rw[who_add (by omega),hw']
  ·rw[nth_add (by omega),hw];omega
theorem nodup_runD (r:Nat × Nat):(runD r).Nodup:=by
 unfold runD
 rw[List.nodup_iff_pairwise_ne,List.pairwise_map]
 exact List.Pairwise.imp (fun h=>by omega) (List.pairwise_lt_range (n:=r.2))
theorem len_runD (r:Nat × Nat):(runD r).length=r.2:=by simp[runD]
theorem dcells_app (a b:List Nat):dcells (a ++ b)=dcells a ++ dcells b:=by simp[dcells]
theorem dcells_len (a:List Nat):(dcells a).length=a.length*2:=by
 induction a with
 | nil=>rfl
 | cons x r ih=>simp[dcells] at ih ⊢;omega
theorem dcells_one (a:List Nat):∀ u∈dcells a,u.oneCell'=true:=by
 intro u hu
 unfold dcells at hu
 obtain ⟨x,_,hx⟩:=List.mem_flatMap.1 hu
 simp at hx
 rcases hx with rfl | rfl <;> rfl

theorem RangeV.noCells {P:Program} {k:TypeId} {w:World} {b r N cnt:Nat} {m:Value->Option Value} {left:Value->Prop} {t:TypeId} {cur:Array Value} {fz:Nat × Nat} (h:RangeV P k w b r N m left cnt) (e:w.heap[r]? = some (.cells cur t fz)):False:=by
 obtain ⟨D,lf,⟨es,clock,since,seen,c0,_,_,_,_,h2,_⟩,_⟩:=h
 rw[h2] at e
 cases e
structure Got (c:Nat->Nat) (L:Nat->Bool) (left:Value->Prop) (ns:List Nat):Prop where
 nd:ns.Nodup
 mem:∀ d,d∈ns↔(L d=true\/(1<=nth d/\nth d<=c (who d)/\¬left (.int .i64 (who d:Int))))
theorem Got.len {c:Nat->Nat} {L:Nat->Bool} {left:Value->Prop} {ns:List Nat} (h:Got c L left ns) (hc:∀ a,c a<=501) (h5:∀ a,c a≠0->a<=5) (hl:∀ d,L d=true->okD d):ns.length<=3072 :=
 nodup_lt 3072 ns h.nd (fun d hd=>by
  rcases (h.mem d).1 hd with h1 | ⟨h1,h2,_⟩
  ·exact okD_lt (hl d h1)
  ·exact okD_lt ⟨h5 _ (by omega),h1,by have:=hc (who d);omega⟩)
theorem Got.step {c:Nat->Nat} {L:Nat->Bool} {left:Value->Prop} {ns:List Nat} {a:Nat} (h:Got c L left ns) (ha:left (.int .i64 (a:Int))) (hc:c a<=501) (hl:∀ d,L d=true->c (who d)<nth d):Got c L (fun y=>left y/\¬y=.int .i64 (a:Int)) (ns ++ runD (mkD a 1,c a)):=by
 refine ⟨?_,fun d=>?_⟩
 ·rw[List.nodup_append]
  refine ⟨h.nd,nodup_runD _,fun x hx y hy e=>?_⟩
  subst e
  obtain ⟨h1,h2,h3⟩:=(mem_runD hc).1 hy
  rcases (h.mem x).1 hx with h4 | ⟨_,_,h4⟩
  ·have:=hl x h4;rw[h1] at this;omega
  ·rw[h1] at h4;exact h4 ha
 ·rw[List.mem_append,h.mem,mem_runD hc]
  by_cases e:who d=a
  ·rw[e]
   constructor
   ·rintro ((h1 | ⟨h1,h2,h3⟩) | ⟨_,h1,h2⟩)
    ·exact Or.inl h1
    ·exact absurd ha h3
    ·exact Or.inr ⟨h1,h2,fun h=>h.2 rfl⟩
   ·rintro (h1 | ⟨h1,h2,_⟩)
    ·exact Or.inl (Or.inl h1)
    ·exact Or.inr ⟨rfl,h1,h2⟩
  ·have hne:¬(Value.int IntKind.i64 (who d:Int)=.int .i64 (a:Int)):=fun h=>e (by simp at h;omega)
   constructor
   ·rintro ((h1 | ⟨h1,h2,h3⟩) | ⟨h1,_⟩)
    ·exact Or.inl h1
    ·exact Or.inr ⟨h1,h2,fun h=>h3 h.1⟩
    ·exact absurd h1 e
   ·rintro (h1 | ⟨h1,h2,h3⟩)
    ·exact Or.inl (Or.inl h1)
    ·exact Or.inl (Or.inr ⟨h1,h2,fun h=>h3 ⟨h,hne⟩⟩)

theorem all_any (w:World) (co lo:Option Nat) (c:Nat->Nat) (L:Nat->Bool) (h:CtxV w (.map co) (.map lo) c L) :
  Calls Tryz.prog 209 #[.agg #[.map co,.map lo]] w fun e w'=>∃ v ns,e=.returned v/\SliceD w' v ns/\ns.Nodup/\(∀ d,d∈ns↔1<=nth d/\inK c L d)/\(∀ b,v.ownBlock=some b->w.heap.size<=b)/\Below w.heap.size w w':=by
 obtain ⟨⟨N,h1⟩,⟨N',h2⟩,h3,h4,h5⟩:=h
 obtain ⟨i0,hi,hz0,hz1,hz2⟩:=info_parts Tryz.infoDot
 have HM:Hid (∀ wy,Below w.heap.size w wy->MapO Tryz.prog 3 wy (.map co) N (cm c)):=fun wy hb=>h1.below hb
 have H501:Hid (∀ a,c a<=501):=h3
 have H5:Hid (∀ a,c a≠0->a<=5):=h4
 have HL:Hid (∀ d,L d=true->okD d/\c (who d)<nth d):=h5
 have kb:=Blk.new w #[.map co,.map lo] 100
 have hb0:Below w.heap.size w (w.alloc (.cells #[.map co,.map lo] 100)):=(Below.refl _ w).alloc (Nat.le_refl _) _
 have HCol:Hid (∀ wx,Below w.heap.size w wx->Calls Tryz.prog 249 #[.func (.func 282) #[] #[.pointer (some ⟨wx.heap.size,0,none⟩)]] (wx.alloc (.cells #[.map lo] 98)) fun e w'=>∃ v ns,e=.returned v/\AllOf (litm L) ns/\w'.ownsRow (wx.heap.size+1) 134 2 v ns.length (dcells ns)/\Below (wx.heap.size+1) (wx.alloc (.cells #[.map lo] 98)) w'):=fun wx hb=>by
  have hbx:Below wx.heap.size wx (wx.alloc (.cells #[.map lo] 98)):=(Below.refl _ wx).alloc (Nat.le_refl _) _
  have hMl:MapO Tryz.prog 134 (wx.alloc (.cells #[.map lo] 98)) (.map lo) N' (im (litm L)):=by rw[<- lm_im];exact (h2.below hb).below hbx
  have h501:∀ n,litm L n≠none->okD n:=fun n hn=>(h5 n ((litm_ne L n).1 hn)).1
  have:=Collect_any _ _ _ (AllOf (litm L)) _ (LKeys1_iter _ wx.heap.size lo (litm L) N' (Blk.new wx _ _) hMl h501) (enters_of Tryz.func282 (by kernel_rfl) rfl) (by
   rintro k (rfl | hk)
   ·simp
   ·exact hMl.lt k (by rw[hk])) (fun ns hns=>Nat.le_trans (nodup_lt 3072 ns hns.1 (fun n hn=>okD_lt (h501 n ((hns.2 n).1 hn)))) (by decide))
  rw[World.size_alloc] at this
  exact this
 clear h1 h2 h3 h4 h5
 go_enter Tryz.func209,Tryz.ntmps209
 go_wp2_with fail
 generalize hw0:w.alloc (.cells #[.map co,.map lo] 100)=w0 at *
 have Hs0:Hid (w0.heap.size=w.heap.size+1):=by rw[<- hw0];unfold Hid;simp
 clear hw0
 refine Calls.mono (LKeys_any _ lo) ?_
 rintro e w1 ⟨rfl,rfl⟩
 go_wp2_with fail
 refine Calls.mono (HCol.out _ hb0) ?_
 rintro e w2 ⟨v2,ns0,rfl,hns,hown,hb2⟩
 have hs0:=Hs0.out
 have hb02:Below w0.heap.size w0 w2:=((Below.refl _ w0).alloc (Nat.le_refl _) _).trans (hb2.mono (by omega))
 have hbw2:Below w.heap.size w w2:=hb0.trans (hb02.mono (by omega))
 have k2:=kb.below hb02
 have c0:=(k2.cell 0).trans rfl
 have hown0:w2.ownsRow w.heap.size 134 2 v2 ns0.length (dcells ns0):=ownsRow_base hown (by omega)
 have hg0:Got c L (fun key=>(cm c key).isSome=true) ns0:=⟨hns.1,fun d=>by
  rw[hns.2,litm_ne]
  constructor
  ·exact Or.inl
  ·rintro (h | ⟨h1,h2,h3⟩)
   ·exact h
   ·exact absurd (by rw[cm_at,if_neg (by omega)];rfl) h3⟩
 have HX2:Hid (w2.ownsRow w.heap.size 134 2 v2 ns0.length (dcells ns0)/\Below w.heap.size w w2/\Got c L (fun key=>(cm c key).isSome=true) ns0):=⟨hown0,hbw2,hg0⟩
 have hM2:=HM.out _ hbw2
 clear HCol kb hb0 hns hown hb2 hb02 hbw2 k2 hown0 hg0 HM hs0
 go_wp2_with (first | (at_range;refine wpList_rangeO rfl (.tmp 11) 97 rfl 3 kInt Tryz.underlying97 rfl hM2 ?_;intro w3 hr3 hg3 hs3;have hb3:Below w2.heap.size w2 w3:=((Below.refl _ w2).grown hg3 (Nat.le_refl _) (fun k e=>by cases e));have HX3:Hid (w3.ownsRow w.heap.size 134 2 v2 ns0.length (dcells ns0)/\Below w.heap.size w w3):=⟨own_below HX2.out.1 hb3,HX2.out.2.1.trans (hb3.mono HX2.out.2.1.size)⟩;have hsz2:w.heap.size<=w2.heap.size:=HX2.out.2.1.size;clear hg3 hs3 hM2 hb3;go_frame))
 go_loopg [3] N (fun g v3 wx=>∃ (left:Value->Prop) (q:Nat) (ns:List Nat),g=q/\RangeO Tryz.prog 3 wx (.map co) w2.heap.size N (cm c) left q/\wx.ownsRow w.heap.size 134 2 v3 ns.length (dcells ns)/\Below w.heap.size w wx/\Got c L left ns)
 case atStart=>exact ⟨_,_,ns0,rfl,hr3,HX3.out.1,HX3.out.2,HX2.out.2.2⟩
 case round =>
  obtain ⟨left,q,ns,hq,hR,hown,hb,hgot⟩:=hrel
  have HR:Hid (RangeO Tryz.prog 3 wr (.map co) w2.heap.size N (cm c) left q):=hR
  have HX:Hid (wr.ownsRow w.heap.size 134 2 u3 ns.length (dcells ns)/\Below w.heap.size w wr/\Got c L left ns):=⟨hown,hb,hgot⟩
  have Hsh:Hid (∀ key v,left key->cm c key=some v->∃ x:Nat,key=(fun x:Nat=>Value.int .i64 (x:Int)) x/\v=(fun x:Nat=>Value.int .i64 (c x:Int)) x):=fun key v _ hk=>by obtain ⟨x,h1,h2,_⟩:=cm_shape hk;exact ⟨x,h1,h2⟩
  have hlen:ns.length<=3072:=hgot.len H501.out H5.out (fun d hd=>(HL.out d hd).1)
  clear hR hown hb hgot hr3 HX2 HX3
  go_wp2_with (first | (at_next;refine wpList_nextO rfl (.tmp 12) rfl kInt (fun x:Nat=>.int .i64 (x:Int)) (fun x:Nat=>.int .i64 (c x:Int)) rfl HR.out Hsh.out ?_ ?_))
  ·intro hl0
   have Hso:Hid (_):=SortFunc_any wr w.heap.size u3 ns HX.out.1 (by omega)
   have hsh:∃ ao cap,u3=.slice ao ns.length cap:=by
    rcases HX.out.1.2 with ⟨h1,h2⟩ | ⟨g,cap,cur,h1,_⟩
    ·exact ⟨none,0,by rw[h1,h2]⟩
    ·exact ⟨_,cap,h1⟩
   obtain ⟨ao,cap,hu3⟩:=hsh
   have Hu3:Hid (u3=.slice ao ns.length cap):=hu3
   clear hu3
   have Hmem:Hid (∀ d,d∈ns↔1<=nth d/\inK c L d):=fun d=>by
    rw[HX.out.2.2.mem]
    unfold inK
    constructor
    ·rintro (h | ⟨h1,h2,_⟩)
     ·exact ⟨(HL.out d h).1.2.1,Or.inr h⟩
     ·exact ⟨h1,Or.inl h2⟩
    ·rintro ⟨h1,h | h⟩
     ·exact Or.inr ⟨h1,h,hl0 _⟩
     ·exact Or.inl h
   clear HR Hsh
   go_wp2_with fail
   refine Calls.mono Hso.out ?_
   rintro e w5 ⟨rfl,ns',hp,hsl,hch⟩
   have HF:Hid (SliceD w5 u3 ns'/\ns'.Nodup/\(∀ d,d∈ns'↔1<=nth d/\inK c L d)/\(∀ b,u3.ownBlock=some b->w.heap.size<=b)/\Below w.heap.size w w5):=⟨hsl,hp.nodup_iff.2 HX.out.2.2.nd,fun d=>hp.mem_iff.trans (Hmem.out d),fun b hb=>(HX.out.1.lt b hb).1,HX.out.2.1.trans ⟨hch.os,hch.tape,hch.output,hch.size,fun k hk=>hch.block k (Nat.lt_of_lt_of_le hk HX.out.2.1.size) (fun e=>by have:=(HX.out.1.lt k e).1;omega)⟩⟩
   clear hp hsl hch Hso HX
   have hu3:=Hu3.out
   clear Hu3
   subst hu3
   go_wp2_with fail
   go_ret
   exact ⟨_,ns',rfl,HF.out⟩
  ·intro a w4 q' hlk hmk hR4 hlt hg4 hs4 hen
   have hK0:c a≠0:=by intro h0;rw[cm_at,if_pos h0] at hmk;cases hmk
   have hca:=H501.out a
   have hrl:w2.heap.size<w4.heap.size:=by have:=HR.out.lt;omega
   have hch4:Chg (fun k=>k=w2.heap.size) wr w4:=(Chg.refl _ wr).grown hg4 (fun k e=>by cases e;exact Or.inl rfl)
   have hb4:Below w.heap.size w w4:=HX.out.2.1.grown hg4 HX.out.2.1.size (fun k e=>by cases e;exact hsz2)
   have hO4:w4.ownsRow w.heap.size 134 2 u3 ns.length (dcells ns):=HX.out.1.kept hg4 (by
    by_cases e:u3.ownBlock=none
    ·exact Or.inl e
    ·refine Or.inr (fun e2=>?_)
     refine ownsRow_ne HX.out.1 (fun cur fz h=>?_) e2
     rcases HR.out with ⟨_,⟨s,seen,cc,h2⟩,_⟩ | ⟨b,_,h2⟩
     ·rw[h2] at h;cases h
     ·exact h2.noCells h)
   have HGot:Hid (Got c L (fun y=>left y/\¬y=.int .i64 (a:Int)) (ns ++ runD (mkD a 1,c a))):=HX.out.2.2.step hlk hca (fun d hd=>(HL.out d hd).2)
   have HR4:Hid (RangeO Tryz.prog 3 w4 (.map co) w2.heap.size N (cm c) (fun y=>left y/\¬y=.int .i64 (a:Int)) q'):=hR4
   have HX4:Hid (w4.ownsRow w.heap.size 134 2 u3 ns.length (dcells ns)/\Below w.heap.size w w4):=⟨hO4,hb4⟩
   have Hd:Hid (Calls Tryz.prog 184 #[.agg #[.int .i64 (a:Int),.int .i64 1,.int .i64 (c a:Int)]] w4 fun e w'=>∃ v,e=.returned v/\w'.ownsRow w4.heap.size 134 2 v (c a) (dcells (runD (mkD a 1,c a)))/\Below w4.heap.size w4 w'):=by
    have:=Dots_any w4 (mkD a 1) (c a) (by rw[nth_mk (by omega)];omega)
    unfold runV at this
    rw[who_mk (by omega),nth_mk (by omega)] at this
    exact this
   generalize hca2:c a=ca at *
   clear HR HX Hsh hR4 hO4 hb4 hch4 hg4 hmk hlk
   go_wp2_with fail
   refine Calls.mono Hd.out ?_
   rintro e w5 ⟨v5,rfl,ho5,hb5⟩
   obtain ⟨g5,cap5,hv5⟩:=own_some ho5 (by omega)
   subst hv5
   have hO5:w5.ownsRow w.heap.size 134 2 u3 ns.length (dcells ns):=own_below HX4.out.1 hb5
   have hB5:Below w.heap.size w w5:=HX4.out.2.trans (hb5.mono HX4.out.2.size)
   have hcells:=ho5.cells (g:=g5) rfl
   have Hc5:Hid (∀ j u,(dcells (runD (mkD a 1,ca)))[j]? = some u->w5.cell? ((⟨g5,0,none⟩:Addr).add j)=some u):=hcells
   have HO5:Hid (w5.ownsRow w.heap.size 134 2 u3 ns.length (dcells ns)):=hO5
   have HB5:Hid (Below w.heap.size w w5):=hB5
   have HR5:Hid (RangeO Tryz.prog 3 w5 (.map co) w2.heap.size N (cm c) (fun y=>left y/\¬y=.int .i64 (a:Int)) q'):=HR4.out.chg (M:=fun _=>False) (Chg.of_below hb5) (fun _ _ h=>h) (fun h=>h)
   have h63:ns.length+ca<=maxLen:=by unfold maxLen;omega
   have h64:(ns.length+ca)*16<=140737488355328:=by omega
   have hnl:(dcells (runD (mkD a 1,ca))).length=ca*2:=by rw[dcells_len,len_runD]
   have hbw:w.heap.size<=w5.heap.size:=hB5.size
   clear hcells hO5 hB5 ho5 hb5 Hd HX4 HR4
   go_wp2_with (first | (at_builtin;refine wpList_append_own_at _ rfl (.tmp 18) (.tmp 23) 137 rfl w.heap.size 134 i0 (.agg #[.int .i64 0,.int .i64 0]) 2 16 Tryz.underlying137 hi hz0 hz1 hz2 rfl (by decide) _ _ _ rfl HO5.out ⟨g5,0,none⟩ ca cap5 (dcells (runD (mkD a 1,ca))) rfl hnl Hc5.out (dcells_one _) h63 h64 hbw ?_;intro v6 w6 ho6 hg6 hn6 hl6))
   have hb6:Below w.heap.size w w6:=HB5.out.grown hg6 hbw (fun k e=>(HO5.out.lt k e).1)
   have hch6:Chg (fun k=>u3.ownBlock=some k) w5 w6:=(Chg.refl _ w5).grown hg6 (fun k e=>Or.inl e)
   go_roundg q'
   case measure=>omega
   case rel =>
    refine ⟨_,q',ns ++ runD (mkD a 1,ca),rfl,HR5.out.chg hch6 (fun b hb e=>?_) (fun e=>?_), ?_,hb6,HGot.out⟩
    ·refine ownsRow_ne HO5.out (fun cur fz h=>?_) e
     rcases HR5.out.map with ⟨N2,h1 | ⟨b',h1,h2⟩⟩
     ·rw[h1.1] at hb;cases hb
     ·rw[h1] at hb;cases hb
      exact h2.noTag h
    ·refine ownsRow_ne HO5.out (fun cur fz h=>?_) e
     rcases HR5.out with ⟨_,⟨s,seen,cc,h2⟩,_⟩ | ⟨b,_,h2⟩
     ·rw[h2] at h;cases h
     ·exact h2.noCells h
    ·rw[dcells_app,List.length_append,len_runD]
     exact ho6
end Go.Proofs.YtfmmllpjgkgeaaaGreatDoor
namespace Go.Proofs.YtfmmllpjgkgeaaaGreatDoor
open Go.RowKit Go.Maps Go.WideMaps

theorem Tryz.infoRun:(Tryz.prog.info? 250).map (fun i=>(i.zero,i.size,i.bytes))=some (some (.agg #[.int .i64 0,.int .i64 0,.int .i64 0]),3,24):=by kernel_rfl
def rcells (rs:List (Nat × Nat)):List Value:=rs.flatMap fun r=>[.int .i64 (who r.1:Int),.int .i64 (nth r.1:Int),.int .i64 (r.2:Int)]
theorem rcells_snoc (rs:List (Nat × Nat)) (r:Nat × Nat):rcells (rs ++ [r])=rcells rs ++ [.int .i64 (who r.1:Int),.int .i64 (nth r.1:Int),.int .i64 (r.2:Int)]:=by simp[rcells]
theorem rcells_len (rs:List (Nat × Nat)):(rcells rs).length=rs.length*3:=by
 induction rs with
 | nil=>rfl
 | cons x r ih=>simp[rcells] at ih ⊢;omega
theorem rcells_get:∀ (rs:List (Nat × Nat)) (i:Nat) (h:i<rs.length),(rcells rs)[i*3]? = some (.int .i64 (who rs[i].1:Int))/\(rcells rs)[i*3+1]? = some (.int .i64 (nth rs[i].1:Int))/\(rcells rs)[i*3+2]? = some (.int .i64 (rs[i].2:Int))
 | [],i,h=>absurd h (by simp)
 | r :: rs,0,h=>⟨rfl,rfl,rfl⟩
 | r :: rs,i+1,h=>by
  have:=rcells_get rs i (by simpa using h)
  have e:rcells (r :: rs)=[.int .i64 (who r.1:Int),.int .i64 (nth r.1:Int),.int .i64 (r.2:Int)] ++ rcells rs:=rfl
  refine ⟨?_, ?_, ?_⟩
  ·rw[e,List.getElem?_append_right (by simp;omega)]
   simp only[List.length_cons,List.length_nil,List.getElem_cons_succ]
   rw[show (i+1)*3-(0+1+1+1)=i*3 by omega];exact this.1
  ·rw[e,List.getElem?_append_right (by simp;omega)]
   simp only[List.length_cons,List.length_nil,List.getElem_cons_succ]
   rw[show (i+1)*3+1-(0+1+1+1)=i*3+1 by omega];exact this.2.1
  ·rw[e,List.getElem?_append_right (by simp;omega)]
   simp only[List.length_cons,List.length_nil,List.getElem_cons_succ]
   rw[show (i+1)*3+2-(0+1+1+1)=i*3+2 by omega];exact this.2.2

structure Runs (ns:List Nat) (i:Nat) (rs:List (Nat × Nat)):Prop where
 flat:flatR rs=ns.take i
 ok:∀ r∈rs,okD r.1/\1<=r.2/\nth r.1+r.2<=502
 len:rs.length<=i
theorem Runs.more {ns:List Nat} {i d m:Nat} {rs:List (Nat × Nat)} (h:Runs ns i (rs ++ [(d,m)])) (hi:i<ns.length) (e:d+m=ns[i]) (hok:okD ns[i]) (hw:who ns[i]=who d):Runs ns (i+1) (rs ++ [(d,m+1)]):=by
 have hd:=h.ok (d,m) (by simp)
 refine ⟨?_,fun r hr=>?_, ?_⟩
 ·have:=h.flat
  rw[flatR_snoc] at this ⊢
  rw[runD_succ,<- List.append_assoc,this,e,List.take_succ_eq_append_getElem hi]
 ·rcases List.mem_append.1 hr with hr | hr
  ·exact h.ok r (List.mem_append.2 (Or.inl hr))
  ·simp at hr
   subst hr
   refine ⟨hd.1,by simp, ?_⟩
   have h1:nth ns[i]=nth d+m:=by rw[<- e];exact nth_add (by have:=hd.2.2;simp only at this;omega)
   have h2:=hok.2.2
   simp only
   omega
 ·have:=h.len;simp at this ⊢;omega
theorem Runs.new {ns:List Nat} {i:Nat} {rs:List (Nat × Nat)} (h:Runs ns i rs) (hi:i<ns.length) (hok:okD ns[i]):Runs ns (i+1) (rs ++ [(ns[i],1)]):=by
 refine ⟨?_,fun r hr=>?_, ?_⟩
 ·rw[flatR_snoc,h.flat,List.take_succ_eq_append_getElem hi]
  simp[runD]
 ·rcases List.mem_append.1 hr with hr | hr
  ·exact h.ok r hr
  ·simp at hr
   subst hr
   exact ⟨hok,by simp,by have:=hok.2.2;simp only;omega⟩
 ·have:=h.len;simp;omega

theorem addr0 (g k:Nat):(⟨g,0,none⟩:Addr).add k=⟨g,k,none⟩:=by unfold Addr.add;by_cases h:k=0 <;> simp[h]
theorem own_set {w:World} {base:Nat} {e:TypeId} {size:Nat} {g n cap:Nat} {xs:List Value} (h:w.ownsRow base e size (.slice (some ⟨g,0,none⟩) n cap) n xs) (k:Nat) (hk:k<xs.length) (u:Value):(w.setCell ⟨g,k,none⟩ u).ownsRow base e size (.slice (some ⟨g,0,none⟩) n cap) n (xs.set k u):=by
 obtain ⟨hl,h⟩:=h
 refine ⟨by rw[List.length_set];exact hl,Or.inr ?_⟩
 rcases h with ⟨h1,_⟩ | ⟨g',cap',cur,h1,h2,h3,h4,h5,h6,h7⟩
 ·cases h1
 ·simp only[Value.slice.injEq,Option.some.injEq,Addr.mk.injEq] at h1
  obtain ⟨⟨rfl,_⟩,_,rfl⟩:=h1
  refine ⟨g,cap,cur.setIfInBounds k u,rfl,h2, ?_,h4,h5,by simpa using h6, ?_⟩
  ·simp[World.setCell,Array.getElem?_modify,h3]
  ·rw[Array.toList_setIfInBounds,List.take_set,h7]
theorem own_free {w:World} {base:Nat} {e:TypeId} {size:Nat} {g n cap:Nat} {xs:List Value} (h:w.ownsRow base e size (.slice (some ⟨g,0,none⟩) n cap) n xs) (k:Nat):w.frozen? ⟨g,k,none⟩=false:=by
 rcases h.2 with ⟨h1,_⟩ | ⟨g',cap',cur,h1,h2,h3,_⟩
 ·cases h1
 ·simp only[Value.slice.injEq,Option.some.injEq,Addr.mk.injEq] at h1
  obtain ⟨⟨rfl,_⟩,_,_⟩:=h1
  simp[World.frozen?,h3]
theorem rcells_set (rs:List (Nat × Nat)) (d m:Nat):(rcells (rs ++ [(d,m)])).set (rs.length*3+2) (.int .i64 ((m+1:Nat):Int))=rcells (rs ++ [(d,m+1)]):=by
 rw[rcells_snoc,rcells_snoc,<- rcells_len,List.set_append_right _ _ (by omega)]
 simp
structure RN (w:World) (B:Nat) (v8 v3:Value) (ns:List Nat) (rs:List (Nat × Nat)) (wx:World):Prop where
 row:wx.ownsRow B 250 3 v3 rs.length (rcells rs)
 old:∀ b,v8.ownBlock=some b->b<B
 le:w.heap.size<=B/\B<=wx.heap.size
 sl:SliceD wx v8 ns
 below:Below w.heap.size w wx
theorem RN.mono {w:World} {B:Nat} {v8 v3:Value} {ns:List Nat} {rs:List (Nat × Nat)} {wx wy:World} (h:RN w B v8 v3 ns rs wx) (hb:Below wx.heap.size wx wy):RN w B v8 v3 ns rs wy:=⟨own_below h.row hb,h.old,⟨h.le.1,Nat.le_trans h.le.2 hb.size⟩,h.sl.below hb,h.below.trans (hb.mono h.below.size)⟩
theorem SliceD.blk {w:World} {v:Value} {ns:List Nat} (h:SliceD w v ns):∃ ao cap,v=.slice ao ns.length cap/\ns.length<=cap:=by
 rcases h with ⟨rfl,rfl⟩ | ⟨b,off,cap,rfl,h2,_⟩
 ·exact ⟨none,0,rfl,Nat.le_refl _⟩
 ·exact ⟨_,cap,rfl,h2⟩

theorem runs_any (w:World) (co lo:Option Nat) (c:Nat->Nat) (L:Nat->Bool) (h:CtxV w (.map co) (.map lo) c L) :
  Calls Tryz.prog 268 #[.agg #[.map co,.map lo]] w fun e w'=>∃ v ns rs,e=.returned v/\ns.Nodup/\(∀ d,d∈ns↔1<=nth d/\inK c L d)/\Runs ns ns.length rs/\w'.ownsRow w.heap.size 250 3 v rs.length (rcells rs)/\Below w.heap.size w w':=by
 obtain ⟨i0,hi,hz0,hz1,hz2⟩:=info_parts Tryz.infoRun
 have H501:Hid (∀ a,c a<=501):=h.c501
 have H5:Hid (∀ a,c a≠0->a<=5):=h.c5
 have HL:Hid (∀ d,L d=true->okD d/\c (who d)<nth d):=h.l501
 have Hall:Hid (∀ ob,Calls Tryz.prog 209 #[.agg #[.map co,.map lo]] (w.alloc ob) fun e w'=>∃ v ns,e=.returned v/\SliceD w' v ns/\ns.Nodup/\(∀ d,d∈ns↔1<=nth d/\inK c L d)/\Below w.heap.size w w'):=fun ob=>by
  have hb:Below w.heap.size w (w.alloc ob):=(Below.refl _ w).alloc (Nat.le_refl _) _
  refine Calls.mono (all_any _ co lo c L (h.below hb)) ?_
  rintro e w' ⟨v,ns,rfl,h1,h2,h3,_,h5⟩
  exact ⟨v,ns,rfl,h1,h2,h3,hb.trans (h5.mono hb.size)⟩
 clear h
 go_enter Tryz.func268,Tryz.ntmps268
 go_wp2_with fail
 refine Calls.mono (Hall.out _) ?_
 rintro e w1 ⟨v8,ns,rfl,hsl,hnd,hmem,hb1⟩
 obtain ⟨ao,cap,rfl,hcap⟩:=hsl.blk
 have HS1:Hid (SliceD w1 (.slice ao ns.length cap) ns/\Below w.heap.size w w1):=⟨hsl,hb1⟩
 have HOld:Hid (∀ b,(Value.slice ao ns.length cap).ownBlock=some b->b<w1.heap.size):=by
  rcases hsl with ⟨h,_⟩ | ⟨b,off,cap',h,_,h3,_⟩
  ·intro b hb;rw[h] at hb;cases hb
  ·intro b' hb;rw[h] at hb;cases hb;exact h3
 have HN:Hid (ns.Nodup/\(∀ d,d∈ns↔1<=nth d/\inK c L d)):=⟨hnd,hmem⟩
 have Hok:Hid (∀ d∈ns,okD d):=fun d hd=>by
  obtain ⟨h1,h2⟩:=(hmem d).1 hd
  rcases h2 with h2 | h2
  ·exact ⟨H5.out _ (by omega),h1,by have:=H501.out (who d);omega⟩
  ·exact (HL.out d h2).1
 have hlen:ns.length<=3072:=nodup_lt 3072 ns hnd (fun d hd=>okD_lt (Hok.out d hd))
 clear hsl hnd hmem hb1 Hall H501 H5 HL
 go_wp2_with fail
 go_loopg [3,10] ns.length (fun g v3 v10 wx=>∃ (i:Nat) (rs:List (Nat × Nat)),i+g=ns.length/\v10=.int .i64 (i:Int)/\Runs ns i rs/\RN w w1.heap.size (.slice ao ns.length cap) v3 ns rs wx)
 case atStart=>exact ⟨0,[],by omega,rfl,⟨by simp[flatR],fun r hr=>(by cases hr),by simp⟩,World.ownsRow_nil _ _ _ _,HOld.out,⟨HS1.out.2.size,Nat.le_refl _⟩,HS1.out.1,HS1.out.2⟩
 case round =>
  obtain ⟨i,rs,hig,rfl,hR,hX⟩:=hrel
  have HR:Hid (Runs ns i rs):=hR
  have HX:Hid (RN w w1.heap.size (.slice ao ns.length cap) u3 ns rs wr):=hX
  have hrl:rs.length<=i:=hR.len
  clear HS1
  by_cases him:i<ns.length
  ·obtain ⟨b,off,cap',hv,hcap',hb,hcells⟩:=hX.sl.resolve_left (fun h=>by rw[h.2] at him;simp at him)
   simp only[Value.slice.injEq] at hv
   obtain ⟨rfl,_,rfl⟩:=hv
   have k0:=(hcells i him).1
   have k1:=(hcells i him).2
   have hokx:=Hok.out _ (List.getElem_mem him)
   have h63:rs.length+1<=maxLen:=by unfold maxLen;omega
   have h64:(rs.length+1)*24<=140737488355328:=by omega
   have hbw:w1.heap.size<=wr.heap.size:=hX.le.2
   have hsh:∃ ao3 cap3,u3=.slice ao3 rs.length cap3:=by
    rcases hX.row.2 with ⟨h1,h2⟩ | ⟨g,cp,cur,h1,_⟩
    ·exact ⟨none,0,by rw[h1,h2]⟩
    ·exact ⟨_,cp,h1⟩
   obtain ⟨ao3,cap3,rfl⟩:=hsh
   have Hcn:Hid (∀ (wz:World) (x:Nat) j u,([.int .i64 (who x:Int),.int .i64 (nth x:Int),.int .i64 1]:List Value)[j]? = some u->(wz.alloc (.cells #[.int .i64 (who x:Int),.int .i64 (nth x:Int),.int .i64 1] 250)).cell? ((⟨wz.heap.size,0,none⟩:Addr).add j)=some u):=fun wz x j u hj=>by
    match j,hj with
    | 0,hj=>cases hj;simp[Addr.add]
    | 1,hj=>cases hj;simp[Addr.add]
    | 2,hj=>cases hj;simp[Addr.add]
   have HBG:Hid ((Value.slice ao3 rs.length cap3).ownBlock≠some b):=fun e=>by have h1:=(HX.out.row.lt b e).1;have h2:=HX.out.old b rfl;omega
   have HA:Hid (∀ x,x=ns[i]->∀ wy,Below wr.heap.size wr wy->∀ ob v6 w6,w6.ownsRow w1.heap.size 250 3 v6 (rs.length+1) (rcells rs ++ [.int .i64 (who x:Int),.int .i64 (nth x:Int),.int .i64 1])->(wy.alloc ob).grownBy w6 (Value.slice ao3 rs.length cap3).ownBlock->Runs ns (i+1) (rs ++ [(x,1)])/\RN w w1.heap.size (.slice (some ⟨b,off,none⟩) ns.length cap) v6 ns (rs ++ [(x,1)]) w6):=fun x hx wy hb ob v6 w6 ho6 hg6=>by
    subst hx
    have hXy:=HX.out.mono hb
    have hbel:Below w.heap.size w w6:=(hXy.below.alloc hXy.below.size ob).grown hg6 (by have:=hXy.below.size;simp;omega) (fun k hk=>Nat.le_trans hXy.le.1 (hXy.row.lt k hk).1)
    refine ⟨HR.out.new him hokx,⟨by rw[rcells_snoc,List.length_append];exact ho6,hXy.old,⟨hXy.le.1,Nat.le_trans hXy.le.2 (by have:=hg6.size;simp at this;omega)⟩, ?_,hbel⟩⟩
    refine (hXy.sl.below ((Below.refl _ wy).alloc (Nat.le_refl _) ob)).chg (M:=fun k=>(Value.slice ao3 rs.length cap3).ownBlock=some k) ((Chg.refl _ _).grown hg6 (fun k e=>Or.inl e)) (fun k hk e=>?_)
    cases hk
    exact HBG.out e
   have HO:Hid (∀ wy,Below wr.heap.size wr wy->∀ ob,(wy.alloc ob).ownsRow w1.heap.size 250 3 (.slice ao3 rs.length cap3) rs.length (rcells rs)):=fun wy hb ob=>(HX.out.mono hb).row.alloc ob
   obtain ⟨x,hx⟩:∃ x,ns[i]=x:=⟨_,rfl⟩
   rw[hx] at k0 k1 hokx
   have Hx:Hid (x=ns[i]):=hx.symm
   clear hX hR hcells hx
   have hcc:rs=[]\/∃ rs' r,rs=rs' ++ [r]:=by
    rcases List.eq_nil_or_concat rs with h | ⟨l,r,h⟩
    ·exact Or.inl h
    ·exact Or.inr ⟨l,r,by rw[h,List.concat_eq_append]⟩
   rcases hcc with rfl | ⟨rs',r,rfl⟩
   ·simp only[List.length_nil] at *
    have kd:=Blk.new wr #[.int .i64 (who x:Int),.int .i64 (nth x:Int)] 134
    have hbd:Below wr.heap.size wr (wr.alloc (.cells #[.int .i64 (who x:Int),.int .i64 (nth x:Int)] 134)):=(Below.refl _ wr).alloc (Nat.le_refl _) _
    go_wp2_with fail
    generalize wr.alloc (.cells #[.int .i64 (who x:Int),.int .i64 (nth x:Int)] 134)=wd at *
    have d0:=(kd.cell 0).trans rfl
    have d1:=(kd.cell 1).trans rfl
    have HBd:Hid (Below wr.heap.size wr wd.drew):=hbd.drew
    have HBz:Hid (Below wr.heap.size wr wd):=hbd
    have hwd:w1.heap.size<=wd.heap.size:=Nat.le_trans hbw hbd.size
    have d0':wd.drew.cell? ⟨wr.heap.size,0,none⟩=some (.int .i64 (who x:Int)):=d0
    have d1':wd.drew.cell? ⟨wr.heap.size,1,none⟩=some (.int .i64 (nth x:Int)):=d1
    clear kd hbd k0 k1
    have hdd:decide ((-1:Int) ≥ 0)=false:=by decide
    go_quiet (fail)
    go_wp2_with (first | (at_builtin;refine wpList_append_own_at _ rfl (.tmp 41) (.tmp 44) 285 rfl w1.heap.size 250 i0 (.agg #[.int .i64 0,.int .i64 0,.int .i64 0]) 3 24 Tryz.underlying285 hi hz0 hz1 hz2 rfl (by decide) _ _ _ rfl (HO.out _ HBd.out _) ⟨wd.heap.size,0,none⟩ 1 1 [.int .i64 (who x:Int),.int .i64 (nth x:Int),.int .i64 1] rfl rfl (Hcn.out _ x) (by simp[Value.oneCell']) h63 h64 (by simp;omega) ?_;intro v6 w6 ho6 hg6 hn6 hl6))
    have hfin:=HA.out x Hx.out (wd.drewN nq) (below_drewN HBz.out nq) _ _ _ ho6 hg6
    go_roundg (ns.length-(i+1))
    case measure=>omega
    case rel=>exact ⟨i+1,_,by omega,by go_num,hfin.1,hfin.2⟩
   ·obtain ⟨d,m⟩:=r
    have hrr:=HR.out.ok (d,m) (by simp)
    obtain ⟨hokd,hm1,hm2⟩:=hrr
    simp only at hm1 hm2 hokd
    obtain ⟨g3,cp3,hv3⟩:=own_some HX.out.row (by simp)
    simp only[Value.slice.injEq] at hv3
    obtain ⟨rfl,_,rfl⟩:=hv3
    have hcl:=HX.out.row.cells (g:=g3) rfl
    have hgt:=rcells_get (rs' ++ [(d,m)]) rs'.length (by simp)
    simp only[List.getElem_append_right (Nat.le_refl _),Nat.sub_self,List.getElem_cons_zero] at hgt
    have q0:=hcl _ _ hgt.1
    have q1:=hcl _ _ hgt.2.1
    have q2:=hcl _ _ hgt.2.2
    rw[addr0] at q0 q1 q2
    have hlen3:Hid ((rcells (rs' ++ [(d,m)])).length=(rs'.length+1)*3):=by unfold Hid;rw[rcells_len];simp
    have hcapr:(rs' ++ [(d,m)]).length=rs'.length+1:=by simp
    simp only[hcapr] at *
    have kd:=Blk.new wr #[.int .i64 (who x:Int),.int .i64 (nth x:Int)] 134
    have hbd:Below wr.heap.size wr (wr.alloc (.cells #[.int .i64 (who x:Int),.int .i64 (nth x:Int)] 134)):=(Below.refl _ wr).alloc (Nat.le_refl _) _
    have hgl:g3<wr.heap.size:=(HX.out.row.lt g3 rfl).2
    have hbg:b≠g3:=fun e=>HBG.out (by rw[e];rfl)
    clear hcl hgt
    go_wp2_with fail
    have z0:(wr.alloc (.cells #[.int .i64 (who x:Int),.int .i64 (nth x:Int)] 134)).cell? ⟨g3,rs'.length*3,none⟩=some (.int .i64 (who d:Int)):=(hbd.cell (p:=⟨g3,rs'.length*3,none⟩) hgl).trans q0
    have z1:(wr.alloc (.cells #[.int .i64 (who x:Int),.int .i64 (nth x:Int)] 134)).cell? ⟨g3,rs'.length*3+1,none⟩=some (.int .i64 (nth d:Int)):=(hbd.cell (p:=⟨g3,rs'.length*3+1,none⟩) hgl).trans q1
    have z2:(wr.alloc (.cells #[.int .i64 (who x:Int),.int .i64 (nth x:Int)] 134)).cell? ⟨g3,rs'.length*3+2,none⟩=some (.int .i64 (m:Int)):=(hbd.cell (p:=⟨g3,rs'.length*3+2,none⟩) hgl).trans q2
    have z3:=(kd.cell 0).trans rfl
    have z4:=(kd.cell 1).trans rfl
    generalize wr.alloc (.cells #[.int .i64 (who x:Int),.int .i64 (nth x:Int)] 134)=wd at *
    have Hat:Hid (∀ wx,wx.heap=wd.heap->wx.os=wd.os->wx.tape=wd.tape->wx.output=wd.output->Calls Tryz.prog 243 #[.agg #[.int .i64 (who d:Int),.int .i64 (nth d:Int),.int .i64 (m:Int)],.int .i64 (m:Int)] wx fun e w'=>e=.returned (dotE (d+m))/\(w'.cell? ⟨g3,rs'.length*3,none⟩=some (.int .i64 (who d:Int))/\w'.cell? ⟨g3,rs'.length*3+1,none⟩=some (.int .i64 (nth d:Int))/\w'.cell? ⟨g3,rs'.length*3+2,none⟩=some (.int .i64 (m:Int))/\w'.cell? ⟨wr.heap.size,0,none⟩=some (.int .i64 (who x:Int))/\w'.cell? ⟨wr.heap.size,1,none⟩=some (.int .i64 (nth x:Int)))/\Below wr.heap.size wr w'/\Blk w' wr.heap.size #[.int .i64 (who x:Int),.int .i64 (nth x:Int)] 134):=fun wx hx ho ht hp=>by
     have hbx:Below wr.heap.size wr wx:=hbd.trans ⟨ho,ht,hp,by rw[hx];exact Nat.le_refl _,fun k _=>by rw[hx]⟩
     have kx:Blk wx wr.heap.size #[.int .i64 (who x:Int),.int .i64 (nth x:Int)] 134:=by unfold Blk;rw[hx];exact kd
     refine Calls.mono (at_any wx d m m (by omega)) ?_
     rintro e w' ⟨rfl,hb'⟩
     have hbw':Below wr.heap.size wr w':=hbx.trans (hb'.mono hbx.size)
     have kx':=kx.below hb'
     exact ⟨rfl,⟨(hbw'.cell (p:=⟨g3,rs'.length*3,none⟩) hgl).trans q0,(hbw'.cell (p:=⟨g3,rs'.length*3+1,none⟩) hgl).trans q1,(hbw'.cell (p:=⟨g3,rs'.length*3+2,none⟩) hgl).trans q2,(kx'.cell 0).trans rfl,(kx'.cell 1).trans rfl⟩,hbw',kx'⟩
    clear kd hbd q0 q1 q2 k0 k1
    have hdd:decide ((rs'.length:Int) ≥ 0)=true:=by simp
    have hi1:(0:Int)<=(rs'.length:Int):=by omega
    have hi2:(rs'.length:Int)<(rs'.length:Int)+1:=by omega
    have hi3:(rs'.length:Int)<((rs'.length+1:Nat):Int):=by omega
    by_cases hdx:d+m=x
    ·subst hdx
     go_region_held3 (fun w'=>w'.cell? ⟨g3,rs'.length*3,none⟩=some (.int .i64 (who d:Int))/\w'.cell? ⟨g3,rs'.length*3+1,none⟩=some (.int .i64 (nth d:Int))/\w'.cell? ⟨g3,rs'.length*3+2,none⟩=some (.int .i64 (m:Int))/\w'.cell? ⟨wr.heap.size,0,none⟩=some (.int .i64 (who (d+m):Int))/\w'.cell? ⟨wr.heap.size,1,none⟩=some (.int .i64 (nth (d+m):Int))) (first | assumption | exact ⟨z0,z1,z2,z3,z4⟩ | exact h5.1) (first | (go_at_call 243;refine Calls.mono (Hat.out _ rfl rfl rfl rfl) ?_;rintro e w5 ⟨rfl,h5⟩;have e0:=h5.1.1;have e1:=h5.1.2.1;have e2:=h5.1.2.2.1;have e3:=h5.1.2.2.2.1;have e4:=h5.1.2.2.2.2))
     have hX5:=HX.out.mono h5.2.1
     have hrow5:=hX5.row
     rw[show (rs' ++ [(d,m)]).length=rs'.length+1 by simp] at hrow5
     have hfr:=own_free hrow5
     have HX5:Hid (RN w w1.heap.size (.slice (some ⟨b,off,none⟩) ns.length cap) (.slice (some ⟨g3,0,none⟩) (rs'.length+1) cap3) ns (rs' ++ [(d,m)]) w5):=hX5
     have Hrow5:Hid (w5.ownsRow w1.heap.size 250 3 (.slice (some ⟨g3,0,none⟩) (rs'.length+1) cap3) (rs'.length+1) (rcells (rs' ++ [(d,m)]))):=hrow5
     clear hX5 hrow5
     go_wp2_with fail
     have hX5:=HX5.out
     have hrow5:=Hrow5.out
     have hro:=own_set hrow5 (rs'.length*3+2) (by rw[hlen3.out];omega) (.int .i64 ((m+1:Nat):Int))
     rw[rcells_set] at hro
     have hsl5:SliceD (w5.setCell ⟨g3,rs'.length*3+2,none⟩ (.int .i64 ((m+1:Nat):Int))) (.slice (some ⟨b,off,none⟩) ns.length cap) ns:=hX5.sl.chg (M:=fun k=>k=g3) ((Chg.refl (fun k=>k=g3) w5).setCell (p:=⟨g3,rs'.length*3+2,none⟩) rfl _) (fun k hk e=>by cases hk;exact hbg e)
     have hbl5:Below w.heap.size w (w5.setCell ⟨g3,rs'.length*3+2,none⟩ (.int .i64 ((m+1:Nat):Int))):=hX5.below.setCell (p:=⟨g3,rs'.length*3+2,none⟩) (Nat.le_trans hX5.le.1 (hX5.row.lt g3 rfl).1) _
     have hRm:=HR.out.more him (by rw[<- Hx.out]) (by rw[<- Hx.out];exact hokx) (by rw[<- Hx.out];exact who_add (by omega))
     go_roundg (ns.length-(i+1))
     case measure=>omega
     case rel=>exact ⟨i+1,rs' ++ [(d,m+1)],by omega,by go_num,hRm,⟨by simpa using hro,hX5.old,⟨hX5.le.1,by have:=hX5.le.2;simpa using this⟩,by simpa using hsl5,by simpa using hbl5⟩⟩
    ·have hne2:¬(who (d+m)=who x/\nth (d+m)=nth x):=fun h=>hdx (dot_ext h.1 h.2)
     generalize d+m=y at *
     have hparts:(¬((who y:Int)=(who x:Int)))\/((who y:Int)=(who x:Int)/\¬((nth y:Int)=(nth x:Int))):=by omega
     rcases hparts with hp | ⟨hp,hp2⟩
     ·have hpb:((who y:Int) == (who x:Int))=false:=by simpa using hp
      have hpd:decide ((who y:Int)=(who x:Int))=false:=by simpa using hp
      go_region_held3 (fun w'=>w'.cell? ⟨g3,rs'.length*3,none⟩=some (.int .i64 (who d:Int))/\w'.cell? ⟨g3,rs'.length*3+1,none⟩=some (.int .i64 (nth d:Int))/\w'.cell? ⟨g3,rs'.length*3+2,none⟩=some (.int .i64 (m:Int))/\w'.cell? ⟨wr.heap.size,0,none⟩=some (.int .i64 (who x:Int))/\w'.cell? ⟨wr.heap.size,1,none⟩=some (.int .i64 (nth x:Int))) (first | assumption | exact ⟨z0,z1,z2,z3,z4⟩ | exact h5.1) (first | (go_at_call 243;refine Calls.mono (Hat.out _ rfl rfl rfl rfl) ?_;rintro e w5 ⟨rfl,h5⟩;have e0:=h5.1.1;have e1:=h5.1.2.1;have e2:=h5.1.2.2.1;have e3:=h5.1.2.2.2.1;have e4:=h5.1.2.2.2.2))
      have hw5:w1.heap.size<=w5.heap.size:=Nat.le_trans hbw h5.2.1.size
      go_wp2_with (first | (at_builtin;refine wpList_append_own_at _ rfl (.tmp 41) (.tmp 44) 285 rfl w1.heap.size 250 i0 (.agg #[.int .i64 0,.int .i64 0,.int .i64 0]) 3 24 Tryz.underlying285 hi hz0 hz1 hz2 rfl (by decide) _ _ _ rfl (HO.out _ h5.2.1 _) ⟨w5.heap.size,0,none⟩ 1 1 [.int .i64 (who x:Int),.int .i64 (nth x:Int),.int .i64 1] rfl rfl (Hcn.out _ x) (by simp[Value.oneCell']) h63 h64 (by simp;omega) ?_;intro v6 w6 ho6 hg6 hn6 hl6))
      have hfin:=HA.out x Hx.out w5 h5.2.1 _ _ _ ho6 hg6
      go_roundg (ns.length-(i+1))
      case measure=>omega
      case rel=>exact ⟨i+1,_,by omega,by go_num,hfin.1,hfin.2⟩
     ·have hpb:((nth y:Int) == (nth x:Int))=false:=by simpa using hp2
      have hpd:decide ((nth y:Int)=(nth x:Int))=false:=by simpa using hp2
      go_region_held3 (fun w'=>w'.cell? ⟨g3,rs'.length*3,none⟩=some (.int .i64 (who d:Int))/\w'.cell? ⟨g3,rs'.length*3+1,none⟩=some (.int .i64 (nth d:Int))/\w'.cell? ⟨g3,rs'.length*3+2,none⟩=some (.int .i64 (m:Int))/\w'.cell? ⟨wr.heap.size,0,none⟩=some (.int .i64 (who x:Int))/\w'.cell? ⟨wr.heap.size,1,none⟩=some (.int .i64 (nth x:Int))) (first | assumption | exact ⟨z0,z1,z2,z3,z4⟩ | exact h5.1) (first | (go_at_call 243;refine Calls.mono (Hat.out _ rfl rfl rfl rfl) ?_;rintro e w5 ⟨rfl,h5⟩;have e0:=h5.1.1;have e1:=h5.1.2.1;have e2:=h5.1.2.2.1;have e3:=h5.1.2.2.2.1;have e4:=h5.1.2.2.2.2))
      have hw5:w1.heap.size<=w5.heap.size:=Nat.le_trans hbw h5.2.1.size
      go_wp2_with (first | (at_builtin;refine wpList_append_own_at _ rfl (.tmp 41) (.tmp 44) 285 rfl w1.heap.size 250 i0 (.agg #[.int .i64 0,.int .i64 0,.int .i64 0]) 3 24 Tryz.underlying285 hi hz0 hz1 hz2 rfl (by decide) _ _ _ rfl (HO.out _ h5.2.1 _) ⟨w5.heap.size,0,none⟩ 1 1 [.int .i64 (who x:Int),.int .i64 (nth x:Int),.int .i64 1] rfl rfl (Hcn.out _ x) (by simp[Value.oneCell']) h63 h64 (by simp;omega) ?_;intro v6 w6 ho6 hg6 hn6 hl6))
      have hfin:=HA.out x Hx.out w5 h5.2.1 _ _ _ ho6 hg6
      go_roundg (ns.length-(i+1))
      case measure=>omega
      case rel=>exact ⟨i+1,_,by omega,by go_num,hfin.1,hfin.2⟩
  ·have e:i=ns.length:=by omega
   subst e
   clear hR hX
   go_wp2_with fail
   go_ret
   exact ⟨_,ns,rs,rfl,HN.out.1,HN.out.2,HR.out,ownsRow_base HX.out.row HX.out.le.1,HX.out.below⟩

def textB (p:ByteArray) (a:UInt8) (v:ByteArray) (n:Int):Thk.Bs:=toL p ++ [a] ++ toL v ++ (if a.toNat=62 then Lib.itoa n else [])

theorem toL_app (a b:ByteArray):toL (a ++ b)=toL a ++ toL b:=by unfold toL;simp[ByteArray.data_append]

theorem Text_any (w:World) (hG:Glob w) (p v:ByteArray) (a:UInt8) (n:Int) (ha:a=43\/a=94\/a=61\/a=62) (hn:-9223372036854775808<=n/\n<=9223372036854775807) (hp:p.size<=1048576) (hv:v.size<=1048576) :
  Calls Tryz.prog 225 #[.agg #[.string p,.int .u8 (a.toNat:Int),.string v,.int .i64 n]] w fun e w'=>∃ s,e=.returned (.string s)/\toL s=textB p a v n/\Below w.heap.size w w':=by
 have HG:Hid (Glob w):=hG
 have HF:Hid (∀ wx,Below w.heap.size w wx->Calls Tryz.prog 199 #[.int .i64 n,.int .i64 10] wx fun e w'=>e=.returned (.string ⟨(Lib.itoa n).toArray⟩)/\Below w.heap.size w w'):=fun wx hb=>by
  refine Calls.mono (Tryz.strconv_FormatInt_10 n hn.1 hn.2 wx (hG.mono hb).tab) ?_
  rintro e w' ⟨rfl,k,os,rfl⟩
  exact ⟨rfl,grow_below (below_drewN hb k) (by have:=hb.size;simpa using this) os⟩
 clear hG
 have hit:(Lib.itoa n).length<=1000:=Nat.le_trans (Lib.itoa_length_le n hn.1 hn.2) (by decide)
 rcases ha with rfl | rfl | rfl | rfl
 ·have he:Utf8.encode 43=⟨#[43]⟩:=by rfl
  have hs1:p.size+(Utf8.encode 43).size<=9223372036854775807:=by rw[he];show p.size+1<=_;omega
  have hs2:(p ++ Utf8.encode 43).size+v.size<=9223372036854775807:=by rw[ByteArray.size_append,he];show p.size+1+v.size<=_;omega
  have Ht:Hid (toL (p ++ Utf8.encode 43 ++ v)=toL p ++ [43] ++ toL v):=by unfold Hid;rw[toL_app,toL_app,he];(first | done | rfl)
  clear he
  go_enter Tryz.func225,Tryz.ntmps225
  go_wp2_with fail
  go_ret
  refine ⟨_,rfl, ?_,by go_grown⟩
  rw[Ht.out]
  unfold textB
  rw[if_neg (by decide),List.append_nil]
 ·have he:Utf8.encode 94=⟨#[94]⟩:=by rfl
  have hs1:p.size+(Utf8.encode 94).size<=9223372036854775807:=by rw[he];show p.size+1<=_;omega
  have hs2:(p ++ Utf8.encode 94).size+v.size<=9223372036854775807:=by rw[ByteArray.size_append,he];show p.size+1+v.size<=_;omega
  have Ht:Hid (toL (p ++ Utf8.encode 94 ++ v)=toL p ++ [94] ++ toL v):=by unfold Hid;rw[toL_app,toL_app,he];(first | done | rfl)
  clear he
  go_enter Tryz.func225,Tryz.ntmps225
  go_wp2_with fail
  go_ret
  refine ⟨_,rfl, ?_,by go_grown⟩
  rw[Ht.out]
  unfold textB
  rw[if_neg (by decide),List.append_nil]
 ·have he:Utf8.encode 61=⟨#[61]⟩:=by rfl
  have hs1:p.size+(Utf8.encode 61).size<=9223372036854775807:=by rw[he];show p.size+1<=_;omega
  have hs2:(p ++ Utf8.encode 61).size+v.size<=9223372036854775807:=by rw[ByteArray.size_append,he];show p.size+1+v.size<=_;omega
  have Ht:Hid (toL (p ++ Utf8.encode 61 ++ v)=toL p ++ [61] ++ toL v):=by unfold Hid;rw[toL_app,toL_app,he];(first | done | rfl)
  clear he
  go_enter Tryz.func225,Tryz.ntmps225
  go_wp2_with fail
  go_ret
  refine ⟨_,rfl, ?_,by go_grown⟩
  rw[Ht.out]
  unfold textB
  rw[if_neg (by decide),List.append_nil]
 ·have he:Utf8.encode 62=⟨#[62]⟩:=by rfl
  have hs1:p.size+(Utf8.encode 62).size<=9223372036854775807:=by rw[he];show p.size+1<=_;omega
  have hs2:(p ++ Utf8.encode 62).size+v.size<=9223372036854775807:=by rw[ByteArray.size_append,he];show p.size+1+v.size<=_;omega
  have Ht:Hid (toL (p ++ Utf8.encode 62 ++ v)=toL p ++ [62] ++ toL v):=by unfold Hid;rw[toL_app,toL_app,he];(first | done | rfl)
  have hs3:(p ++ Utf8.encode 62 ++ v).size+(Lib.itoa n).toArray.size<=9223372036854775807:=by rw[ByteArray.size_append,ByteArray.size_append,he];show p.size+1+v.size+_<=_;have:=hit;simp at this ⊢;omega
  have hs3':(p ++ Utf8.encode 62 ++ v).size+(⟨(Lib.itoa n).toArray⟩:ByteArray).size<=9223372036854775807:=hs3
  clear he
  go_enter Tryz.func225,Tryz.ntmps225
  go_wp2_with fail
  refine Calls.mono (HF.out _ ((Below.refl _ w).alloc (Nat.le_refl _) _)) ?_
  rintro e w1 ⟨rfl,hb1⟩
  have HB:Hid (Below w.heap.size w w1):=hb1
  clear hb1
  go_wp2_with fail
  go_ret
  refine ⟨_,rfl, ?_,HB.out⟩
  rw[toL_app,Ht.out]
  unfold textB
  rw[if_pos (show UInt8.toNat 62=62 from rfl)]
  rfl

abbrev RdP (w:World) (rb:Nat) (s:ByteArray):Prop:=Blk w rb #[.string s,.bool false] 245

theorem RdP.set0 {w:World} {rb:Nat} {s:ByteArray} (h:RdP w rb s) (t:ByteArray):RdP (w.setCell ⟨rb,0,none⟩ (.string t)) rb t:=by
 unfold RdP Blk at h ⊢
 simp[World.setCell,Array.getElem?_modify,h]


end Go.Proofs.YtfmmllpjgkgeaaaGreatDoor

