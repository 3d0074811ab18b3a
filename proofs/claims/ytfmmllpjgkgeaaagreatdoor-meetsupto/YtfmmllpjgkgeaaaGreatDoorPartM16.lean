import Derived.Lib.AppendStr
import Derived.Test.YtfmmllpjgkgeaaaGreatDoorPartM11
set_option linter.unusedVariables false
set_option linter.unusedSimpArgs false
set_option maxHeartbeats 16000000
set_option maxRecDepth 100000
namespace Go.Proofs.YtfmmllpjgkgeaaaGreatDoor
open Go.Proofs.Tryz
def aW(n:Nat):Thk.Bs:=if n<128 then [UInt8.ofNat n]else [UInt8.ofNat (n % 128+128),UInt8.ofNat (n / 128)]
def jX(d:Nat):Thk.Bs:=aW (who d)++aW (nth d)
def encR(r:Nat×Nat):Thk.Bs:=jX r.1++aW r.2
def encI(x:Nat×Thk.Bs):Thk.Bs:=jX x.1++aW x.2.length++x.2
def encS(rs:List (Nat×Nat))(its:List (Nat×Thk.Bs)):Thk.Bs:=aW rs.length++rs.flatMap encR++aW its.length++its.flatMap encI
def iI(r:Nat×Nat):List Nat:=(List.range r.2).map (λk=>r.1+k)
def bP(rs:List (Nat×Nat)):List Nat:=rs.flatMap iI
theorem BK(d m:Nat):iI (d,m+1)=iI (d,m)++[d+m]:=by simp[iI,List.range_succ]
theorem sN(rs:List (Nat×Nat))(r:Nat×Nat):bP (rs++[r])=bP rs++iI r:=by simp[bP]
theorem uw{d k:Nat}(h:nth d+k<512):who (d+k)=who d:=by unfold who nth at *;omega
theorem qP{d k:Nat}(h:nth d+k<512):nth (d+k)=nth d+k:=by unfold nth at *;omega
theorem qm{n:Nat}(h:n<128):aW n=[UInt8.ofNat n]:=if_pos h
theorem qp{n:Nat}(h:¬n<128):aW n=[UInt8.ofNat (n % 128+128),UInt8.ofNat (n / 128)]:=if_neg h
theorem bD(n:Nat):1<=(aW n).length/\(aW n).length<=2:=by unfold aW;split<;>simp
end Go.Proofs.YtfmmllpjgkgeaaaGreatDoor
namespace Go.Proofs.YtfmmllpjgkgeaaaGreatDoor
open Go.Proofs.Tryz
theorem qQ(k n:Nat)(h:n<2 ^ k):(BitVec.ofInt k (n:Int)).toNat=n:=by
 rw[BitVec.toNat_ofInt];have h2:((2 ^ k:Nat):Int)=(2:Int) ^ k:=by simp
 rw[Int.emod_eq_of_lt (by omega) (by omega)];exact Int.toNat_natCast n
theorem uy(k:IntKind)(x y:Nat)(hx:x<2 ^ k.bits)(hy:y<2 ^ k.bits):bits .and k (x:Int) (y:Int)=k.wrap ((x &&& y:Nat):Int):=by show k.wrap _=_;rw[BitVec.toNat_and,qQ _ _ hx,qQ _ _ hy]
theorem lV(k:IntKind)(x y:Nat)(hx:x<2 ^ k.bits)(hy:y<2 ^ k.bits):bits .or k (x:Int) (y:Int)=k.wrap ((x ||| y:Nat):Int):=by show k.wrap _=_;rw[BitVec.toNat_or,qQ _ _ hx,qQ _ _ hy]
theorem wrap_i64(n:Nat)(h:n<9223372036854775808):IntKind.i64.wrap (n:Int)=n:=by simp[IntKind.wrap,IntKind.bits,IntKind.signed];omega
theorem wrap_u8(n:Nat)(h:n<256):IntKind.u8.wrap (n:Int)=n:=by simp[IntKind.wrap,IntKind.bits,IntKind.signed];omega
theorem Qe(n:Nat):n &&& 127=n % 128:=Nat.and_two_pow_sub_one_eq_mod n 7
theorem Qg(a b:Nat)(h:a<128):a ||| (b*128)=a+b*128:=by have:=Nat.two_pow_add_eq_or_of_lt (i:=7) (b:=a) h b;rw[Nat.or_comm,<- Nat.mul_comm 128 b];rw[show(2:Nat) ^ 7=128 from rfl]at this;omega
theorem DK(n:Nat)(h:n<4611686018427387904):bits .and .i64 (n:Int) 127=((n % 128:Nat):Int):=by have:=uy .i64 n 127 (Nat.lt_of_lt_of_le h (by decide)) (by decide);rw[Qe,wrap_i64 _ (by omega)]at this;exact this
theorem yR(n:Nat)(h:n<128):bits .or .i64 (n:Int) 128=((n+128:Nat):Int):=by have:=lV .i64 n 128 (Nat.lt_of_lt_of_le h (by decide)) (by decide);have e:=Qg n 1 h;rw[show(128:Nat)=1*128 from rfl,e,wrap_i64 _ (by omega)]at this;exact this
theorem DL(n:Nat)(h:n<256):bits .and .u8 (n:Int) 127=((n % 128:Nat):Int):=by have:=uy .u8 n 127 h (by decide);rw[Qe,wrap_u8 _ (by omega)]at this;exact this
theorem DN(n:Nat)(h:n<256):bits .and .u8 (n:Int) 128=if n<128 then 0 else 128:=by
 have hall:∀m:Fin 256,bits .and .u8 ((m.val:Nat):Int) 128=if m.val<128 then 0 else 128:=by decide +kernel
 exact hall ⟨n,h⟩
theorem WQ(a b:Nat)(h:a<128)(hb:b<1048576):bits .or .i64 (a:Int) ((b*128:Nat):Int)=((a+b*128:Nat):Int):=by have:=lV .i64 a (b*128) (Nat.lt_of_lt_of_le h (by decide)) (Nat.lt_of_lt_of_le (show b*128<134217728 by omega) (by decide));rw[Qg a b h,wrap_i64 _ (by omega)]at this;exact this
theorem or_zero(b:Nat)(hb:b<1048576):bits .or .i64 0 (b:Int)=(b:Int):=by have:=lV .i64 0 b (by decide) (Nat.lt_of_lt_of_le hb (by decide));rw[Nat.zero_or,wrap_i64 _ (by omega)]at this;exact this
end Go.Proofs.YtfmmllpjgkgeaaaGreatDoor
namespace Go.Proofs.YtfmmllpjgkgeaaaGreatDoor
open Go.Proofs.Tryz Go.RowKit Go.Maps
variable{B:Nat}{v:Value}{w w':World}
theorem Tryz.infoU8:(prog.info? 5).map (λi=>(i.zero,i.size,i.bytes))=some (some (.int .u8 0),1,1):=by kernel_rfl
def kX(l:Thk.Bs):List Value:=l.map λb=>.int .u8 (b.toNat:Int)
theorem gY(l m:Thk.Bs):kX (l++m)=kX l++kX m:=by simp[kX]
theorem KY(l:Thk.Bs):(kX l).length=l.length:=by simp[kX]
def bF(B:Nat)(w:World)(v:Value)(l:Thk.Bs):Prop:=w.ownsRow B 5 1 v l.length (kX l)
def U8(w:World)(k:Nat):Prop:=∃cs fz,w.heap[k]?=some (.cells cs 5 fz)
def dh(B:Nat)(w w':World):Prop:=ay (λk=>B<=k/\U8 w k) w w'
theorem dh.refl(B:Nat)(w:World):dh B w w:=ay.refl _ w
theorem dh.trans{a b c:World}(h:dh B a b)(k:dh B b c):dh B a c:=by have hs:=h.size;refine⟨k.os.trans h.os,k.tape.trans h.tape,k.output.trans h.output,Nat.le_trans hs k.size,λi hi hm=>?_⟩;have e:=h.block i hi hm;refine(k.block i (Nat.lt_of_lt_of_le hi hs) (λhk=>?_)).trans e;obtain⟨h1,cs,fz,h2⟩:=hk;exact hm ⟨h1,cs,fz,e▸h2⟩
theorem dh.of_below(hb:Below w.heap.size w w'):dh B w w':=ay.of_below hb
theorem dh.app{o:Obj}{l:Thk.Bs}(h:bF B w v l)(hg:(w.alloc o).grownBy w' v.ownBlock):dh B w w':=by
 refine(ay.of_below ((Below.refl _ w).alloc (Nat.le_refl _) o):ay (λk=>B<=k/\U8 w k) w (w.alloc o)).grown hg (λk e=>Or.inl ?_);rcases h.2 with⟨rfl,_⟩|⟨g,cap,cur,rfl,hB,hg,_⟩
 ·cases e
 ·cases e;exact⟨hB,cur,_,hg⟩
theorem dh.app0{l:Thk.Bs}(h:bF B w v l)(hg:w.grownBy w' v.ownBlock):dh B w w':=by
 refine(ay.refl _ w).grown hg (λk e=>Or.inl ?_);rcases h.2 with⟨rfl,_⟩|⟨g,cap,cur,rfl,hB,hg,_⟩
 ·cases e
 ·cases e;exact⟨hB,cur,_,hg⟩
theorem dh.blk{b:Nat}{cs:Array Value}{t:TypeId}(h:dh B w w')(k:aA w b cs t)(ht:t≠5):aA w' b cs t:=by
 refine k.aJ h (λhm=>?_);obtain⟨_,cs',fz,h2⟩:=hm;rw[show w.heap[b]?=_ from k]at h2;cases h2
 exact ht rfl
theorem dh.below(h:dh B w w')(hB:B<=w.heap.size):Below B w w':=⟨h.os,h.tape,h.output,h.size,λk hk=>h.block k (by omega) (λhm=>by have:=hm.1;omega)⟩
theorem bF.heap{l:Thk.Bs}(h:bF B w v l)(e:w'.heap=w.heap):bF B w' v l:=by unfold bF World.ownsRow at h⊢;rw[e];exact h
theorem dh.heap(hx:w'.heap=w.heap)(ho:w'.os=w.os)(ht:w'.tape=w.tape)(hp:w'.output=w.output):dh B w w' :=
 ⟨ho,ht,hp,by rw[hx];exact Nat.le_refl _,λk _ _=>by rw[hx]⟩
theorem bF.nil(B:Nat)(w:World):bF B w (.slice none 0 0) []:=World.ownsRow_nil _ _ _ _
theorem Jv(B:Nat)(w:World)(v:Value)(l:Thk.Bs)(n:Nat)(h:bF B w v l)(hB:B<=w.heap.size)(hl:l.length<=1000000)(hn:n<16384):Calls prog 220 #[v,.int .i64 n] w λe w'=>∃v',e=.returned v'/\bF B w' v' (l++aW n)/\dh B w w':=by
 obtain⟨i0,hi,hz0,hz1,hz2⟩:=info_parts Tryz.infoU8;have H:Hid (bF B w v l):=h;have h63:l.length+1<=maxLen:=by unfold maxLen;omega
 have h64:(l.length+1)*1<=140737488355328:=by omega
 by_cases hs:n<128
 ·have hconv:IntKind.u8.wrap (n:Int)=n:=wrap_u8 n (by omega);have hgt:((n:Int) > 127)=False:=by simp;omega
  have He:Hid (kX (l++aW n)=kX l++[.int .u8 (n:Int)]):=by unfold Hid;rw[qm hs,gY];simp[kX,UInt8.toNat_ofNat'];omega
  clear h;go_enter func220,ntmps220;go_wp2_with fail;go_loopg [0,1] 0 (λg v0 v1 wx=>v0=v/\v1=.int .i64 n/\wx=w);case atStart=>exact⟨rfl,rfl,rfl⟩
  case round =>obtain⟨rfl,rfl,rfl⟩:=hrel;go_wp2_with (first|(at_builtin;refine wpList_append_own_at _ rfl (.tmp 16) (.tmp 19) 93 rfl B 5 i0 (.int .u8 0) 1 1 underlying93 hi hz0 hz1 hz2 rfl (by decide) _ _ _ rfl (H.out.alloc _) ⟨wr.heap.size,0,none⟩ 1 1 [.int .u8 (n:Int)] rfl rfl (cell_one_new _ _ _) (by intro u hu;simp at hu;subst hu;rfl) h63 h64 (by simp;omega) ?_;intro v6 w6 kF eG Ae uO));go_ret;refine⟨_,rfl, ?_,dh.app H.out eG⟩;unfold bF;rw[He.out,List.length_append,qm hs];exact kF
 ·have hb0:n % 128+128<256:=by omega
  obtain⟨q,hq⟩:∃q,n / 128=q:=⟨_,rfl⟩;obtain⟨r,hr⟩:∃r,n % 128+128=r:=⟨_,rfl⟩;have hlow:bits .and .i64 (n:Int) 127=(n:Int) % 128:=by rw[DK n (by omega)];omega
  have hmore:bits .or .i64 ((n:Int) % 128) 128=(r:Int):=by have:=yR (n % 128) (by omega);rw[<- hr,<- this];congr 1
  have hcv0:(r:Int) % 256=r:=by omega
  have hcv1:(q:Int) % 256=q:=by omega
  have hdiv:(n:Int) / 128=(q:Int):=by omega
  have hgt:(n:Int) > 127:=by omega
  have Zw:q<128:=by omega
  have He1:Hid (kX (l++[UInt8.ofNat r])=kX l++[.int .u8 (r:Int)]):=by unfold Hid;rw[gY];simp[kX,UInt8.toNat_ofNat'];omega
  have He2:Hid (kX (l++aW n)=kX (l++[UInt8.ofNat r])++[.int .u8 (q:Int)]):=by unfold Hid;rw[qp hs,hr,hq,gY,gY,List.append_assoc];simp[kX,UInt8.toNat_ofNat'];omega
  have h65:l.length+1+1<=maxLen:=by unfold maxLen;omega
  have h66:(l.length+1+1)*1<=140737488355328:=by omega
  clear hq hr hb0;clear h;go_enter func220,ntmps220;go_wp2_with fail;go_loopg [0,1] 1 (λg v0 v1 wx=>(g=1/\v0=v/\v1=.int .i64 n/\wx=w)\/(g=0/\v1=.int .i64 q/\wx.ownsRow B 5 1 v0 (l.length+1) (kX (l++[UInt8.ofNat r]))/\dh B w wx));case atStart=>exact Or.inl ⟨rfl,rfl,rfl,rfl⟩
  case round =>
   rcases hrel with⟨hg,rfl,rfl,rfl⟩|⟨hg,rfl,hown,hF⟩
   ·go_wp2_with (first|(at_builtin;refine wpList_append_own_at _ rfl (.tmp 7) (.tmp 12) 93 rfl B 5 i0 (.int .u8 0) 1 1 underlying93 hi hz0 hz1 hz2 rfl (by decide) _ _ _ rfl (H.out.alloc _) ⟨wr.heap.size,0,none⟩ 1 1 [.int .u8 (r:Int)] rfl rfl (cell_one_new _ _ _) (by intro u hu;simp at hu;subst hu;rfl) h63 h64 (by simp;omega) ?_;intro v6 w6 kF eG Ae uO;have HF6:=dh.app H.out eG;clear eG uO));go_roundg 0;case measure=>omega
    case rel=>exact Or.inr ⟨rfl,rfl,by rw[He1.out];exact kF,HF6⟩
   ·have HF:Hid (dh B w wr):=hF;have HV:Hid (bF B wr u0 (l++[UInt8.ofNat r])):=by unfold Hid bF;rw[List.length_append];exact hown
    have hBr:B<=wr.heap.size:=Nat.le_trans hB hF.size;have hgt2:¬((q:Int) > 127):=by omega
    have HO:Hid (∀o,(wr.alloc o).ownsRow B 5 1 u0 (l.length+1) (kX (l++[UInt8.ofNat r]))):=λo=>hown.alloc o;clear hF hown;go_wp2_with (first|(at_builtin;refine wpList_append_own_at _ rfl (.tmp 16) (.tmp 19) 93 rfl B 5 i0 (.int .u8 0) 1 1 underlying93 hi hz0 hz1 hz2 rfl (by decide) _ _ _ rfl (HO.out _) ⟨wr.heap.size,0,none⟩ 1 1 [.int .u8 (q:Int)] rfl rfl (cell_one_new _ _ _) (by intro u hu;simp at hu;subst hu;rfl) h65 h66 (by simp;omega) ?_;intro v6 w6 kF eG Ae uO;have HF6:=dh.app HV.out eG;clear eG uO));go_ret;refine⟨_,rfl, ?_,HF.out.trans HF6⟩;unfold bF;rw[He2.out,List.length_append,qp hs];exact kF
theorem uz(s:ByteArray):Lib.strCells s=kX (ah s):=by unfold Lib.strCells kX ah;rfl
end Go.Proofs.YtfmmllpjgkgeaaaGreatDoor
namespace Go.Proofs.YtfmmllpjgkgeaaaGreatDoor
open Go.Proofs.Tryz Go.RowKit Go.Maps Go.WideMaps
abbrev Ug(d m:Nat):Value:=.agg #[.int .i64 (who d),.int .i64 (nth d),.int .i64 m]
theorem Qh(w:World)(d m k:Nat)(hk:nth d+k<512):Calls prog 243 #[Ug d m,.int .i64 k] w λe w'=>e=.returned (aP (d+k))/\Below w.heap.size w w':=by
 unfold aP Ug;rw[uw hk,qP hk];generalize who d=a at *;generalize nth d=n at *;have hkr:=aA.new (w.alloc (.cells #[.int .i64 a,.int .i64 n,.int .i64 m] 250)) #[.int .i64 0,.int .i64 0] 134;rw[World.size_alloc]at hkr;have r0:=(hkr.cell 0).trans rfl;have r1:=(hkr.cell 1).trans rfl;have f0:=hkr.frozen;have hwr:wrap64 ((n:Int)+(k:Int))=(n:Int)+(k:Int):=by unfold wrap64;omega
 clear hkr;go_enter func243,ntmps243;go_wp2_with fail;refine bodyPost_ret (v:=.agg #[.int .i64 a,.int .i64 ((n+k:Nat):Int)]) (by simp[results,Tryz.results243,go_sem,r0,r1,hwr,bQ,aK,World.cell?_setCell_other]) rfl ⟨rfl,by go_grown⟩
theorem FN(w:World)(d m:Nat)(hm:nth d+m<=512):Calls prog 184 #[Ug d m] w λe w'=>∃v,e=.returned v/\w'.ownsRow w.heap.size 134 2 v m (aT (iI (d,m)))/\Below w.heap.size w w':=by
 obtain⟨i0,hi,hz0,hz1,hz2⟩:=info_parts Tryz.infoDot;have hnd:=uZ d;have kb:=aA.new w #[.int .i64 (who d),.int .i64 (nth d),.int .i64 m] 250;have hb0:Below w.heap.size w (w.alloc (.cells #[.int .i64 (who d),.int .i64 (nth d),.int .i64 m] 250)):=(Below.refl _ w).alloc (Nat.le_refl _) _;go_enter func184,ntmps184;generalize hw0:w.alloc (.cells #[.int .i64 (who d),.int .i64 (nth d),.int .i64 m] 250)=w0 at *;have c2:w0.cell? ⟨w.heap.size,2,none⟩=some (.int .i64 m):=(kb.cell 2).trans rfl;go_wp2_with fail;go_loopg [3,7] m (λg v3 v7 wx=>∃i:Nat,i+g=m/\v7=.int .i64 i/\wx.ownsRow w.heap.size 134 2 v3 i (aT (iI (d,i)))/\Below w.heap.size w wx/\aA wx w.heap.size #[.int .i64 (who d),.int .i64 (nth d),.int .i64 m] 250);case atStart=>exact⟨0,by omega,rfl,World.ownsRow_nil _ _ _ _,hb0,kb⟩
 case round =>
  obtain⟨i,hig,rfl,hown,hb,hk⟩:=hrel;have HO:Hid (wr.ownsRow w.heap.size 134 2 u3 i (aT (iI (d,i)))):=hown;have HB:Hid (Below w.heap.size w wr):=hb;have HK:Hid (aA wr w.heap.size #[.int .i64 (who d),.int .i64 (nth d),.int .i64 m] 250):=hk;by_cases him:i<m
  ·have k0:=(hk.cell 0).trans rfl;have k1:=(hk.cell 1).trans rfl;have k2:=(hk.cell 2).trans rfl;have X3:Hid (_):=Qh wr d m i (by omega);have HE:Hid (aT (iI (d,i+1))=aT (iI (d,i))++[.int .i64 (who (d+i)),.int .i64 (nth (d+i))]):=by unfold Hid;rw[BK,qh]
   clear hown hb hk kb hb0 c2;generalize d+i=x at *;go_wp2_with fail;refine Calls.mono X3.out ?_;rintro e w1⟨rfl,hb1⟩;have hB1:Below w.heap.size w w1:=HB.out.trans (hb1.mono HB.out.size);have hO1:w1.ownsRow w.heap.size 134 2 u3 i (aT (iI (d,i))):=own_below HO.out hb1;have hK1:=HK.out.below hb1;have HO1:Hid (∀o,(w1.alloc o).ownsRow w.heap.size 134 2 u3 i (aT (iI (d,i)))):=λo=>hO1.alloc o;have HX:Hid (w1.ownsRow w.heap.size 134 2 u3 i (aT (iI (d,i)))/\Below w.heap.size w w1/\aA w1 w.heap.size #[.int .i64 (who d),.int .i64 (nth d),.int .i64 m] 250):=⟨hO1,hB1,hK1⟩;have hw1:w.heap.size<=w1.heap.size:=hB1.size;have h63:i+1<=maxLen:=by unfold maxLen;omega
   have h64:(i+1)*16<=140737488355328:=by omega
   have Jh:Hid (∀j u,([.int .i64 (who x),.int .i64 (nth x)]:List Value)[j]?=some u->(w1.alloc (.cells #[.int .i64 (who x),.int .i64 (nth x)] 134)).cell? ((⟨w1.heap.size,0,none⟩:Addr).add j)=some u):=λj u hj=>by
    match j,hj with
    | 0,hj=>cases hj;simp[Addr.add]
    | 1,hj=>cases hj;simp[Addr.add]
   clear hO1 hB1 hK1 hb1 HO HB HK X3 k0 k1 k2;go_wp2_with (first|(at_builtin;refine wpList_append_own_at _ rfl (.tmp 10) (.tmp 14) 137 rfl w.heap.size 134 i0 (.agg #[.int .i64 0,.int .i64 0]) 2 16 underlying137 hi hz0 hz1 hz2 rfl (by decide) _ _ _ rfl (HO1.out _) ⟨w1.heap.size,0,none⟩ 1 1 [.int .i64 (who x),.int .i64 (nth x)] rfl rfl Jh.out (by simp[Value.oneCell']) h63 h64 (by simp;omega) ?_;intro v6 w6 kF eG Ae uO));have hb6:Below w.heap.size w w6:=grown_below HX.out.2.1 (Nat.le_refl _) HX.out.1 eG;have hk6:aA w6 w.heap.size #[.int .i64 (who d),.int .i64 (nth d),.int .i64 m] 250:=by refine((HX.out.2.2.alloc _).aJ (M:=λk=>u3.ownBlock=some k) ((ay.refl _ _).grown eG (λk e=>Or.inl e)) (λe=>?_));exact ownsRow_ne HX.out.1 (λcur fz h=>by rw[show w1.heap[w.heap.size]?=_ from HX.out.2.2]at h;cases h) e
   go_roundg (m-(i+1));case measure=>omega
   case rel=>exact⟨i+1,by omega,by go_num,by rw[HE.out];exact kF,hb6,hk6⟩
  ·clear hown hb hk kb hb0 c2;have e:i=m:=by omega
   subst e;go_wp2_with fail;go_ret;exact⟨_,rfl,HO.out,HB.out⟩
end Go.Proofs.YtfmmllpjgkgeaaaGreatDoor
namespace Go.Proofs.YtfmmllpjgkgeaaaGreatDoor
open Go.Proofs.Tryz Go.RowKit Go.Maps Go.WideMaps Go.Shelf
attribute [local go_sem] Oper.semAt_some
theorem Nh(w:World)(io:Option Nat):Calls prog 256 #[.map io] w λe w'=>e=.returned (.func (.func 282) #[] #[.pointer (some ⟨w.heap.size,0,none⟩)])/\w'=w.alloc (.cells #[.map io] 98):=by go_enter func256,ntmps256;go_wp2;go_ret;exact⟨rfl,rfl⟩
theorem FP(w0:World)(kb:Nat)(io:Option Nat)(It:Nat->Option Value)(N:Nat)(hk:aA w0 kb #[.map io] 98)(hM:cZ prog 134 w0 (.map io) N (im It))(jw:∀n,It n≠none->okD n):Iter prog 282 #[.pointer (some ⟨kb,0,none⟩)] (λn:Nat=>#[Value.agg #[.int .i64 (who n),.int .i64 (nth n)]]) (AllOf It) (λk=>k=kb\/io=some k) w0:=by
 intro l J Jx W hE hJ hJx hY h0;have hkb:aA W kb #[.map io] 98:=(hE.2 kb (Or.inl rfl)).trans hk;have c0:W.cell? ⟨kb,0,none⟩=some (.map io):=(hkb.cell 0).trans rfl;have MI:cZ prog 134 W (.map io) N (im It):=by
  rcases hM with h|⟨b,hb,h⟩
  ·exact Or.inl h
  ·exact Or.inr ⟨b,hb,h.block (hE.2 b (Or.inr (by cases hb;rfl)))⟩
 have hlt:∀k,(k=kb\/io=some k)->k<W.heap.size:=by
  rintro k (rfl|h)
  ·exact hkb.lt
  ·exact MI.lt k (by rw[h])
 clear hM hk;refine callsIn_of_wp func282 rfl trivial ?_ rfl;simp only[ntmps282,List.size_toArray,List.length_cons,List.length_nil,Nat.reduceAdd,Nat.reduceSub,Array.replicate_succ,Array.replicate_zero,List.push_toArray,List.append_toArray,List.nil_append,List.cons_append];gi_wp2_with (first|(gi_at_range;refine oI rfl (.tmp 4) 98 rfl 69 iU underlying98 rfl MI ?_;intro w1 hr1 hg1 hs1;go_frame));obtain⟨T,hT⟩:∃T:Nat->Prop,T=λk=>k=W.heap.size:=⟨_,rfl⟩;have hJ1:J T [] w1:=hJ _ _ _ _ _ h0 ((ay.refl _ W).grown hg1 (λk e=>by cases e)) (λk hk=>by rw[hT]at hk;subst hk;exact⟨Or.inr (Nat.le_refl _),by omega⟩)
 gi_loopw [3] (λ_ wx=>∃(left:Value->Prop)(q:Nat)(pre:List Nat),aU prog 134 wx (.map io) W.heap.size N (im It) left q/\J T pre wx/\pre.Nodup/\∀k,k∈pre↔It k≠none/\¬left (aP k)) (λ_ wx=>wu (.map io) W.heap.size wx)
 case atStart =>refine⟨_,_,[],hr1,hJ1,List.Pairwise.nil,λk=>?_⟩;simp only[List.not_mem_nil,false_iff,iC];rintro⟨h1,h2⟩;exact h2 (Option.isSome_iff_ne_none.2 h1)
 case round =>
  obtain⟨left,q,pre,hR,Y7,hnd,hmem⟩:=hrel;clear hr1 hJ1;have HR:Hid (aU prog 134 wr (.map io) W.heap.size N (im It) left q):=hR;have vk:Hid (∀key v,left key->im It key=some v->∃x:Nat×Value,key=(λx:Nat×Value=>aP x.1) x/\v=(λx:Nat×Value=>x.2) x):=λkey v _ hk=>by obtain⟨n,h1,h2⟩:=mW hk;exact⟨(n,v),h1,rfl⟩
  have Y8:Hid (J T pre wr):=Y7;have Hm:Hid (pre.Nodup/\∀k,k∈pre↔It k≠none/\¬left (aP k)):=⟨hnd,hmem⟩;have hrl:W.heap.size<wr.heap.size:=hR.lt;clear hR Y7 hnd hmem;gi_wp2_with (first|(gi_at_next;refine qg rfl (.tmp 5) rfl iU (λx:Nat×Value=>aP x.1) (λx:Nat×Value=>x.2) rfl HR.out vk.out ?_ ?_))
  ·intro hl0;gi_wp2
   go_end0
   refine⟨⟨_,rfl⟩,Or.inl ⟨pre,⟨Hm.out.1,λn=>?_⟩,T,Y8.out⟩⟩;rw[Hm.out.2 n];exact⟨λh=>h.1,λh=>⟨h,hl0 _⟩⟩
  ·intro n v w4 q4 hlk hmk ni hlt4 hg4 hs4 Wh;have hIn:It n≠none:=by rw[<- iC It n];exact λe=>by rw[show aP n=_ from rfl]at e;rw[hmk]at e;cases e
   have hch:ay T wr (w4.alloc (.cells #[.int .i64 (who n),.int .i64 (nth n)] 134)):=((ay.refl T wr).grown hg4 (λk e=>by cases e;left;rw[hT])).below ((Below.refl _ w4).alloc (Nat.le_refl _) _);have MJ:J T pre (w4.alloc (.cells #[.int .i64 (who n),.int .i64 (nth n)] 134)):=hJ _ _ _ _ _ Y8.out hch (λk hk=>⟨Or.inl hk,by rw[hT]at hk;subst hk;simp;omega⟩);obtain⟨fn,tmps,assign,body,hy,MK⟩:=hY T pre n _ MJ (yH jw Hm.out.1 Hm.out.2 hlk hIn);try dsimp only at hy
   gi_wp2;refine(eX MK).mono ?_;rintro e W3 (⟨rfl,hJ3,hk3⟩|⟨rfl,hJx3,_⟩)
   ·have PW:aU prog 134 W3 (.map io) W.heap.size N (im It) (λy=>left y/\y≠aP n) q4:=by have h5:=ni.aJ (M:=λ_=>False) (ay.of_below ((Below.refl _ w4).alloc (Nat.le_refl _) (.cells #[.int .i64 (who n),.int .i64 (nth n)] 134))) (λ_ _ h=>h) (λh=>h);exact h5.keep (λb hb=>hk3.2 b (Or.inl (Or.inr (by cases hb;rfl)))) (hk3.2 _ (Or.inr (by rw[hT])))
    gi_wp2;go_roundw;case rel =>
     refine⟨_,q4,pre++[n],PW,hJ3, ?_,λk=>?_⟩
     ·rw[List.nodup_append];exact⟨Hm.out.1,by simp,λx hx y hy e=>by simp at hy;subst hy;subst e;exact((Hm.out.2 _).1 hx).2 hlk⟩
     ·rw[List.mem_append,List.mem_singleton,Hm.out.2 k];constructor
      ·rintro(⟨h1,h2⟩|rfl)
       ·exact⟨h1,λh=>h2 h.1⟩
       ·exact⟨hIn,λh=>h.2 rfl⟩
      ·rintro⟨h1,h2⟩;by_cases e:k=n
       ·exact Or.inr e
       ·exact Or.inl ⟨h1,λh=>h2 ⟨h,λe2=>e (gI e2)⟩⟩
    case measure=>rw[PW.wu,HR.out.wu];exact hlt4
   ·gi_wp2;refine bodyPost_ret (results_none rfl _ _ _) rfl ?_;exact⟨⟨_,rfl⟩,Or.inr ⟨pre++[n],T,hJx3⟩⟩
def DR(L:Nat->Bool):Nat->Option Value:=λn=>if L n=true then some pV else none
theorem Zx(L:Nat->Bool):lm L=im (DR L):=by
 refine Jb (λn=>?_) (λkey hk=>?_)
 ·unfold DR;by_cases h:L n=true
  ·rw[if_pos h];unfold lm;rw[if_pos ⟨n,h,rfl⟩]
  ·rw[if_neg h];unfold lm;rw[if_neg];rintro⟨m,h1,h2⟩;exact h (gI h2▸h1)
 ·unfold lm;rw[if_neg];rintro⟨m,_,h2⟩;exact hk m h2
theorem KZ(L:Nat->Bool)(n:Nat):DR L n≠none↔L n=true:=by unfold DR;by_cases h:L n=true<;>simp[h]
end Go.Proofs.YtfmmllpjgkgeaaaGreatDoor
namespace Go.Proofs.YtfmmllpjgkgeaaaGreatDoor
open Go.Proofs.Tryz Go.RowKit Go.Maps Go.WideMaps Go.Shelf
variable{left:Value->Prop}
theorem FQ{a m d:Nat}(hm:m<=501):d∈iI (dV a 1,m)↔who d=a/\1<=nth d/\nth d<=m:=by
 have hw:nth (dV a 1)=1:=dw (by omega);have hw':who (dV a 1)=a:=eF (by omega);unfold iI;rw[List.mem_map];dsimp only;constructor
 ·rintro⟨k,hk,rfl⟩;have hk':=List.mem_range.1 hk;rw[uw (by omega),qP (by omega),hw,hw'];exact⟨rfl,by omega,by omega⟩
 ·rintro⟨rfl,h1,h2⟩;refine⟨nth d-1,List.mem_range.2 (by omega), ?_⟩;refine lQ ?_ ?_
  ·rw[uw (by omega),hw']
  ·rw[qP (by omega),hw];omega
theorem Jw(r:Nat×Nat):(iI r).Nodup:=by unfold iI;rw[List.nodup_iff_pairwise_ne,List.pairwise_map];exact List.Pairwise.imp (λh=>by omega) (List.pairwise_lt_range (n:=r.2))
theorem qw(r:Nat×Nat):(iI r).length=r.2:=by simp[iI]
theorem yS(a b:List Nat):aT (a++b)=aT a++aT b:=by simp[aT]
theorem yT(a:List Nat):(aT a).length=a.length*2:=by
 induction a with
 | nil=>rfl
 | cons x r ih=>simp[aT]at ih⊢;omega
theorem yU(a:List Nat):∀u∈aT a,u.oneCell'=true:=by intro u hu;unfold aT at hu;obtain⟨x,_,hx⟩:=List.mem_flatMap.1 hu;simp at hx;rcases hx with rfl|rfl<;>rfl
theorem gQ.iZ{P:Program}{k:TypeId}{w:World}{b r N cnt:Nat}{m:Value->Option Value}{t:TypeId}{cur:Array Value}{fz:Nat×Nat}(h:gQ P k w b r N m left cnt)(e:w.heap[r]?=some (.cells cur t fz)):False:=by obtain⟨D,lf,⟨es,clock,since,seen,c0,_,_,_,_,h2,_⟩,_⟩:=h;rw[h2]at e;cases e
structure Got(c:Nat->Nat)(L:Nat->Bool)(left:Value->Prop)(ns:List Nat):Prop where
 nd:ns.Nodup
 mem:∀d,d∈ns↔(L d=true\/(1<=nth d/\nth d<=c (who d)/\¬left (.int .i64 (who d))))
theorem Got.len{c:Nat->Nat}{L:Nat->Bool}{ns:List Nat}(h:Got c L left ns)(hc:∀a,c a<=501)(h5:∀a,c a≠0->a<=5)(hl:∀d,L d=true->okD d):ns.length<=3072 :=
 jT 3072 ns h.nd (λd hd=>by
  rcases(h.mem d).1 hd with h1|⟨h1,h2,_⟩
  ·exact lg (hl d h1)
  ·exact lg ⟨h5 _ (by omega),h1,by have:=hc (who d);omega⟩)
theorem Got.step{c:Nat->Nat}{L:Nat->Bool}{ns:List Nat}{a:Nat}(h:Got c L left ns)(ha:left (.int .i64 a))(hc:c a<=501)(hl:∀d,L d=true->c (who d)<nth d):Got c L (λy=>left y/\¬y=.int .i64 a) (ns++iI (dV a 1,c a)):=by
 refine⟨?_,λd=>?_⟩
 ·rw[List.nodup_append];refine⟨h.nd,Jw _,λx hx y hy e=>?_⟩;subst e;obtain⟨h1,h2,h3⟩:=(FQ hc).1 hy;rcases(h.mem x).1 hx with h4|⟨_,_,h4⟩
  ·have:=hl x h4;rw[h1]at this;omega
  ·rw[h1]at h4;exact h4 ha
 ·rw[List.mem_append,h.mem,FQ hc];by_cases e:who d=a
  ·rw[e];constructor
   ·rintro((h1|⟨h1,h2,h3⟩)|⟨_,h1,h2⟩)
    ·exact Or.inl h1
    ·exact absurd ha h3
    ·exact Or.inr ⟨h1,h2,λh=>h.2 rfl⟩
   ·rintro(h1|⟨h1,h2,_⟩)
    ·exact Or.inl (Or.inl h1)
    ·exact Or.inr ⟨rfl,h1,h2⟩
  ·have hne:¬(Value.int IntKind.i64 (who d:Int)=.int .i64 a):=λh=>e (by simp at h;omega);constructor
   ·rintro((h1|⟨h1,h2,h3⟩)|⟨h1,_⟩)
    ·exact Or.inl h1
    ·exact Or.inr ⟨h1,h2,λh=>h3 h.1⟩
    ·exact absurd h1 e
   ·rintro(h1|⟨h1,h2,h3⟩)
    ·exact Or.inl (Or.inl h1)
    ·exact Or.inl (Or.inr ⟨h1,h2,λh=>h3 ⟨h,hne⟩⟩)
theorem La(w:World)(co lo:Option Nat)(c:Nat->Nat)(L:Nat->Bool)(h:kM w (.map co) (.map lo) c L):Calls prog 209 #[.agg #[.map co,.map lo]] w λe w'=>∃v ns,e=.returned v/\bZ w' v ns/\ns.Nodup/\(∀d,d∈ns↔1<=nth d/\kW c L d)/\(∀b,v.ownBlock=some b->w.heap.size<=b)/\Below w.heap.size w w':=by
 obtain⟨⟨N,h1⟩,⟨N',h2⟩,h3,h4,h5⟩:=h;obtain⟨i0,hi,hz0,hz1,hz2⟩:=info_parts Tryz.infoDot;have HM:Hid (∀wy,Below w.heap.size w wy->cZ prog 3 wy (.map co) N (cm c)):=λwy hb=>h1.below hb;have vg:Hid (∀a,c a<=501):=h3;have H5:Hid (∀a,c a≠0->a<=5):=h4;have HL:Hid (∀d,L d=true->okD d/\c (who d)<nth d):=h5;have kb:=aA.new w #[.map co,.map lo] 100;have hb0:Below w.heap.size w (w.alloc (.cells #[.map co,.map lo] 100)):=(Below.refl _ w).alloc (Nat.le_refl _) _;have Zy:Hid (∀wx,Below w.heap.size w wx->Calls prog 249 #[.func (.func 282) #[] #[.pointer (some ⟨wx.heap.size,0,none⟩)]] (wx.alloc (.cells #[.map lo] 98)) λe w'=>∃v ns,e=.returned v/\AllOf (DR L) ns/\w'.ownsRow (wx.heap.size+1) 134 2 v ns.length (aT ns)/\Below (wx.heap.size+1) (wx.alloc (.cells #[.map lo] 98)) w'):=λwx hb=>by
  have hbx:Below wx.heap.size wx (wx.alloc (.cells #[.map lo] 98)):=(Below.refl _ wx).alloc (Nat.le_refl _) _;have hMl:cZ prog 134 (wx.alloc (.cells #[.map lo] 98)) (.map lo) N' (im (DR L)):=by rw[<- Zx];exact(h2.below hb).below hbx
  have jw:∀n,DR L n≠none->okD n:=λn hn=>(h5 n ((KZ L n).1 hn)).1;have:=wB _ _ _ (AllOf (DR L)) _ (FP _ wx.heap.size lo (DR L) N' (aA.new wx _ _) hMl jw) (enters_of func282 (by kernel_rfl) rfl) (by
   rintro k (rfl|hk)
   ·simp
   ·exact hMl.lt k (by rw[hk])) (λns hns=>Nat.le_trans (jT 3072 ns hns.1 (λn hn=>lg (jw n ((hns.2 n).1 hn)))) (by decide))
  rw[World.size_alloc]at this;exact this
 clear h1 h2 h3 h4 h5;go_enter func209,ntmps209;go_wp2_with fail;generalize hw0:w.alloc (.cells #[.map co,.map lo] 100)=w0 at *;have Hs0:Hid (w0.heap.size=w.heap.size+1):=by rw[<- hw0];unfold Hid;simp
 clear hw0;refine Calls.mono (Nh _ lo) ?_;rintro e w1⟨rfl,rfl⟩;go_wp2_with fail;refine Calls.mono (Zy.out _ hb0) ?_;rintro e w2⟨v2,ns0,rfl,hns,hown,hb2⟩;have hs0:=Hs0.out;have WR:Below w0.heap.size w0 w2:=((Below.refl _ w0).alloc (Nat.le_refl _) _).trans (hb2.mono (by omega));have hbw2:Below w.heap.size w w2:=hb0.trans (WR.mono (by omega));have k2:=kb.below WR;have c0:=(k2.cell 0).trans rfl;have hown0:w2.ownsRow w.heap.size 134 2 v2 ns0.length (aT ns0):=ownsRow_base hown (by omega);have hg0:Got c L (λkey=>(cm c key).isSome=true) ns0:=⟨hns.1,λd=>by
  rw[hns.2,KZ];constructor
  ·exact Or.inl
  ·rintro(h|⟨h1,h2,h3⟩)
   ·exact h
   ·exact absurd (by rw[pW,if_neg (by omega)];rfl) h3⟩
 have Lc:Hid (w2.ownsRow w.heap.size 134 2 v2 ns0.length (aT ns0)/\Below w.heap.size w w2/\Got c L (λkey=>(cm c key).isSome=true) ns0):=⟨hown0,hbw2,hg0⟩;have hM2:=HM.out _ hbw2;clear Zy kb hb0 hns hown hb2 WR hbw2 k2 hown0 hg0 HM hs0;go_wp2_with (first|(at_range;refine fO rfl (.tmp 11) 97 rfl 3 mQ underlying97 rfl hM2 ?_;intro w3 hr3 hg3 hs3;have hb3:Below w2.heap.size w2 w3:=((Below.refl _ w2).grown hg3 (Nat.le_refl _) (λk e=>by cases e));have X4:Hid (w3.ownsRow w.heap.size 134 2 v2 ns0.length (aT ns0)/\Below w.heap.size w w3):=⟨own_below Lc.out.1 hb3,Lc.out.2.1.trans (hb3.mono Lc.out.2.1.size)⟩;have hsz2:w.heap.size<=w2.heap.size:=Lc.out.2.1.size;clear hg3 hs3 hM2 hb3;go_frame));go_loopg [3] N (λg v3 wx=>∃(left:Value->Prop)(q:Nat)(ns:List Nat),g=q/\aU prog 3 wx (.map co) w2.heap.size N (cm c) left q/\wx.ownsRow w.heap.size 134 2 v3 ns.length (aT ns)/\Below w.heap.size w wx/\Got c L left ns);case atStart=>exact⟨_,_,ns0,rfl,hr3,X4.out.1,X4.out.2,Lc.out.2.2⟩
 case round =>
  obtain⟨left,q,ns,hq,hR,hown,hb,WS⟩:=hrel;have HR:Hid (aU prog 3 wr (.map co) w2.heap.size N (cm c) left q):=hR;have HX:Hid (wr.ownsRow w.heap.size 134 2 u3 ns.length (aT ns)/\Below w.heap.size w wr/\Got c L left ns):=⟨hown,hb,WS⟩;have vk:Hid (∀key v,left key->cm c key=some v->∃x:Nat,key=(λx:Nat=>Value.int .i64 x) x/\v=(λx:Nat=>Value.int .i64 (c x)) x):=λkey v _ hk=>by obtain⟨x,h1,h2,_⟩:=mV hk;exact⟨x,h1,h2⟩
  have hlen:ns.length<=3072:=WS.len vg.out H5.out (λd hd=>(HL.out d hd).1);clear hR hown hb WS hr3 Lc X4;go_wp2_with (first|(at_next;refine gu rfl (.tmp 12) rfl mQ (λx:Nat=>.int .i64 x) (λx:Nat=>.int .i64 (c x)) rfl HR.out vk.out ?_ ?_))
  ·intro hl0;have Hso:Hid (_):=uh wr w.heap.size u3 ns HX.out.1 (by omega);have hsh:∃ao cap,u3=.slice ao ns.length cap:=by
    rcases HX.out.1.2 with⟨h1,h2⟩|⟨g,cap,cur,h1,_⟩
    ·exact⟨none,0,by rw[h1,h2]⟩
    ·exact⟨_,cap,h1⟩
   obtain⟨ao,cap,hu3⟩:=hsh;have Hu3:Hid (u3=.slice ao ns.length cap):=hu3;clear hu3;have ag2:Hid (∀d,d∈ns↔1<=nth d/\kW c L d):=λd=>by
    rw[HX.out.2.2.mem];unfold kW;constructor
    ·rintro(h|⟨h1,h2,_⟩)
     ·exact⟨(HL.out d h).1.2.1,Or.inr h⟩
     ·exact⟨h1,Or.inl h2⟩
    ·rintro⟨h1,h|h⟩
     ·exact Or.inr ⟨h1,h,hl0 _⟩
     ·exact Or.inl h
   clear HR vk;go_wp2_with fail;refine Calls.mono Hso.out ?_;rintro e w5⟨rfl,ns',hp,hsl,hch⟩;have HF:Hid (bZ w5 u3 ns'/\ns'.Nodup/\(∀d,d∈ns'↔1<=nth d/\kW c L d)/\(∀b,u3.ownBlock=some b->w.heap.size<=b)/\Below w.heap.size w w5):=⟨hsl,hp.nodup_iff.2 HX.out.2.2.nd,λd=>hp.mem_iff.trans (ag2.out d),λb hb=>(HX.out.1.lt b hb).1,HX.out.2.1.trans ⟨hch.os,hch.tape,hch.output,hch.size,λk hk=>hch.block k (Nat.lt_of_lt_of_le hk HX.out.2.1.size) (λe=>by have:=(HX.out.1.lt k e).1;omega)⟩⟩;clear hp hsl hch Hso HX;have hu3:=Hu3.out;clear Hu3;subst hu3;go_wp2_with fail;go_ret;exact⟨_,ns',rfl,HF.out⟩
  ·intro a w4 q' hlk hmk ni hlt hg4 hs4 hen;have hK0:c a≠0:=by intro h0;rw[pW,if_pos h0]at hmk;cases hmk
   have hca:=vg.out a;have hrl:w2.heap.size<w4.heap.size:=by have:=HR.out.lt;omega
   have ag3:ay (λk=>k=w2.heap.size) wr w4:=(ay.refl _ wr).grown hg4 (λk e=>by cases e;exact Or.inl rfl);have hb4:Below w.heap.size w w4:=HX.out.2.1.grown hg4 HX.out.2.1.size (λk e=>by cases e;exact hsz2);have hO4:w4.ownsRow w.heap.size 134 2 u3 ns.length (aT ns):=HX.out.1.kept hg4 (by
    by_cases e:u3.ownBlock=none
    ·exact Or.inl e
    ·refine Or.inr (λe2=>?_);refine ownsRow_ne HX.out.1 (λcur fz h=>?_) e2;rcases HR.out with⟨_,⟨s,seen,cc,h2⟩,_⟩|⟨b,_,h2⟩
     ·rw[h2]at h;cases h
     ·exact h2.iZ h)
   have ag4:Hid (Got c L (λy=>left y/\¬y=.int .i64 a) (ns++iI (dV a 1,c a))):=HX.out.2.2.step hlk hca (λd hd=>(HL.out d hd).2);have HR4:Hid (aU prog 3 w4 (.map co) w2.heap.size N (cm c) (λy=>left y/\¬y=.int .i64 a) q'):=ni;have HX4:Hid (w4.ownsRow w.heap.size 134 2 u3 ns.length (aT ns)/\Below w.heap.size w w4):=⟨hO4,hb4⟩;have Hd:Hid (Calls prog 184 #[.agg #[.int .i64 a,.int .i64 1,.int .i64 (c a)]] w4 λe w'=>∃v,e=.returned v/\w'.ownsRow w4.heap.size 134 2 v (c a) (aT (iI (dV a 1,c a)))/\Below w4.heap.size w4 w'):=by have:=FN w4 (dV a 1) (c a) (by rw[dw (by omega)];omega);unfold Ug at this;rw[eF (by omega),dw (by omega)]at this;exact this
   generalize al9:c a=ca at *;clear HR HX vk ni hO4 hb4 ag3 hg4 hmk hlk;go_wp2_with fail;refine Calls.mono Hd.out ?_;rintro e w5⟨v5,rfl,WT,hb5⟩;obtain⟨g5,cap5,hv5⟩:=dL WT (by omega);subst hv5;have Zz:w5.ownsRow w.heap.size 134 2 u3 ns.length (aT ns):=own_below HX4.out.1 hb5;have xE:Below w.heap.size w w5:=HX4.out.2.trans (hb5.mono HX4.out.2.size);have hcells:=WT.cells (g:=g5) rfl;have YR:Hid (∀j u,(aT (iI (dV a 1,ca)))[j]?=some u->w5.cell? ((⟨g5,0,none⟩:Addr).add j)=some u):=hcells;have Qd:Hid (w5.ownsRow w.heap.size 134 2 u3 ns.length (aT ns)):=Zz;have VQ:Hid (Below w.heap.size w w5):=xE;have Ar:Hid (aU prog 3 w5 (.map co) w2.heap.size N (cm c) (λy=>left y/\¬y=.int .i64 a) q'):=HR4.out.aJ (M:=λ_=>False) (ay.of_below hb5) (λ_ _ h=>h) (λh=>h);have h63:ns.length+ca<=maxLen:=by unfold maxLen;omega
   have h64:(ns.length+ca)*16<=140737488355328:=by omega
   have hnl:(aT (iI (dV a 1,ca))).length=ca*2:=by rw[yT,qw]
   have hbw:w.heap.size<=w5.heap.size:=xE.size;clear hcells Zz xE WT hb5 Hd HX4 HR4;go_wp2_with (first|(at_builtin;refine wpList_append_own_at _ rfl (.tmp 18) (.tmp 23) 137 rfl w.heap.size 134 i0 (.agg #[.int .i64 0,.int .i64 0]) 2 16 underlying137 hi hz0 hz1 hz2 rfl (by decide) _ _ _ rfl Qd.out ⟨g5,0,none⟩ ca cap5 (aT (iI (dV a 1,ca))) rfl hnl YR.out (yU _) h63 h64 hbw ?_;intro v6 w6 kF eG Ae uO));have hb6:Below w.heap.size w w6:=VQ.out.grown eG hbw (λk e=>(Qd.out.lt k e).1);have DT:ay (λk=>u3.ownBlock=some k) w5 w6:=(ay.refl _ w5).grown eG (λk e=>Or.inl e);go_roundg q';case measure=>omega
   case rel =>
    refine⟨_,q',ns++iI (dV a 1,ca),rfl,Ar.out.aJ DT (λb hb e=>?_) (λe=>?_), ?_,hb6,ag4.out⟩
    ·refine ownsRow_ne Qd.out (λcur fz h=>?_) e;rcases Ar.out.map with⟨N2,h1|⟨b',h1,h2⟩⟩
     ·rw[h1.1]at hb;cases hb
     ·rw[h1]at hb;cases hb
      exact h2.mP h
    ·refine ownsRow_ne Qd.out (λcur fz h=>?_) e;rcases Ar.out with⟨_,⟨s,seen,cc,h2⟩,_⟩|⟨b,_,h2⟩
     ·rw[h2]at h;cases h
     ·exact h2.iZ h
    ·rw[yS,List.length_append,qw];exact kF
end Go.Proofs.YtfmmllpjgkgeaaaGreatDoor
namespace Go.Proofs.YtfmmllpjgkgeaaaGreatDoor
open Go.Proofs.Tryz Go.RowKit Go.Maps Go.WideMaps
variable{rs:List (Nat×Nat)}{ns:List Nat}{w:World}
theorem Tryz.infoRun:(prog.info? 250).map (λi=>(i.zero,i.size,i.bytes))=some (some (.agg #[.int .i64 0,.int .i64 0,.int .i64 0]),3,24):=by kernel_rfl
def fB(rs:List (Nat×Nat)):List Value:=rs.flatMap λr=>[.int .i64 (who r.1),.int .i64 (nth r.1),.int .i64 r.2]
theorem qx(rs:List (Nat×Nat))(r:Nat×Nat):fB (rs++[r])=fB rs++[.int .i64 (who r.1),.int .i64 (nth r.1),.int .i64 r.2]:=by simp[fB]
theorem yV(rs:List (Nat×Nat)):(fB rs).length=rs.length*3:=by
 induction rs with
 | nil=>rfl
 | cons x r ih=>simp[fB]at ih⊢;omega
theorem sO:∀(rs:List (Nat×Nat))(i:Nat)(h:i<rs.length),(fB rs)[i*3]?=some (.int .i64 (who rs[i].1))/\(fB rs)[i*3+1]?=some (.int .i64 (nth rs[i].1))/\(fB rs)[i*3+2]?=some (.int .i64 (rs[i].2))
 | [],i,h=>absurd h (by simp)
 | r::rs,0,h=>⟨rfl,rfl,rfl⟩
 | r::rs,i+1,h=>by
  have:=sO rs i (by simpa using h);have e:fB (r::rs)=[.int .i64 (who r.1),.int .i64 (nth r.1),.int .i64 r.2]++fB rs:=rfl;refine⟨?_, ?_, ?_⟩
  ·rw[e,List.getElem?_append_right (by simp;omega)];simp only[List.length_cons,List.length_nil,List.getElem_cons_succ];rw[show(i+1)*3-(0+1+1+1)=i*3 by omega];exact this.1
  ·rw[e,List.getElem?_append_right (by simp;omega)];simp only[List.length_cons,List.length_nil,List.getElem_cons_succ];rw[show(i+1)*3+1-(0+1+1+1)=i*3+1 by omega];exact this.2.1
  ·rw[e,List.getElem?_append_right (by simp;omega)];simp only[List.length_cons,List.length_nil,List.getElem_cons_succ];rw[show(i+1)*3+2-(0+1+1+1)=i*3+2 by omega];exact this.2.2
structure Runs(ns:List Nat)(i:Nat)(rs:List (Nat×Nat)):Prop where
 flat:bP rs=ns.take i
 ok:∀r∈rs,okD r.1/\1<=r.2/\nth r.1+r.2<=502
 len:rs.length<=i
theorem Runs.more{i d m:Nat}(h:Runs ns i (rs++[(d,m)]))(hi:i<ns.length)(e:d+m=ns[i])(hok:okD ns[i])(hw:who ns[i]=who d):Runs ns (i+1) (rs++[(d,m+1)]):=by
 have hd:=h.ok (d,m) (by simp);refine⟨?_,λr hr=>?_, ?_⟩
 ·have:=h.flat;rw[sN]at this⊢;rw[BK,<- List.append_assoc,this,e,List.take_succ_eq_append_getElem hi]
 ·rcases List.mem_append.1 hr with hr|hr
  ·exact h.ok r (List.mem_append.2 (Or.inl hr))
  ·simp at hr;subst hr;refine⟨hd.1,by simp, ?_⟩;have h1:nth ns[i]=nth d+m:=by rw[<- e];exact qP (by have:=hd.2.2;simp only at this;omega)
   have h2:=hok.2.2;simp only;omega
 ·have:=h.len;simp at this⊢;omega
theorem Runs.new{i:Nat}(h:Runs ns i rs)(hi:i<ns.length)(hok:okD ns[i]):Runs ns (i+1) (rs++[(ns[i],1)]):=by
 refine⟨?_,λr hr=>?_, ?_⟩
 ·rw[sN,h.flat,List.take_succ_eq_append_getElem hi];simp[iI]
 ·rcases List.mem_append.1 hr with hr|hr
  ·exact h.ok r hr
  ·simp at hr;subst hr;exact⟨hok,by simp,by have:=hok.2.2;simp only;omega⟩
 ·have:=h.len;simp;omega
theorem Ld(g k:Nat):(⟨g,0,none⟩:Addr).add k=⟨g,k,none⟩:=by unfold Addr.add;by_cases h:k=0<;>simp[h]
theorem Uh{base:Nat}{e:TypeId}{size:Nat}{g n cap:Nat}{xs:List Value}(h:w.ownsRow base e size (.slice (some ⟨g,0,none⟩) n cap) n xs)(k:Nat)(hk:k<xs.length)(u:Value):(w.setCell ⟨g,k,none⟩ u).ownsRow base e size (.slice (some ⟨g,0,none⟩) n cap) n (xs.set k u):=by
 obtain⟨hl,h⟩:=h;refine⟨by rw[List.length_set];exact hl,Or.inr ?_⟩;rcases h with⟨h1,_⟩|⟨g',cap',cur,h1,h2,h3,h4,h5,h6,h7⟩
 ·cases h1
 ·simp only[Value.slice.injEq,Option.some.injEq,Addr.mk.injEq]at h1;obtain⟨⟨rfl,_⟩,_,rfl⟩:=h1;refine⟨g,cap,cur.setIfInBounds k u,rfl,h2, ?_,h4,h5,by simpa using h6, ?_⟩
  ·simp[World.setCell,Array.getElem?_modify,h3]
  ·rw[Array.toList_setIfInBounds,List.take_set,h7]
theorem Qi{base:Nat}{e:TypeId}{size:Nat}{g n cap:Nat}{xs:List Value}(h:w.ownsRow base e size (.slice (some ⟨g,0,none⟩) n cap) n xs)(k:Nat):w.frozen? ⟨g,k,none⟩=false:=by
 rcases h.2 with⟨h1,_⟩|⟨g',cap',cur,h1,h2,h3,_⟩
 ·cases h1
 ·simp only[Value.slice.injEq,Option.some.injEq,Addr.mk.injEq]at h1;obtain⟨⟨rfl,_⟩,_,_⟩:=h1;simp[World.frozen?,h3]
theorem Jy(rs:List (Nat×Nat))(d m:Nat):(fB (rs++[(d,m)])).set (rs.length*3+2) (.int .i64 ((m+1:Nat):Int))=fB (rs++[(d,m+1)]):=by rw[qx,qx,<- yV,List.set_append_right _ _ (by omega)];simp
structure RN(w:World)(B:Nat)(v8 v3:Value)(ns:List Nat)(rs:List (Nat×Nat))(wx:World):Prop where
 row:wx.ownsRow B 250 3 v3 rs.length (fB rs)
 old:∀b,v8.ownBlock=some b->b<B
 le:w.heap.size<=B/\B<=wx.heap.size
 sl:bZ wx v8 ns
 below:Below w.heap.size w wx
theorem RN.mono{B:Nat}{v8 v3:Value}{wx wy:World}(h:RN w B v8 v3 ns rs wx)(hb:Below wx.heap.size wx wy):RN w B v8 v3 ns rs wy:=⟨own_below h.row hb,h.old,⟨h.le.1,Nat.le_trans h.le.2 hb.size⟩,h.sl.below hb,h.below.trans (hb.mono h.below.size)⟩
theorem bZ.blk{v:Value}(h:bZ w v ns):∃ao cap,v=.slice ao ns.length cap/\ns.length<=cap:=by
 rcases h with⟨rfl,rfl⟩|⟨b,off,cap,rfl,h2,_⟩
 ·exact⟨none,0,rfl,Nat.le_refl _⟩
 ·exact⟨_,cap,rfl,h2⟩
theorem Qj(w:World)(co lo:Option Nat)(c:Nat->Nat)(L:Nat->Bool)(h:kM w (.map co) (.map lo) c L):Calls prog 268 #[.agg #[.map co,.map lo]] w λe w'=>∃v ns rs,e=.returned v/\ns.Nodup/\(∀d,d∈ns↔1<=nth d/\kW c L d)/\Runs ns ns.length rs/\w'.ownsRow w.heap.size 250 3 v rs.length (fB rs)/\Below w.heap.size w w':=by
 obtain⟨i0,hi,hz0,hz1,hz2⟩:=info_parts Tryz.infoRun;have vg:Hid (∀a,c a<=501):=h.ru;have H5:Hid (∀a,c a≠0->a<=5):=h.c5;have HL:Hid (∀d,L d=true->okD d/\c (who d)<nth d):=h.yD;have dX:Hid (∀ob,Calls prog 209 #[.agg #[.map co,.map lo]] (w.alloc ob) λe w'=>∃v ns,e=.returned v/\bZ w' v ns/\ns.Nodup/\(∀d,d∈ns↔1<=nth d/\kW c L d)/\Below w.heap.size w w'):=λob=>by have hb:Below w.heap.size w (w.alloc ob):=(Below.refl _ w).alloc (Nat.le_refl _) _;refine Calls.mono (La _ co lo c L (h.below hb)) ?_;rintro e w'⟨v,ns,rfl,h1,h2,h3,_,h5⟩;exact⟨v,ns,rfl,h1,h2,h3,hb.trans (h5.mono hb.size)⟩
 clear h;go_enter func268,ntmps268;go_wp2_with fail;refine Calls.mono (dX.out _) ?_;rintro e w1⟨v8,ns,rfl,hsl,hnd,hmem,hb1⟩;obtain⟨ao,cap,rfl,hcap⟩:=hsl.blk;have HS1:Hid (bZ w1 (.slice ao ns.length cap) ns/\Below w.heap.size w w1):=⟨hsl,hb1⟩;have ag5:Hid (∀b,(Value.slice ao ns.length cap).ownBlock=some b->b<w1.heap.size):=by
  rcases hsl with⟨h,_⟩|⟨b,off,cap',h,_,h3,_⟩
  ·intro b hb;rw[h]at hb;cases hb
  ·intro b' hb;rw[h]at hb;cases hb;exact h3
 have HN:Hid (ns.Nodup/\(∀d,d∈ns↔1<=nth d/\kW c L d)):=⟨hnd,hmem⟩;have Ai:Hid (∀d∈ns,okD d):=λd hd=>by
  obtain⟨h1,h2⟩:=(hmem d).1 hd;rcases h2 with h2|h2
  ·exact⟨H5.out _ (by omega),h1,by have:=vg.out (who d);omega⟩
  ·exact(HL.out d h2).1
 have hlen:ns.length<=3072:=jT 3072 ns hnd (λd hd=>lg (Ai.out d hd));clear hsl hnd hmem hb1 dX vg H5 HL;go_wp2_with fail;go_loopg [3,10] ns.length (λg v3 v10 wx=>∃(i:Nat)(rs:List (Nat×Nat)),i+g=ns.length/\v10=.int .i64 i/\Runs ns i rs/\RN w w1.heap.size (.slice ao ns.length cap) v3 ns rs wx);case atStart=>exact⟨0,[],by omega,rfl,⟨by simp[bP],λr hr=>(by cases hr),by simp⟩,World.ownsRow_nil _ _ _ _,ag5.out,⟨HS1.out.2.size,Nat.le_refl _⟩,HS1.out.1,HS1.out.2⟩
 case round =>
  obtain⟨i,rs,hig,rfl,hR,hX⟩:=hrel;have HR:Hid (Runs ns i rs):=hR;have HX:Hid (RN w w1.heap.size (.slice ao ns.length cap) u3 ns rs wr):=hX;have hrl:rs.length<=i:=hR.len;clear HS1;by_cases him:i<ns.length
  ·obtain⟨b,off,cap',hv,hcap',hb,hcells⟩:=hX.sl.resolve_left (λh=>by rw[h.2]at him;simp at him);simp only[Value.slice.injEq]at hv;obtain⟨rfl,_,rfl⟩:=hv;have k0:=(hcells i him).1;have k1:=(hcells i him).2;have WU:=Ai.out _ (List.getElem_mem him);have h63:rs.length+1<=maxLen:=by unfold maxLen;omega
   have h64:(rs.length+1)*24<=140737488355328:=by omega
   have hbw:w1.heap.size<=wr.heap.size:=hX.le.2;have hsh:∃X5 cap3,u3=.slice X5 rs.length cap3:=by
    rcases hX.row.2 with⟨h1,h2⟩|⟨g,cp,cur,h1,_⟩
    ·exact⟨none,0,by rw[h1,h2]⟩
    ·exact⟨_,cp,h1⟩
   obtain⟨X5,cap3,rfl⟩:=hsh;have Jh:Hid (∀(wz:World)(x:Nat)j u,([.int .i64 (who x),.int .i64 (nth x),.int .i64 1]:List Value)[j]?=some u->(wz.alloc (.cells #[.int .i64 (who x),.int .i64 (nth x),.int .i64 1] 250)).cell? ((⟨wz.heap.size,0,none⟩:Addr).add j)=some u):=λwz x j u hj=>by
    match j,hj with
    | 0,hj=>cases hj;simp[Addr.add]
    | 1,hj=>cases hj;simp[Addr.add]
    | 2,hj=>cases hj;simp[Addr.add]
   have HBG:Hid ((Value.slice X5 rs.length cap3).ownBlock≠some b):=λe=>by have h1:=(HX.out.row.lt b e).1;have h2:=HX.out.old b rfl;omega
   have HA:Hid (∀x,x=ns[i]->∀wy,Below wr.heap.size wr wy->∀ob v6 w6,w6.ownsRow w1.heap.size 250 3 v6 (rs.length+1) (fB rs++[.int .i64 (who x),.int .i64 (nth x),.int .i64 1])->(wy.alloc ob).grownBy w6 (Value.slice X5 rs.length cap3).ownBlock->Runs ns (i+1) (rs++[(x,1)])/\RN w w1.heap.size (.slice (some ⟨b,off,none⟩) ns.length cap) v6 ns (rs++[(x,1)]) w6):=λx hx wy hb ob v6 w6 kF eG=>by
    subst hx;have Ui:=HX.out.mono hb;have hbel:Below w.heap.size w w6:=(Ui.below.alloc Ui.below.size ob).grown eG (by have:=Ui.below.size;simp;omega) (λk hk=>Nat.le_trans Ui.le.1 (Ui.row.lt k hk).1);refine⟨HR.out.new him WU,⟨by rw[qx,List.length_append];exact kF,Ui.old,⟨Ui.le.1,Nat.le_trans Ui.le.2 (by have:=eG.size;simp at this;omega)⟩, ?_,hbel⟩⟩;refine(Ui.sl.below ((Below.refl _ wy).alloc (Nat.le_refl _) ob)).aJ (M:=λk=>(Value.slice X5 rs.length cap3).ownBlock=some k) ((ay.refl _ _).grown eG (λk e=>Or.inl e)) (λk hk e=>?_);cases hk
    exact HBG.out e
   have HO:Hid (∀wy,Below wr.heap.size wr wy->∀ob,(wy.alloc ob).ownsRow w1.heap.size 250 3 (.slice X5 rs.length cap3) rs.length (fB rs)):=λwy hb ob=>(HX.out.mono hb).row.alloc ob;obtain⟨x,hx⟩:∃x,ns[i]=x:=⟨_,rfl⟩;rw[hx]at k0 k1 WU;have Hx:Hid (x=ns[i]):=hx.symm;clear hX hR hcells hx;have hcc:rs=[]\/∃rs' r,rs=rs'++[r]:=by
    rcases List.eq_nil_or_concat rs with h|⟨l,r,h⟩
    ·exact Or.inl h
    ·exact Or.inr ⟨l,r,by rw[h,List.concat_eq_append]⟩
   rcases hcc with rfl|⟨rs',r,rfl⟩
   ·simp only[List.length_nil]at *;have kd:=aA.new wr #[.int .i64 (who x),.int .i64 (nth x)] 134;have hbd:Below wr.heap.size wr (wr.alloc (.cells #[.int .i64 (who x),.int .i64 (nth x)] 134)):=(Below.refl _ wr).alloc (Nat.le_refl _) _;go_wp2_with fail;generalize wr.alloc (.cells #[.int .i64 (who x),.int .i64 (nth x)] 134)=wd at *;have d0:=(kd.cell 0).trans rfl;have d1:=(kd.cell 1).trans rfl;have HBd:Hid (Below wr.heap.size wr wd.drew):=hbd.drew;have HBz:Hid (Below wr.heap.size wr wd):=hbd;have hwd:w1.heap.size<=wd.heap.size:=Nat.le_trans hbw hbd.size;have d0':wd.drew.cell? ⟨wr.heap.size,0,none⟩=some (.int .i64 (who x)):=d0;have d1':wd.drew.cell? ⟨wr.heap.size,1,none⟩=some (.int .i64 (nth x)):=d1;clear kd hbd k0 k1;have hdd:decide ((-1:Int) ≥ 0)=false:=by decide
    go_quiet (fail)
    go_wp2_with (first|(at_builtin;refine wpList_append_own_at _ rfl (.tmp 41) (.tmp 44) 285 rfl w1.heap.size 250 i0 (.agg #[.int .i64 0,.int .i64 0,.int .i64 0]) 3 24 underlying285 hi hz0 hz1 hz2 rfl (by decide) _ _ _ rfl (HO.out _ HBd.out _) ⟨wd.heap.size,0,none⟩ 1 1 [.int .i64 (who x),.int .i64 (nth x),.int .i64 1] rfl rfl (Jh.out _ x) (by simp[Value.oneCell']) h63 h64 (by simp;omega) ?_;intro v6 w6 kF eG Ae uO));have hfin:=HA.out x Hx.out (wd.drewN nq) (below_drewN HBz.out nq) _ _ _ kF eG;go_roundg (ns.length-(i+1));case measure=>omega
    case rel=>exact⟨i+1,_,by omega,by go_num,hfin.1,hfin.2⟩
   ·obtain⟨d,m⟩:=r;have hrr:=HR.out.ok (d,m) (by simp);obtain⟨ag6,hm1,hm2⟩:=hrr;simp only at hm1 hm2 ag6;obtain⟨g3,cp3,hv3⟩:=dL HX.out.row (by simp);simp only[Value.slice.injEq]at hv3;obtain⟨rfl,_,rfl⟩:=hv3;have hcl:=HX.out.row.cells (g:=g3) rfl;have hgt:=sO (rs'++[(d,m)]) rs'.length (by simp);simp only[List.getElem_append_right (Nat.le_refl _),Nat.sub_self,List.getElem_cons_zero]at hgt;have q0:=hcl _ _ hgt.1;have q1:=hcl _ _ hgt.2.1;have q2:=hcl _ _ hgt.2.2;rw[Ld]at q0 q1 q2;have hlen3:Hid ((fB (rs'++[(d,m)])).length=(rs'.length+1)*3):=by unfold Hid;rw[yV];simp
    have ZA:(rs'++[(d,m)]).length=rs'.length+1:=by simp
    simp only[ZA]at *;have kd:=aA.new wr #[.int .i64 (who x),.int .i64 (nth x)] 134;have hbd:Below wr.heap.size wr (wr.alloc (.cells #[.int .i64 (who x),.int .i64 (nth x)] 134)):=(Below.refl _ wr).alloc (Nat.le_refl _) _;have hgl:g3<wr.heap.size:=(HX.out.row.lt g3 rfl).2;have hbg:b≠g3:=λe=>HBG.out (by rw[e];rfl);clear hcl hgt;go_wp2_with fail;have z0:(wr.alloc (.cells #[.int .i64 (who x),.int .i64 (nth x)] 134)).cell? ⟨g3,rs'.length*3,none⟩=some (.int .i64 (who d)):=(hbd.cell (p:=⟨g3,rs'.length*3,none⟩) hgl).trans q0;have z1:(wr.alloc (.cells #[.int .i64 (who x),.int .i64 (nth x)] 134)).cell? ⟨g3,rs'.length*3+1,none⟩=some (.int .i64 (nth d)):=(hbd.cell (p:=⟨g3,rs'.length*3+1,none⟩) hgl).trans q1;have z2:(wr.alloc (.cells #[.int .i64 (who x),.int .i64 (nth x)] 134)).cell? ⟨g3,rs'.length*3+2,none⟩=some (.int .i64 m):=(hbd.cell (p:=⟨g3,rs'.length*3+2,none⟩) hgl).trans q2;have z3:=(kd.cell 0).trans rfl;have z4:=(kd.cell 1).trans rfl;generalize wr.alloc (.cells #[.int .i64 (who x),.int .i64 (nth x)] 134)=wd at *;have X3:Hid (∀wx,wx.heap=wd.heap->wx.os=wd.os->wx.tape=wd.tape->wx.output=wd.output->Calls prog 243 #[.agg #[.int .i64 (who d),.int .i64 (nth d),.int .i64 m],.int .i64 m] wx λe w'=>e=.returned (aP (d+m))/\(w'.cell? ⟨g3,rs'.length*3,none⟩=some (.int .i64 (who d))/\w'.cell? ⟨g3,rs'.length*3+1,none⟩=some (.int .i64 (nth d))/\w'.cell? ⟨g3,rs'.length*3+2,none⟩=some (.int .i64 m)/\w'.cell? ⟨wr.heap.size,0,none⟩=some (.int .i64 (who x))/\w'.cell? ⟨wr.heap.size,1,none⟩=some (.int .i64 (nth x)))/\Below wr.heap.size wr w'/\aA w' wr.heap.size #[.int .i64 (who x),.int .i64 (nth x)] 134):=λwx hx ho ht hp=>by
     have hbx:Below wr.heap.size wr wx:=hbd.trans ⟨ho,ht,hp,by rw[hx];exact Nat.le_refl _,λk _=>by rw[hx]⟩;have kx:aA wx wr.heap.size #[.int .i64 (who x),.int .i64 (nth x)] 134:=by unfold aA;rw[hx];exact kd
     refine Calls.mono (Qh wx d m m (by omega)) ?_;rintro e w'⟨rfl,hb'⟩;have Uj:Below wr.heap.size wr w':=hbx.trans (hb'.mono hbx.size);have Qk:=kx.below hb';exact⟨rfl,⟨(Uj.cell (p:=⟨g3,rs'.length*3,none⟩) hgl).trans q0,(Uj.cell (p:=⟨g3,rs'.length*3+1,none⟩) hgl).trans q1,(Uj.cell (p:=⟨g3,rs'.length*3+2,none⟩) hgl).trans q2,(Qk.cell 0).trans rfl,(Qk.cell 1).trans rfl⟩,Uj,Qk⟩
    clear kd hbd q0 q1 q2 k0 k1;have hdd:decide ((rs'.length:Int) ≥ 0)=true:=by simp
    have hi1:(0:Int)<=(rs'.length:Int):=by omega
    have hi2:(rs'.length:Int)<(rs'.length:Int)+1:=by omega
    have hi3:(rs'.length:Int)<((rs'.length+1:Nat):Int):=by omega
    by_cases ZB:d+m=x
    ·subst ZB;go_region_held3 (λw'=>w'.cell? ⟨g3,rs'.length*3,none⟩=some (.int .i64 (who d))/\w'.cell? ⟨g3,rs'.length*3+1,none⟩=some (.int .i64 (nth d))/\w'.cell? ⟨g3,rs'.length*3+2,none⟩=some (.int .i64 m)/\w'.cell? ⟨wr.heap.size,0,none⟩=some (.int .i64 (who (d+m)))/\w'.cell? ⟨wr.heap.size,1,none⟩=some (.int .i64 (nth (d+m)))) (first|assumption|exact⟨z0,z1,z2,z3,z4⟩|exact h5.1) (first|(go_at_call 243;refine Calls.mono (X3.out _ rfl rfl rfl rfl) ?_;rintro e w5⟨rfl,h5⟩;have e0:=h5.1.1;have e1:=h5.1.2.1;have e2:=h5.1.2.2.1;have e3:=h5.1.2.2.2.1;have e4:=h5.1.2.2.2.2));have Ql:=HX.out.mono h5.2.1;have wF:=Ql.row;rw[show(rs'++[(d,m)]).length=rs'.length+1 by simp]at wF;have hfr:=Qi wF;have X6:Hid (RN w w1.heap.size (.slice (some ⟨b,off,none⟩) ns.length cap) (.slice (some ⟨g3,0,none⟩) (rs'.length+1) cap3) ns (rs'++[(d,m)]) w5):=Ql;have ZC:Hid (w5.ownsRow w1.heap.size 250 3 (.slice (some ⟨g3,0,none⟩) (rs'.length+1) cap3) (rs'.length+1) (fB (rs'++[(d,m)]))):=wF;clear Ql wF;go_wp2_with fail;have Ql:=X6.out;have wF:=ZC.out;have hro:=Uh wF (rs'.length*3+2) (by rw[hlen3.out];omega) (.int .i64 ((m+1:Nat):Int));rw[Jy]at hro;have ag7:bZ (w5.setCell ⟨g3,rs'.length*3+2,none⟩ (.int .i64 ((m+1:Nat):Int))) (.slice (some ⟨b,off,none⟩) ns.length cap) ns:=Ql.sl.aJ (M:=λk=>k=g3) ((ay.refl (λk=>k=g3) w5).setCell (p:=⟨g3,rs'.length*3+2,none⟩) rfl _) (λk hk e=>by cases hk;exact hbg e);have ag8:Below w.heap.size w (w5.setCell ⟨g3,rs'.length*3+2,none⟩ (.int .i64 ((m+1:Nat):Int))):=Ql.below.setCell (p:=⟨g3,rs'.length*3+2,none⟩) (Nat.le_trans Ql.le.1 (Ql.row.lt g3 rfl).1) _;have hRm:=HR.out.more him (by rw[<- Hx.out]) (by rw[<- Hx.out];exact WU) (by rw[<- Hx.out];exact uw (by omega));go_roundg (ns.length-(i+1));case measure=>omega
     case rel=>exact⟨i+1,rs'++[(d,m+1)],by omega,by go_num,hRm,⟨by simpa using hro,Ql.old,⟨Ql.le.1,by have:=Ql.le.2;simpa using this⟩,by simpa using ag7,by simpa using ag8⟩⟩
    ·have hne2:¬(who (d+m)=who x/\nth (d+m)=nth x):=λh=>ZB (lQ h.1 h.2);generalize d+m=y at *;have hparts:(¬((who y:Int)=(who x:Int)))\/((who y:Int)=(who x:Int)/\¬((nth y:Int)=(nth x:Int))):=by omega
     rcases hparts with hp|⟨hp,hp2⟩
     ·have hpb:((who y:Int)==(who x:Int))=false:=by simpa using hp
      have hpd:decide ((who y:Int)=(who x:Int))=false:=by simpa using hp
      go_region_held3 (λw'=>w'.cell? ⟨g3,rs'.length*3,none⟩=some (.int .i64 (who d))/\w'.cell? ⟨g3,rs'.length*3+1,none⟩=some (.int .i64 (nth d))/\w'.cell? ⟨g3,rs'.length*3+2,none⟩=some (.int .i64 m)/\w'.cell? ⟨wr.heap.size,0,none⟩=some (.int .i64 (who x))/\w'.cell? ⟨wr.heap.size,1,none⟩=some (.int .i64 (nth x))) (first|assumption|exact⟨z0,z1,z2,z3,z4⟩|exact h5.1) (first|(go_at_call 243;refine Calls.mono (X3.out _ rfl rfl rfl rfl) ?_;rintro e w5⟨rfl,h5⟩;have e0:=h5.1.1;have e1:=h5.1.2.1;have e2:=h5.1.2.2.1;have e3:=h5.1.2.2.2.1;have e4:=h5.1.2.2.2.2));have hw5:w1.heap.size<=w5.heap.size:=Nat.le_trans hbw h5.2.1.size;go_wp2_with (first|(at_builtin;refine wpList_append_own_at _ rfl (.tmp 41) (.tmp 44) 285 rfl w1.heap.size 250 i0 (.agg #[.int .i64 0,.int .i64 0,.int .i64 0]) 3 24 underlying285 hi hz0 hz1 hz2 rfl (by decide) _ _ _ rfl (HO.out _ h5.2.1 _) ⟨w5.heap.size,0,none⟩ 1 1 [.int .i64 (who x),.int .i64 (nth x),.int .i64 1] rfl rfl (Jh.out _ x) (by simp[Value.oneCell']) h63 h64 (by simp;omega) ?_;intro v6 w6 kF eG Ae uO));have hfin:=HA.out x Hx.out w5 h5.2.1 _ _ _ kF eG;go_roundg (ns.length-(i+1));case measure=>omega
      case rel=>exact⟨i+1,_,by omega,by go_num,hfin.1,hfin.2⟩
     ·have hpb:((nth y:Int)==(nth x:Int))=false:=by simpa using hp2
      have hpd:decide ((nth y:Int)=(nth x:Int))=false:=by simpa using hp2
      go_region_held3 (λw'=>w'.cell? ⟨g3,rs'.length*3,none⟩=some (.int .i64 (who d))/\w'.cell? ⟨g3,rs'.length*3+1,none⟩=some (.int .i64 (nth d))/\w'.cell? ⟨g3,rs'.length*3+2,none⟩=some (.int .i64 m)/\w'.cell? ⟨wr.heap.size,0,none⟩=some (.int .i64 (who x))/\w'.cell? ⟨wr.heap.size,1,none⟩=some (.int .i64 (nth x))) (first|assumption|exact⟨z0,z1,z2,z3,z4⟩|exact h5.1) (first|(go_at_call 243;refine Calls.mono (X3.out _ rfl rfl rfl rfl) ?_;rintro e w5⟨rfl,h5⟩;have e0:=h5.1.1;have e1:=h5.1.2.1;have e2:=h5.1.2.2.1;have e3:=h5.1.2.2.2.1;have e4:=h5.1.2.2.2.2));have hw5:w1.heap.size<=w5.heap.size:=Nat.le_trans hbw h5.2.1.size;go_wp2_with (first|(at_builtin;refine wpList_append_own_at _ rfl (.tmp 41) (.tmp 44) 285 rfl w1.heap.size 250 i0 (.agg #[.int .i64 0,.int .i64 0,.int .i64 0]) 3 24 underlying285 hi hz0 hz1 hz2 rfl (by decide) _ _ _ rfl (HO.out _ h5.2.1 _) ⟨w5.heap.size,0,none⟩ 1 1 [.int .i64 (who x),.int .i64 (nth x),.int .i64 1] rfl rfl (Jh.out _ x) (by simp[Value.oneCell']) h63 h64 (by simp;omega) ?_;intro v6 w6 kF eG Ae uO));have hfin:=HA.out x Hx.out w5 h5.2.1 _ _ _ kF eG;go_roundg (ns.length-(i+1));case measure=>omega
      case rel=>exact⟨i+1,_,by omega,by go_num,hfin.1,hfin.2⟩
  ·have e:i=ns.length:=by omega
   subst e;clear hR hX;go_wp2_with fail;go_ret;exact⟨_,ns,rs,rfl,HN.out.1,HN.out.2,HR.out,ownsRow_base HX.out.row HX.out.le.1,HX.out.below⟩
def yX(p:ByteArray)(a:UInt8)(v:ByteArray)(n:Int):Thk.Bs:=ah p++[a]++ah v++(if a.toNat=62 then Lib.itoa n else [])
theorem kP(a b:ByteArray):ah (a++b)=ah a++ah b:=by unfold ah;simp[ByteArray.data_append]
theorem Qm(w:World)(hG:Glob w)(p v:ByteArray)(a:UInt8)(n:Int)(ha:a=43\/a=94\/a=61\/a=62)(hn:-9223372036854775808<=n/\n<=9223372036854775807)(hp:p.size<=1048576)(hv:v.size<=1048576):Calls prog 225 #[.agg #[.string p,.int .u8 (a.toNat:Int),.string v,.int .i64 n]] w λe w'=>∃s,e=.returned (.string s)/\ah s=yX p a v n/\Below w.heap.size w w':=by
 have HG:Hid (Glob w):=hG;have HF:Hid (∀wx,Below w.heap.size w wx->Calls prog 199 #[.int .i64 n,.int .i64 10] wx λe w'=>e=.returned (.string ⟨(Lib.itoa n).toArray⟩)/\Below w.heap.size w w'):=λwx hb=>by refine Calls.mono (Tryz.strconv_FormatInt_10 n hn.1 hn.2 wx (hG.mono hb).tab) ?_;rintro e w'⟨rfl,k,os,rfl⟩;exact⟨rfl,yB (below_drewN hb k) (by have:=hb.size;simpa using this) os⟩
 clear hG;have hit:(Lib.itoa n).length<=1000:=Nat.le_trans (Lib.itoa_length_le n hn.1 hn.2) (by decide);rcases ha with rfl|rfl|rfl|rfl
 ·have he:Utf8.encode 43=⟨#[43]⟩:=by rfl
  have hs1:p.size+(Utf8.encode 43).size<=9223372036854775807:=by rw[he];show p.size+1<=_;omega
  have hs2:(p++Utf8.encode 43).size+v.size<=9223372036854775807:=by rw[ByteArray.size_append,he];show p.size+1+v.size<=_;omega
  have Ht:Hid (ah (p++Utf8.encode 43++v)=ah p++[43]++ah v):=by unfold Hid;rw[kP,kP,he];(first|done|rfl)
  clear he;go_enter func225,ntmps225;go_wp2_with fail;go_ret;refine⟨_,rfl, ?_,by go_grown⟩;rw[Ht.out];unfold yX;rw[if_neg (by decide),List.append_nil]
 ·have he:Utf8.encode 94=⟨#[94]⟩:=by rfl
  have hs1:p.size+(Utf8.encode 94).size<=9223372036854775807:=by rw[he];show p.size+1<=_;omega
  have hs2:(p++Utf8.encode 94).size+v.size<=9223372036854775807:=by rw[ByteArray.size_append,he];show p.size+1+v.size<=_;omega
  have Ht:Hid (ah (p++Utf8.encode 94++v)=ah p++[94]++ah v):=by unfold Hid;rw[kP,kP,he];(first|done|rfl)
  clear he;go_enter func225,ntmps225;go_wp2_with fail;go_ret;refine⟨_,rfl, ?_,by go_grown⟩;rw[Ht.out];unfold yX;rw[if_neg (by decide),List.append_nil]
 ·have he:Utf8.encode 61=⟨#[61]⟩:=by rfl
  have hs1:p.size+(Utf8.encode 61).size<=9223372036854775807:=by rw[he];show p.size+1<=_;omega
  have hs2:(p++Utf8.encode 61).size+v.size<=9223372036854775807:=by rw[ByteArray.size_append,he];show p.size+1+v.size<=_;omega
  have Ht:Hid (ah (p++Utf8.encode 61++v)=ah p++[61]++ah v):=by unfold Hid;rw[kP,kP,he];(first|done|rfl)
  clear he;go_enter func225,ntmps225;go_wp2_with fail;go_ret;refine⟨_,rfl, ?_,by go_grown⟩;rw[Ht.out];unfold yX;rw[if_neg (by decide),List.append_nil]
 ·have he:Utf8.encode 62=⟨#[62]⟩:=by rfl
  have hs1:p.size+(Utf8.encode 62).size<=9223372036854775807:=by rw[he];show p.size+1<=_;omega
  have hs2:(p++Utf8.encode 62).size+v.size<=9223372036854775807:=by rw[ByteArray.size_append,he];show p.size+1+v.size<=_;omega
  have Ht:Hid (ah (p++Utf8.encode 62++v)=ah p++[62]++ah v):=by unfold Hid;rw[kP,kP,he];(first|done|rfl)
  have hs3:(p++Utf8.encode 62++v).size+(Lib.itoa n).toArray.size<=9223372036854775807:=by rw[ByteArray.size_append,ByteArray.size_append,he];show p.size+1+v.size+_<=_;have:=hit;simp at this⊢;omega
  have am0:(p++Utf8.encode 62++v).size+(⟨(Lib.itoa n).toArray⟩:ByteArray).size<=9223372036854775807:=hs3;clear he;go_enter func225,ntmps225;go_wp2_with fail;refine Calls.mono (HF.out _ ((Below.refl _ w).alloc (Nat.le_refl _) _)) ?_;rintro e w1⟨rfl,hb1⟩;have HB:Hid (Below w.heap.size w w1):=hb1;clear hb1;go_wp2_with fail;go_ret;refine⟨_,rfl, ?_,HB.out⟩;rw[kP,Ht.out];unfold yX;rw[if_pos (show UInt8.toNat 62=62 from rfl)];rfl
abbrev kC(w:World)(rb:Nat)(s:ByteArray):Prop:=aA w rb #[.string s,.bool false] 245
theorem kC.set0{rb:Nat}{s:ByteArray}(h:kC w rb s)(t:ByteArray):kC (w.setCell ⟨rb,0,none⟩ (.string t)) rb t:=by unfold kC aA at h⊢;simp[World.setCell,Array.getElem?_modify,h]
theorem fV(w:World)(rb:Nat)(s:ByteArray)(n lo hi:Nat)(r:Thk.Bs)(h:kC w rb s)(hs:ah s=aW n++r)(hn:n<16384)(h1:lo<=n)(h2:n<=hi)(hhi:hi<=1000000000)(hsz:s.size<=1000000000):Calls prog 167 #[.pointer (some ⟨rb,0,none⟩),.int .i64 lo,.int .i64 hi] w λe w'=>∃s',e=.returned (.int .i64 n)/\kC w' rb s'/\ah s'=r/\ay (λk=>k=rb) w w':=by
 have c0:=(h.cell 0).trans rfl;have c1:=(h.cell 1).trans rfl;have f0:=h.frozen;have hl:s.size=(aW n++r).length:=by rw[<- hs];simp[ah]
 have HK:Hid (kC w rb s):=h;by_cases hs1:n<128
 ·rw[qm hs1]at hs hl;simp at hl;have h0:0<s.size:=by omega
  have hv:(s[0]'h0).toNat=n:=by have:s[0]'h0=(ah s)[0]'(by rw[hs];simp):=rfl;rw[this];simp only[hs];simp;omega
  have hand:=DL n (by omega);rw[Nat.mod_eq_of_lt hs1]at hand;have htop:=DN n (by omega);rw[if_pos hs1]at htop;have hor:=or_zero n (by omega);have Hr:Hid (ah (s.extract 1 (r.length+1))=r):=by unfold Hid;rw[eU,hs,List.take_of_length_le (by simp)];rfl
  clear hs h;go_enter func167,ntmps167;go_wp2_with fail;go_loopg [7,8] 1 (λg v7 v8 wx=>g=1/\v7=.int .i64 0/\v8=.int .i64 0/\wx=w);case atStart=>exact⟨rfl,rfl,rfl,rfl⟩
  case round =>obtain⟨hg,rfl,rfl,rfl⟩:=hrel;go_wp2_with fail;go_ret;refine⟨_,rfl,HK.out.set0 _,Hr.out,(ay.refl (λk=>k=rb) wr).setCell (p:=⟨rb,0,none⟩) rfl _⟩
 ·rw[qp hs1]at hs hl;simp at hl;have h0:0<s.size:=by omega
  have h1':1<s.size:=by omega
  obtain⟨b0,hb0⟩:∃b,n % 128+128=b:=⟨_,rfl⟩;obtain⟨b1,hb1⟩:∃b,n / 128=b:=⟨_,rfl⟩;obtain⟨q,hq⟩:∃q,n % 128=q:=⟨_,rfl⟩;have hv0:(s[0]'h0).toNat=b0:=by have:s[0]'h0=(ah s)[0]'(by rw[hs];simp):=rfl;rw[this];simp only[hs];simp;omega
  have hv1:(s[1]'h1').toNat=b1:=by have:s[1]'h1'=(ah s)[1]'(by rw[hs];simp):=rfl;rw[this];simp only[hs];simp;omega
  have hand0:bits .and .u8 (b0:Int) 127=(q:Int):=by have:=DL b0 (by omega);rw[this,<- hb0,<- hq];omega
  have aj7:bits .and .u8 (b0:Int) 128=128:=by have:=DN b0 (by omega);rw[if_neg (by omega)]at this;exact this
  have am1:=or_zero q (by omega);have hand1:bits .and .u8 (b1:Int) 127=(b1:Int):=by have:=DL b1 (by omega);rw[Nat.mod_eq_of_lt (by omega)]at this;exact this
  have aj8:bits .and .u8 (b1:Int) 128=0:=by have:=DN b1 (by omega);rw[if_pos (by omega)]at this;exact this
  have am2:bits .or .i64 (q:Int) ((b1:Int)*128)=(n:Int):=by have:=WQ q b1 (by omega) (by omega);rw[show((b1:Int)*128)=((b1*128:Nat):Int)by omega,this];omega
  have aj9:q<128:=by omega
  have ag9:b1<128:=by omega
  have Hr:Hid (ah (s.extract 2 (r.length+1+1))=r):=by unfold Hid;rw[eU,hs,List.take_of_length_le (by simp)];rfl
  clear hs h hb0 hb1 hq;go_enter func167,ntmps167;go_wp2_with fail;go_loopg [7,8] 1 (λg v7 v8 wx=>((g=1/\v7=.int .i64 0/\v8=.int .i64 0)\/(g=0/\v7=.int .i64 q/\v8=.int .i64 1))/\wx=w);case atStart=>exact⟨Or.inl ⟨rfl,rfl,rfl⟩,rfl⟩
  case round =>
   obtain⟨⟨hg,rfl,rfl⟩|⟨hg,rfl,rfl⟩,rfl⟩:=hrel
   ·go_wp2_with fail;go_roundg 0;case measure=>omega
    case rel=>exact⟨Or.inr ⟨rfl,rfl,rfl⟩,rfl⟩
   ·go_wp2_with fail;go_ret;refine⟨_,rfl,HK.out.set0 _,Hr.out,(ay.refl (λk=>k=rb) wr).setCell (p:=⟨rb,0,none⟩) rfl _⟩
theorem Nk(w:World)(rb:Nat)(s:ByteArray)(t r:Thk.Bs)(h:kC w rb s)(hs:ah s=aW t.length++t++r)(ht:t.length<16384)(hsz:s.size<=1000000000):Calls prog 244 #[.pointer (some ⟨rb,0,none⟩)] w λe w'=>∃u s',e=.returned (.string u)/\ah u=t/\kC w' rb s'/\ah s'=r/\ay (λk=>k=rb) w w':=by
 have c0:=(h.cell 0).trans rfl;have hl:s.size=(aW t.length++t++r).length:=by rw[<- hs];simp[ah]
 have HN:Hid (_):=fV w rb s t.length 0 s.size (t++r) h (by rw[hs,List.append_assoc]) ht (Nat.zero_le _) (by rw[hl];simp;omega) hsz hsz;clear h hl hs;go_enter func244,ntmps244;go_wp2_with fail;refine Calls.mono HN.out ?_;rintro e w1⟨s1,rfl,hk,hs1,hch⟩;have c0:=(hk.cell 0).trans rfl;have f0:=hk.frozen;have hl1:t.length<=s1.size:=by
  have:s1.size=(ah s1).length:=by simp[ah]
  rw[this,hs1];simp
 have Hu:Hid (ah (s1.extract 0 t.length)=t):=by unfold Hid;rw[yO,hs1];simp
 have Hr:Hid (ah (s1.extract t.length s1.size)=r):=by unfold Hid;rw[yP,hs1];simp
 have HK:Hid (kC w1 rb s1/\ay (λk=>k=rb) w w1):=⟨hk,hch⟩;have hi1:(t.length:Int)<=(s1.size:Int):=by omega
 generalize t.length=m at *;clear HN hk hs1 hch;go_wp2_with fail;go_ret;exact⟨_,_,rfl,Hu.out,HK.out.1.set0 _,Hr.out,HK.out.2.setCell (p:=⟨rb,0,none⟩) rfl _⟩
theorem FT(w:World)(rb:Nat)(s:ByteArray)(d:Nat)(r:Thk.Bs)(h:kC w rb s)(hs:ah s=jX d++r)(hd:who d<=5/\1<=nth d/\nth d<=505)(hsz:s.size<=1000000000):Calls prog 183 #[.pointer (some ⟨rb,0,none⟩)] w λe w'=>∃s',e=.returned (aP d)/\kC w' rb s'/\ah s'=r/\ay (λk=>k=rb) w w':=by
 unfold aP jX at *;generalize who d=a at *;generalize nth d=n at *;have hlt:=h.lt;have HN:Hid (∀ob,Calls prog 167 #[.pointer (some ⟨rb,0,none⟩),.int .i64 0,.int .i64 5] (w.alloc ob) λe w'=>∃s',e=.returned (.int .i64 a)/\kC w' rb s'/\ah s'=aW n++r/\ay (λk=>k=rb) (w.alloc ob) w'/\s'.size<=1000000000):=λob=>by
  refine Calls.mono (fV (w.alloc ob) rb s a 0 5 (aW n++r) (h.alloc ob) (by rw[hs,List.append_assoc]) (by omega) (by omega) (by omega) (by omega) hsz) ?_;rintro e w'⟨s',rfl,h1,h2,h3⟩;refine⟨s',rfl,h1,h2,h3, ?_⟩;have e1:s'.size=(ah s').length:=by simp[ah]
  have e2:s.size=(ah s).length:=by simp[ah]
  rw[h2]at e1;rw[hs]at e2;simp at e1 e2;omega
 have Np:Hid (∀w1 s1,kC w1 rb s1->ah s1=aW n++r->s1.size<=1000000000->Calls prog 167 #[.pointer (some ⟨rb,0,none⟩),.int .i64 1,.int .i64 505] w1 λe w'=>∃s',e=.returned (.int .i64 n)/\kC w' rb s'/\ah s'=r/\ay (λk=>k=rb) w1 w'):=λw1 s1 h1 h2 h3=>fV w1 rb s1 n 1 505 r h1 h2 (by omega) (by omega) (by omega) (by omega) h3;clear h hs;go_enter func183,ntmps183;go_wp2_with fail;refine Calls.mono (HN.out _) ?_;rintro e w1⟨s1,rfl,hk1,hs1,AP,hz1⟩;have Vh:aA w1 w.heap.size #[.int .i64 0,.int .i64 0] 134:=(aA.new w _ _).aJ AP (by omega);have fU:Hid (ay (λk=>k=rb) w w1):=(ay.of_below ((Below.refl _ w).alloc (Nat.le_refl _) _):ay (λk=>k=rb) w _).trans AP;have WV:Hid (_):=Np.out w1 s1 hk1 hs1 hz1;clear HN Np hk1 hs1 AP;go_wp2_with fail;refine Calls.mono WV.out ?_;rintro e w2⟨s2,rfl,hk2,hs2,nM⟩;have Nq:=Vh.aJ nM (by omega);have r0:=(Nq.cell 0).trans rfl;have r1:=(Nq.cell 1).trans rfl;have f0:=Nq.frozen;have HF:Hid (kC w2 rb s2/\ah s2=r/\ay (λk=>k=rb) w w2):=⟨hk2,hs2,fU.out.trans nM⟩;clear Vh Nq hk2 hs2 nM WV;go_wp2_with fail;refine bodyPost_ret (v:=.agg #[.int .i64 a,.int .i64 n]) (by simp[results,Tryz.results183,go_sem,r0,r1,bQ,aK,World.cell?_setCell_other]) rfl ⟨s2,rfl, ?_,HF.out.2.1, ?_⟩
 ·have hc:ay (λk=>k=w.heap.size) w2 ((w2.setCell ⟨w.heap.size,0,none⟩ (.int .i64 a)).setCell ⟨w.heap.size,1,none⟩ (.int .i64 n)):=((ay.refl (λk=>k=w.heap.size) w2).setCell (p:=⟨w.heap.size,0,none⟩) rfl _).setCell (p:=⟨w.heap.size,1,none⟩) rfl _;exact aA.aJ HF.out.1 hc (by omega)
 ·have hc:ay (λk=>k=w.heap.size) w2 ((w2.setCell ⟨w.heap.size,0,none⟩ (.int .i64 a)).setCell ⟨w.heap.size,1,none⟩ (.int .i64 n)):=((ay.refl (λk=>k=w.heap.size) w2).setCell (p:=⟨w.heap.size,0,none⟩) rfl _).setCell (p:=⟨w.heap.size,1,none⟩) rfl _;have h0:=HF.out.2.2;exact⟨hc.os.trans h0.os,hc.tape.trans h0.tape,hc.output.trans h0.output,Nat.le_trans h0.size hc.size,λk hk hm=>(hc.block k (Nat.lt_of_lt_of_le hk h0.size) (by omega)).trans (h0.block k hk hm)⟩
