import Derived.ArgAppend
import Derived.Laws.IdiomStrings
import Derived.Laws.BytesArg
import Derived.Test.YtfmmllpjgkgeaaaGreatDoorPartM17
set_option linter.unusedVariables false
set_option linter.unusedSimpArgs false
set_option maxHeartbeats 16000000
set_option maxRecDepth 100000
namespace Go.Proofs.YtfmmllpjgkgeaaaGreatDoor
open Go.Proofs.Tryz Go.RowKit Go.Maps
variable{B:Nat}{v:Value}{w:World}
def nS(s:Int)(b:UInt8):Int:=(bits .xor .u32 s (b.toNat:Int)*16777619) % 4294967296
def oL(l:Thk.Bs):Int:=l.foldl nS 2166136261
theorem vK(l:Thk.Bs)(b:UInt8):oL (l++[b])=nS (oL l) b:=by unfold oL;rw[List.foldl_append];(first|done|rfl)
theorem Le(l:Thk.Bs):0<=oL l/\oL l<4294967296:=by
 rcases List.eq_nil_or_concat l with rfl|⟨m,b,rfl⟩
 ·decide
 ·rw[List.concat_eq_append,vK];unfold nS;omega
theorem Ny{l:Thk.Bs}(h:bF B w v l):∃ao cap,v=.slice ao l.length cap/\(0<l.length->∃g,ao=some ⟨g,0,none⟩/\l.length<=cap):=by
 obtain⟨_,⟨h1,h2⟩|⟨g,cap,cur,h2,h3,_,h4,_⟩⟩:=h
 ·exact⟨none,0,by rw[h1,h2],λh=>by omega⟩
 ·exact⟨_,cap,h2,λ_=>⟨g,rfl,h4⟩⟩
theorem sum_any(B:Nat)(w:World)(v:Value)(l:Thk.Bs)(h:bF B w v l)(hl:l.length<=1000000000):Calls prog 219 #[v] w λe w'=>e=.returned (.int .u32 (oL l))/\w'=w:=by
 obtain⟨ao,cap,rfl,hsh⟩:=Ny h;have H:Hid (bF B w (.slice ao l.length cap) l):=h;clear h;go_enter func219,ntmps219;go_wp2_with fail;go_loopw [3,8] (λv3 v8 wr=>∃(k:Nat)(s:Int),v8=.int .i64 k/\v3=.int .u32 s/\k<=l.length/\Hid (s=oL (l.take k))/\wr=w) (λ_ v8 _=>l.length-(intOf v8).toNat);case atStart=>exact⟨0,2166136261,rfl,rfl,by omega,rfl,rfl⟩
 case round =>
  obtain⟨k,s,rfl,rfl,hk,Hs,hwr⟩:=hrel;rw[hwr];clear hwr;by_cases hlt:k<l.length
  ·obtain⟨g,hao,hcap⟩:=hsh (by omega);subst hao;have Ti:(k:Int)<(l.length:Int):=by omega
   have cb:w.cell? ⟨g,k,none⟩=some (.int .u8 (l[k].toNat:Int)):=by rw[H.out.cellAt k (by omega)];simp[kX,hlt]
   have Hn:Hid (oL (l.take (k+1))=nS s l[k]):=by unfold Hid;rw[List.take_succ_eq_append_getElem hlt,vK,<- Hs.out]
   have hb:l[k].toNat<256:=UInt8.toNat_lt _;clear Hs;have Ad:Hid (∀b:UInt8,nS s b=(bits .xor .u32 s (b.toNat:Int)*16777619) % 4294967296):=λb=>rfl;generalize l[k]=b at *;go_wp2;go_roundw;case rel=>exact⟨k+1,_,by first|rfl|go_num,rfl,by omega,by unfold Hid;rw[Hn.out];exact(Ad.out b).symm,by first|rfl|trivial⟩
   case measure=>simp[intOf]<;>omega
  ·have Ti:¬(k:Int)<(l.length:Int):=by omega
   have hkl:k=l.length:=by omega
   have tH:Hid (s=oL l):=by unfold Hid;rw[Hs.out,hkl,List.take_length]
   clear hkl Hs;go_wp2;go_ret;exact⟨by rw[tH.out];rfl,rfl⟩
def AU(s:Int):Nat->Thk.Bs
 | 0=>[]
 | k+1=>UInt8.ofNat (s % 256).toNat::AU (s / 256) k
def dD(l:Thk.Bs):Thk.Bs:=l++AU (oL l) 4
theorem yY(B:Nat)(w:World)(v:Value)(l:Thk.Bs)(h:bF B w v l)(hB:B<=w.heap.size)(hl:l.length<=1000000):Calls prog 163 #[v] w λe w'=>∃v',e=.returned v'/\bF B w' v' (dD l)/\dh B w w':=by
 obtain⟨i0,hi,hz0,hz1,hz2⟩:=info_parts Tryz.infoU8;have Qp:Hid (Calls prog 219 #[v] w λe w'=>e=.returned (.int .u32 (oL l))/\w'=w):=sum_any B w v l h (by omega);have H0:Hid (bF B w v l/\dh B w w):=⟨h,dh.refl _ _⟩;have hbd:=Le l;clear h;go_enter func163,ntmps163;go_wp2_with fail;refine Calls.mono Qp.out ?_;rintro e w1⟨rfl,h1⟩;rw[h1];clear h1 w1 Qp;go_wp2_with fail;go_loopw [0,3,6] (λv0 v3 v6 wr=>∃(k:Nat)(s:Int)(ov:Value)(m:Thk.Bs),ov=v0/\v6=.int .i64 k/\v3=.int .u32 s/\k<=4/\0<=s/\s<4294967296/\m.length=l.length+k/\Hid (dD l=m++AU s (4-k))/\Hid (bF B wr ov m/\dh B w wr)) (λ_ _ v6 _=>4-(intOf v6).toNat);case atStart=>exact⟨0,oL l,v,l,rfl,rfl,rfl,by omega,hbd.1,hbd.2,by omega,rfl,H0⟩
 case round =>
  clear H0 hbd;obtain⟨k,s,ov,m,hov,rfl,rfl,hk,hs0,hs1,hml,Hm,HO⟩:=hrel;subst hov;by_cases hk4:k<4
  ·have Ti:(k:Int)<4:=by omega
   have hown:=HO.out.1;have hBr:B<=wr.heap.size:=Nat.le_trans hB HO.out.2.size;have h63:m.length+1<=maxLen:=by unfold maxLen;omega
   have h64:(m.length+1)*1<=140737488355328:=by omega
   unfold bF at hown;go_wp2_with (first|(at_builtin;go_loud (refine wpList_append_own_at _ rfl (.tmp 8) (.tmp 11) 93 rfl B 5 i0 (.int .u8 0) 1 1 underlying93 hi hz0 hz1 hz2 rfl (by decide) _ _ _ rfl (hown.alloc _) ⟨wr.heap.size,0,none⟩ 1 1 [.int .u8 (s % 256)] rfl rfl (cell_one_new _ _ _) (by intro u hu;simp at hu;subst hu;rfl) h63 h64 (by simp;omega) ?_);intro v6 w6 kF eG Ae uO;have HF6:=dh.app HO.out.1 eG;clear eG uO));have HN:Hid (dD l=(m++[UInt8.ofNat (s % 256).toNat])++AU (s / 256) (4-(k+1))):=by unfold Hid;rw[Hm.out,show 4-k=(4-(k+1))+1 by omega];show m++(UInt8.ofNat (s % 256).toNat::AU (s / 256) (4-(k+1)))=_;simp
   have HV:Hid (bF B w6 v6 (m++[UInt8.ofNat (s % 256).toNat])/\dh B w w6):=by
    refine⟨?_,HO.out.2.trans HF6⟩;have e1:kX (m++[UInt8.ofNat (s % 256).toNat])=kX m++[.int .u8 (s % 256)]:=by rw[gY];simp[kX,UInt8.toNat_ofNat'];omega
    unfold bF;rw[e1,List.length_append];exact kF
   clear kF HF6 hown HO Hm Ae;go_roundw;case rel=>exact⟨k+1,s / 256,v6,m++[UInt8.ofNat (s % 256).toNat],rfl,by first|rfl|go_num,rfl,by omega,by omega,by omega,by simp;omega,HN,HV⟩
   case measure=>simp[intOf]<;>omega
  ·have Ti:¬(k:Int)<4:=by omega
   have hk5:4-k=0:=by omega
   have HZ:Hid (dD l=m):=by unfold Hid;rw[Hm.out,hk5];show m++[]=m;simp
   clear hk5 Hm;go_wp2;go_ret;exact⟨_,rfl,by rw[HZ.out];exact HO.out.1,HO.out.2⟩
theorem FY(s:Int):∀k,(AU s k).length=k:=by
 intro k;induction k generalizing s with
 | zero=>rfl
 | succ k ih=>show(AU (s / 256) k).length+1=k+1;rw[ih]
theorem jK(l:Thk.Bs):(dD l).length=l.length+4:=by unfold dD;rw[List.length_append,FY]
def iJ(l:Thk.Bs):Option Thk.Bs:=if 4<=l.length/\dD (l.take (l.length-4))=l then some (l.take (l.length-4))else none
theorem wG(l:Thk.Bs):iJ (dD l)=some l:=by
 have h1:=jK l;have h2:(dD l).take ((dD l).length-4)=l:=by rw[h1,Nat.add_sub_cancel];unfold dD;rw[List.take_left]
 unfold iJ;rw[h2,if_pos ⟨by omega,rfl⟩]
structure nU(B:Nat)(w:World)(v:Value)(l:Thk.Bs):Prop where
 ex:∃g cap,v=.slice (some ⟨g,0,none⟩) l.length cap/\B<=g/\U8 w g/\l.length<=cap/\(∀j(h:j<l.length),w.cell? ⟨g,j,none⟩=some (.int .u8 (l[j].toNat:Int)))/\∀j,l.length<=j->j<cap->(w.cell? ⟨g,j,none⟩).isSome=true/\w.frozen? ⟨g,j,none⟩=false
theorem Vp{g:Nat}(h:U8 w g):g<w.heap.size:=by obtain⟨cs,fz,h⟩:=h;exact(Array.getElem?_eq_some_iff.1 h).1
theorem nU.alloc{l:Thk.Bs}(h:nU B w v l)(o:Obj):nU B (w.alloc o) v l:=by
 obtain⟨g,cap,h1,h2,h3,h4,h5,h6⟩:=h.ex;have hb:Below w.heap.size w (w.alloc o):=(Below.refl _ w).alloc (Nat.le_refl _) o;have hl:=Vp h3;refine⟨g,cap,h1,h2, ?_,h4,λj hj=>(hb.cell (p:=⟨g,j,none⟩) hl).trans (h5 j hj),λj h7 h8=>?_⟩
 ·obtain⟨cs,fz,h9⟩:=h3;exact⟨cs,fz,(hb.block g hl).trans h9⟩
 ·have:=h6 j h7 h8;rw[hb.cell (p:=⟨g,j,none⟩) hl,World.frozen?_of_block (hb.block g hl)];exact this
theorem nU.own{l:Thk.Bs}(h:bF B w v l)(h0:l≠[]):nU B w v l:=by
 have hcl:=λg(hg:v.ownBlock=some g)=>h.cells hg;obtain⟨hlen,⟨h1,h2⟩|⟨g,cap,cur,rfl,h3,h4,h5,h6,h7,h8⟩⟩:=h
 ·exact absurd (List.eq_nil_of_length_eq_zero h2) h0
 ·refine⟨g,cap,rfl,h3,⟨cur,_,h4⟩,h5,λj hj=>?_,λj h9 h10=>?_⟩
  ·have:=hcl g rfl j (.int .u8 (l[j].toNat:Int)) (by unfold kX;simp[hj]);rw[Addr.add_lit,Nat.zero_add]at this;exact this
  ·have hs:j<cur.size:=by omega
   have hf:w.frozen? ⟨g,j,none⟩=false:=by simp[World.frozen?,h4]
   refine⟨?_,hf⟩;simp[World.cell?,h4,hs]
theorem nU.append{l:Thk.Bs}(h:nU B w v l)(hB:B<=w.heap.size){ops:Array Oper}{rest:List Oper}{o:Oper}{a:Act}{Q:Exit->Act->World->Prop}(hg:o.guard=none)(s x:Operand)(hop:o.op=Op.call { callee:=Callee.builtin Builtin.append,args:=#[s,x],argTypes:=#[93,93] })(hs:a.eval s=v)(ad:Addr)(c:Nat)(b:UInt8)(hx:a.eval x=.slice (some ad) 1 c)(hc:∀j u,([.int .u8 (b.toNat:Int)]:List Value)[j]?=some u->w.cell? (ad.add j)=some u)(hl:l.length<=1000000)(hnext:∀v' w',nU B w' v' (l++[b])->dh B w w'->wpList prog ops Q rest (a.put o.dst v') w'):wpList prog ops Q (o::rest) a w:=by
 obtain⟨i0,hi,hz0,hz1,hz2⟩:=info_parts Tryz.infoU8;obtain⟨g,cap,h1,h2,h3,h4,h5,h6⟩:=h.ex;have hgl:=Vp h3;have holds:∀j u,(kX l)[j]?=some u->w.cell? ⟨g,0+j,none⟩=some u:=λj u hu=>by
  have hj:j<l.length:=by have:=(List.getElem?_eq_some_iff.1 hu).1;rw[KY]at this;exact this
  rw[Nat.zero_add,h5 j hj,<- hu];simp[kX,hj]
 refine wpList_append_arg w hg s x 93 hop 5 i0 (.int .u8 0) 1 1 underlying93 hi hz0 hz1 hz2 rfl (by decide) g 0 l.length cap (kX l) (by rw[hs,h1]) (by rw[KY];omega) holds ad 1 c [.int .u8 (b.toNat:Int)] hx (by simp) hc (by intro u hu;simp at hu;subst hu;rfl) ?_ (by unfold maxLen;omega) (by omega) ?_ ?_
 ·intro hr j hj;have:j=0:=by simpa using hj
  subst this;rw[show 0+l.length*1+0=l.length by omega];exact h6 l.length (Nat.le_refl _) (by omega)
 ·intro hr;have hfr:=h6 l.length (Nat.le_refl _) (by omega);have hw:w.setCells g (0+l.length*1) [.int .u8 (b.toNat:Int)]=w.setCell ⟨g,l.length,none⟩ (.int .u8 (b.toNat:Int)):=by rw[show 0+l.length*1=l.length by omega];(first|done|rfl)
  rw[hw];obtain⟨u0,hu0⟩:=Option.isSome_iff_exists.1 hfr.1;refine hnext _ _ ⟨g,cap,by rw[List.length_append];rfl,h2, ?_,by rw[List.length_append];exact hr,λj hj=>?_,λj h7 h8=>?_⟩ ?_
  ·obtain⟨cs,fz,h9⟩:=h3;refine⟨cs.setIfInBounds l.length (.int .u8 (b.toNat:Int)),fz, ?_⟩;have hq:w.heap[g]=.cells cs 5 fz:=by rw[Array.getElem?_eq_getElem hgl]at h9;exact Option.some.inj h9
   simp[World.setCell,hgl,Array.getElem_modify,hq]
  ·rw[List.length_append]at hj;by_cases e:j=l.length
   ·subst e;rw[bQ hu0];simp
   ·have hj2:j<l.length:=by simp at hj;omega
    rw[aK (Or.inr (λh=>e h.symm)),h5 j hj2,List.getElem_append_left hj2]
  ·rw[List.length_append]at h7;have h7':l.length+1<=j:=h7;have h10:=h6 j (by omega) h8;rw[aK (Or.inr (by omega))];refine⟨h10.1, ?_⟩;rw[<- h10.2];exact World.frozen?_setCell _ _ _ _
  ·refine ay.setCell (M:=λk=>B<=k/\U8 w k) (ay.refl _ w) (p:=⟨g,l.length,none⟩) ⟨h2,h3⟩ _
 ·intro hgr v' w' hown hgb;have hO:bF B w' v' (l++[b]):=by
   have h9:kX (l++[b])=kX l++[.int .u8 (b.toNat:Int)]:=by rw[gY];(first|done|rfl)
   unfold bF;rw[h9,List.length_append];exact⟨hown.1,hown.2.imp id λ⟨g,cap,cur,e1,e2,e3⟩=>⟨g,cap,cur,e1,Nat.le_trans hB e2,e3⟩⟩
  exact hnext v' w' (nU.own hO (by simp)) ((ay.refl _ w).grown hgb (λk e=>by cases e))
theorem Um(B:Nat)(w:World)(v:Value)(l:Thk.Bs)(h:nU B w v l)(hl:l.length<=1000000000):Calls prog 219 #[v] w λe w'=>e=.returned (.int .u32 (oL l))/\w'=w:=by
 obtain⟨g,cap,rfl,h2,h3,hcap,h5,h6⟩:=h.ex;have H:Hid (∀j(h:j<l.length),w.cell? ⟨g,j,none⟩=some (.int .u8 (l[j].toNat:Int))):=h5;clear h h2 h3 h5 h6;go_enter func219,ntmps219;go_wp2_with fail;go_loopw [3,8] (λv3 v8 wr=>∃(k:Nat)(s:Int),v8=.int .i64 k/\v3=.int .u32 s/\k<=l.length/\Hid (s=oL (l.take k))/\wr=w) (λ_ v8 _=>l.length-(intOf v8).toNat);case atStart=>exact⟨0,2166136261,rfl,rfl,by omega,rfl,rfl⟩
 case round =>
  obtain⟨k,s,rfl,rfl,hk,Hs,hwr⟩:=hrel;rw[hwr];clear hwr;by_cases hlt:k<l.length
  ·have Ti:(k:Int)<(l.length:Int):=by omega
   have cb:=H.out k hlt;have Hn:Hid (oL (l.take (k+1))=nS s l[k]):=by unfold Hid;rw[List.take_succ_eq_append_getElem hlt,vK,<- Hs.out]
   have hb:l[k].toNat<256:=UInt8.toNat_lt _;clear Hs;have Ad:Hid (∀b:UInt8,nS s b=(bits .xor .u32 s (b.toNat:Int)*16777619) % 4294967296):=λb=>rfl;generalize l[k]=b at *;go_wp2;go_roundw;case rel=>exact⟨k+1,_,by first|rfl|go_num,rfl,by omega,by unfold Hid;rw[Hn.out];exact(Ad.out b).symm,by first|rfl|trivial⟩
   case measure=>simp[intOf]<;>omega
  ·have Ti:¬(k:Int)<(l.length:Int):=by omega
   have hkl:k=l.length:=by omega
   have tH:Hid (s=oL l):=by unfold Hid;rw[Hs.out,hkl,List.take_length]
   clear hkl Hs;go_wp2;go_ret;exact⟨by rw[tH.out];rfl,rfl⟩
theorem Qq(B:Nat)(w:World)(v:Value)(l:Thk.Bs)(h:nU B w v l)(hB:B<=w.heap.size)(hl:l.length<=900000):Calls prog 163 #[v] w λe w'=>∃v',e=.returned v'/\nU B w' v' (dD l)/\dh B w w':=by
 have Qp:Hid (Calls prog 219 #[v] w λe w'=>e=.returned (.int .u32 (oL l))/\w'=w):=Um B w v l h (by omega);have H0:Hid (nU B w v l/\dh B w w):=⟨h,dh.refl _ _⟩;have hbd:=Le l;clear h;go_enter func163,ntmps163;go_wp2_with fail;refine Calls.mono Qp.out ?_;rintro e w1⟨rfl,h1⟩;rw[h1];clear h1 w1 Qp;go_wp2_with fail;go_loopw [0,3,6] (λv0 v3 v6 wr=>∃(k:Nat)(s:Int)(ov:Value)(m:Thk.Bs),ov=v0/\v6=.int .i64 k/\v3=.int .u32 s/\k<=4/\0<=s/\s<4294967296/\m.length=l.length+k/\Hid (dD l=m++AU s (4-k))/\Hid (nU B wr ov m/\dh B w wr)) (λ_ _ v6 _=>4-(intOf v6).toNat);case atStart=>exact⟨0,oL l,v,l,rfl,rfl,rfl,by omega,hbd.1,hbd.2,by omega,rfl,H0⟩
 case round =>
  clear H0 hbd;obtain⟨k,s,ov,m,hov,rfl,rfl,hk,hs0,hs1,hml,Hm,HO⟩:=hrel;subst hov;by_cases hk4:k<4
  ·have Ti:(k:Int)<4:=by omega
   have hrow:=HO.out.1;have hBr:B<=wr.heap.size:=Nat.le_trans hB HO.out.2.size;obtain⟨b,hb⟩:∃b:UInt8,(b.toNat:Int)=s % 256:=⟨UInt8.ofNat (s % 256).toNat,by rw[UInt8.toNat_ofNat'];omega⟩;have Hb:Hid (b=UInt8.ofNat (s % 256).toNat):=by unfold Hid;apply UInt8.toNat_inj.1;rw[UInt8.toNat_ofNat'];omega
   go_wp2_with (first|(at_builtin;go_loud (refine nU.append (hrow.alloc _) (by simp;omega) rfl (.tmp 8) (.tmp 11) rfl rfl ⟨wr.heap.size,0,none⟩ 1 b rfl (by rw[hb];exact cell_one_new _ _ _) (by omega) ?_);intro v6 w6 kF Vq));have HN:Hid (dD l=(m++[b])++AU (s / 256) (4-(k+1))):=by unfold Hid;rw[Hm.out,show 4-k=(4-(k+1))+1 by omega,Hb.out];show m++(UInt8.ofNat (s % 256).toNat::AU (s / 256) (4-(k+1)))=_;simp
   have HV:Hid (nU B w6 v6 (m++[b])/\dh B w w6):=⟨kF,HO.out.2.trans ((dh.of_below ((Below.refl _ wr).alloc (Nat.le_refl _) _)).trans Vq)⟩;clear kF Vq hrow HO Hm hb Hb;go_roundw;case rel=>exact⟨k+1,s / 256,v6,m++[b],rfl,by first|rfl|go_num,rfl,by omega,by omega,by omega,by simp;omega,HN,HV⟩
   case measure=>simp[intOf]<;>omega
  ·have Ti:¬(k:Int)<4:=by omega
   have hk5:4-k=0:=by omega
   have HZ:Hid (dD l=m):=by unfold Hid;rw[Hm.out,hk5];show m++[]=m;simp
   clear hk5 Hm;go_wp2;go_ret;exact⟨_,rfl,by rw[HZ.out];exact HO.out.1,HO.out.2⟩
theorem FZ{l:Thk.Bs}(h:nU B w v l):(convert 93 9 v).run prog w=.ok (.string (strOfNums (l.map λb=>(b.toNat:Int)))) w:=by
 obtain⟨g,cap,rfl,h2,h3,hcap,h5,h6⟩:=h.ex;refine run_convert_bytes_arg (P:=prog) _ 93 5 underlying93 underlying5 g 0 l.length cap _ (by simp) ?_ 9 underlying9;intro i hi;have hi2:i<l.length:=by simpa using hi
 rw[Nat.zero_add,h5 i hi2];simp[hi2]
theorem Qr(w:World)(s:ByteArray):∃v w',(convert 9 93 (.string s)).run prog w=.ok v w'/\nU w.heap.size w' v (ah s)/\Below w.heap.size w w':=by
 refine⟨_,_,run_bytes_of_string (P:=prog) w 9 93 5 s underlying9 underlying93 underlying5, ?_,((Below.refl _ w).drew).alloc (Nat.le_refl _) _⟩;have hge:=grownCap_ge w s.size 0 5;generalize grownCap w s.size 0 5=cap at *;have hls:(ah s).length=s.size:=by unfold ah;rw[Array.length_toList];(first|done|rfl)
 have hsz:(bytesRow s cap).size=cap:=by unfold bytesRow;rw[Array.size_append,Array.size_map,Array.size_replicate];have:s.data.size=s.size:=rfl;omega
 refine⟨w.heap.size,cap,by rw[hls],Nat.le_refl _,⟨_,_,heap_alloc_new w.drew _⟩,by rw[hls];omega,λj hj=>?_,λj h7 h8=>?_⟩
 ·have hj2:j<s.data.size:=by rw[hls]at hj;exact hj
  have:=World.cell?_alloc_mark w.drew (bytesRow s cap) 5 ((bytesRow s cap).size,(bytesRow s cap).size+1) j;refine Eq.trans this ?_;rw[bytesRow_at s cap j hj2];rfl
 ·have h1:=World.cell?_alloc_mark w.drew (bytesRow s cap) 5 ((bytesRow s cap).size,(bytesRow s cap).size+1) j;have h2:=World.frozen?_alloc_mark w.drew (bytesRow s cap) 5 (bytesRow s cap).size ((bytesRow s cap).size+1) j;refine⟨?_, ?_⟩
  ·have h3:(bytesRow s cap)[j]?=some ((bytesRow s cap)[j]'(by omega)):=Array.getElem?_eq_getElem _;have h4:=h1.trans h3;exact Option.isSome_iff_exists.2 ⟨_,h4⟩
  ·refine Eq.trans h2 ?_;simp;omega
theorem yZ(l:Thk.Bs):ah (strOfNums (l.map λb=>(b.toNat:Int)))=l:=by unfold ah strOfNums;simp[List.map_map,Function.comp_def]
theorem Un{a b:ByteArray}(h:a=b):(a.toList==b.toList)=true:=by rw[h];exact beq_self_eq_true _
theorem WX{a b:ByteArray}(h:¬a=b):(a.toList==b.toList)=false:=by rw[beq_eq_false_iff_ne,toList_eq,toList_eq];exact λe=>h (lK e)
theorem DV(s:ByteArray)(w:World)(hs:s.size<4):Calls prog 166 #[.string s] w λe w'=>e=.returned (.tuple #[.string ⟨#[]⟩,.bool false])/\w'=w:=by
 have h0:(s.size:Int)-4<0:=by omega
 go_enter func166,ntmps166;go_wp2;go_ret2;exact⟨rfl,rfl⟩
theorem wH(s:ByteArray)(w:World)(m:Nat)(hm:s.size=m+4)(hs:s.size<=900000)(ok:Bool)(hok:ok=true↔dD (ah (s.extract 0 m))=ah s):Calls prog 166 #[.string s] w λe w'=>e=.returned (.tuple #[.string (if ok then s.extract 0 m else⟨#[]⟩),.bool ok])/\Below w.heap.size w w':=by
 obtain⟨v,w1,hrun,hrow,hb⟩:=Qr w (s.extract 0 m);have hpl:(ah (s.extract 0 m)).length<=900000:=by
  have:(ah (s.extract 0 m)).length=(s.extract 0 m).size:=by unfold ah;rw[Array.length_toList];(first|done|rfl)
  rw[this,ByteArray.size_extract];omega
 have HR:Hid ((convert 9 93 (.string (s.extract 0 m))).run prog w=.ok v w1):=hrun;have HS:Hid (Calls prog 163 #[v] w1 λe w'=>∃v',e=.returned v'/\Hid ((convert 93 9 v').run prog w'=.ok (.string (strOfNums ((dD (ah (s.extract 0 m))).map λb=>(b.toNat:Int)))) w')/\Hid (Below w.heap.size w w')):=by refine Calls.mono (Qq w.heap.size w1 v _ hrow hb.size hpl) ?_;rintro e w'⟨v',rfl,h1,h2⟩;exact⟨v',rfl,FZ h1,hb.trans (h2.below hb.size)⟩
 have Hq:Hid (strOfNums ((dD (ah (s.extract 0 m))).map λb=>(b.toNat:Int))=s↔ok=true):=by
  unfold Hid;rw[hok];constructor
  ·intro h;have:=congrArg ah h;rw[yZ]at this;exact this
  ·intro h;exact lK (by rw[yZ];exact h)
 generalize strOfNums ((dD (ah (s.extract 0 m))).map λb=>(b.toNat:Int))=q at *;have h0:¬(s.size:Int)-4<0:=by omega
 have he:(s.size:Int)-4=(m:Int):=by omega
 have hmn:¬(m:Int)<0:=by omega
 have hm1:m<=s.size:=by omega
 have hm2:(m:Int)<=(s.size:Int):=by omega
 clear hrun hrow hb hok;go_enter func166,ntmps166;go_wp2_with fail;rw[HR.out];go_wp2_with fail;refine Calls.mono HS.out ?_;rintro e w2⟨v2,rfl,HC,HB⟩;clear HS HR;go_wp2_with fail;rw[HC.out];clear HC;cases ok with
 | true =>have YK:q=s:=Hq.out.2 rfl;have hqB:=Un YK;clear Hq;subst YK;go_wp2;go_ret2;exact⟨rfl,HB.out⟩
 | false =>
  have YK:¬q=s:=λh=>by have:=Hq.out.1 h;cases this
  have hqB:=WX YK;clear Hq;go_wp2;go_ret2;exact⟨rfl,HB.out⟩
theorem nV(s:ByteArray)(w:World)(hs:s.size<=900000):Calls prog 166 #[.string s] w λe w'=>e=.returned (.tuple #[.string ⟨((iJ (ah s)).getD []).toArray⟩,.bool (iJ (ah s)).isSome])/\Below w.heap.size w w':=by
 have hl:(ah s).length=s.size:=by unfold ah;rw[Array.length_toList];(first|done|rfl)
 by_cases h4:s.size<4
 ·have hu:iJ (ah s)=none:=by unfold iJ;rw[if_neg (by omega)]
  rw[hu];refine Calls.mono (DV s w h4) ?_;rintro e w'⟨rfl,rfl⟩;exact⟨rfl,Below.refl _ _⟩
 ·obtain⟨m,hm⟩:∃m,s.size=m+4:=⟨s.size-4,by omega⟩;have he:ah (s.extract 0 m)=(ah s).take m:=by unfold ah;rw[ByteArray.data_extract,Array.toList_extract];simp
  by_cases hk:dD ((ah s).take m)=ah s
  ·have hu:iJ (ah s)=some ((ah s).take m):=by unfold iJ;rw[hl,hm,Nat.add_sub_cancel,if_pos ⟨by omega,hk⟩]
   rw[hu];refine Calls.mono (wH s w m hm hs true (by rw[he];simp[hk])) ?_;rintro e w'⟨rfl,hb⟩;refine⟨?_,hb⟩;have:s.extract 0 m=⟨((ah s).take m).toArray⟩:=lK (by rw[he];simp[ah]);rw[if_pos rfl,this];(first|done|rfl)
  ·have hu:iJ (ah s)=none:=by unfold iJ;rw[hl,hm,Nat.add_sub_cancel,if_neg (λh=>hk h.2)]
   rw[hu];refine Calls.mono (wH s w m hm hs false (by rw[he];simp[hk])) ?_;rintro e w'⟨rfl,hb⟩;exact⟨rfl,hb⟩
def fK(n:Nat):Thk.Bs:=if h:n<128 then [UInt8.ofNat n]else UInt8.ofNat (n % 128+128)::fK (n / 128)
theorem qA{n:Nat}(h:n<128):fK n=[UInt8.ofNat n]:=by rw[fK,dif_pos h]
theorem qR{n:Nat}(h:¬n<128):fK n=UInt8.ofNat (n % 128+128)::fK (n / 128):=by rw[fK,dif_neg h]
theorem Qs(n:Nat):1<=(fK n).length:=by
 by_cases h:n<128
 ·rw[qA h];simp
 ·rw[qR h];simp
theorem mX:∀k n,n<128 ^ (k+1)->(fK n).length<=k+1:=by
 intro k;induction k with
 | zero=>intro n h;rw[qA (by omega)];simp
 | succ k ih =>
  intro n h;by_cases h1:n<128
  ·rw[qA h1];simp
  ·rw[qR h1];have:=ih (n / 128) (by rw[Nat.pow_succ]at h;omega);simp;omega
theorem y9(B:Nat)(w:World)(v:Value)(l:Thk.Bs)(n:Nat)(h:bF B w v l)(hB:B<=w.heap.size)(hl:l.length<=1000000)(hn:n<268435456):Calls prog 220 #[v,.int .i64 n] w λe w'=>∃v',e=.returned v'/\bF B w' v' (l++fK n)/\dh B w w':=by
 obtain⟨i0,hi,hz0,hz1,hz2⟩:=info_parts Tryz.infoU8;have H0:Hid (bF B w v l/\dh B w w):=⟨h,dh.refl _ _⟩;have hL:(l++fK n).length<=1000010:=by rw[List.length_append];have:=mX 3 n (by omega);omega
 clear h;go_enter func220,ntmps220;go_wp2_with fail;go_loopw [0,1] (λv0 v1 wr=>∃(k:Nat)(ov:Value)(m:Thk.Bs),ov=v0/\v1=.int .i64 k/\k<268435456/\m.length+(fK k).length<=1000010/\Hid (l++fK n=m++fK k)/\Hid (bF B wr ov m/\dh B w wr)) (λ_ v1 _=>(intOf v1).toNat);case atStart=>exact⟨n,v,l,rfl,rfl,hn,by rw[List.length_append]at hL;exact hL,rfl,H0⟩
 case round =>
  clear H0 hL;obtain⟨k,ov,m,hov,rfl,hk,hml,Hm,HO⟩:=hrel;subst hov;have hown:=HO.out.1;have hBr:B<=wr.heap.size:=Nat.le_trans hB HO.out.2.size;have hpos:=Qs k;have h63:m.length+1<=maxLen:=by unfold maxLen;omega
  have h64:(m.length+1)*1<=140737488355328:=by omega
  unfold bF at hown;by_cases hk1:k<128
  ·have hgt:¬(k:Int) > 127:=by omega
   have hcv:(k:Int) % 256=k:=by omega
   go_wp2_with (first|(at_builtin;go_loud (refine wpList_append_own_at _ rfl (.tmp 16) (.tmp 19) 93 rfl B 5 i0 (.int .u8 0) 1 1 underlying93 hi hz0 hz1 hz2 rfl (by decide) _ _ _ rfl (hown.alloc _) ⟨wr.heap.size,0,none⟩ 1 1 [.int .u8 (k:Int)] rfl rfl (cell_one_new _ _ _) (by intro u hu;simp at hu;subst hu;rfl) h63 h64 (by simp;omega) ?_);intro v6 w6 kF eG Ae uO;have HF6:=dh.app HO.out.1 eG;clear eG uO));go_ret;refine⟨_,rfl, ?_,HO.out.2.trans HF6⟩;have e1:kX (m++[UInt8.ofNat k])=kX m++[.int .u8 (k:Int)]:=by rw[gY];simp[kX,UInt8.toNat_ofNat'];omega
   rw[Hm.out,qA hk1];unfold bF;rw[e1,List.length_append];exact kF
  ·have hgt:(k:Int) > 127:=by omega
   obtain⟨q,hq⟩:∃q,k / 128=q:=⟨_,rfl⟩;obtain⟨r,hr⟩:∃r,k % 128+128=r:=⟨_,rfl⟩;have hlow:bits .and .i64 (k:Int) 127=(k:Int) % 128:=by rw[DK k (by omega)];omega
   have hmore:bits .or .i64 ((k:Int) % 128) 128=(r:Int):=by have:=yR (k % 128) (by omega);rw[<- hr,<- this];congr 1
   have hcv0:(r:Int) % 256=r:=by omega
   have hdiv:(k:Int) / 128=(q:Int):=by omega
   have HE:Hid (fK k=UInt8.ofNat r::fK q):=by unfold Hid;rw[qR hk1,hq,hr]
   have hr2:r<256:=by omega
   have hql:q<k:=by omega
   have am4:m.length+1+(fK q).length<=1000010:=by have:=congrArg List.length HE.out;simp at this;omega
   clear hq hr;go_wp2_with (first|(at_builtin;go_loud (refine wpList_append_own_at _ rfl (.tmp 7) (.tmp 12) 93 rfl B 5 i0 (.int .u8 0) 1 1 underlying93 hi hz0 hz1 hz2 rfl (by decide) _ _ _ rfl (hown.alloc _) ⟨wr.heap.size,0,none⟩ 1 1 [.int .u8 (r:Int)] rfl rfl (cell_one_new _ _ _) (by intro u hu;simp at hu;subst hu;rfl) h63 h64 (by simp;omega) ?_);intro v6 w6 kF eG Ae uO;have HF6:=dh.app HO.out.1 eG;clear eG uO));have HN:Hid (l++fK n=(m++[UInt8.ofNat r])++fK q):=by unfold Hid;rw[Hm.out,HE.out];simp
   have HV:Hid (bF B w6 v6 (m++[UInt8.ofNat r])/\dh B w w6):=by
    refine⟨?_,HO.out.2.trans HF6⟩;have e1:kX (m++[UInt8.ofNat r])=kX m++[.int .u8 (r:Int)]:=by rw[gY];simp[kX,UInt8.toNat_ofNat'];omega
    unfold bF;rw[e1,List.length_append];exact kF
   clear kF HF6 hown HO Hm Ae HE;go_roundw;case rel=>exact⟨q,v6,m++[UInt8.ofNat r],rfl,by first|rfl|go_num,by omega,by simp;omega,HN,HV⟩
   case measure=>simp[intOf]<;>omega
theorem Nz(B:Nat)(w:World)(v:Value)(l:Thk.Bs)(s:ByteArray)(h:bF B w v l)(hB:B<=w.heap.size)(hl:l.length<=900000)(hs:s.size<=1000000):Calls prog 224 #[v,.string s] w λe w'=>∃v',e=.returned v'/\bF B w' v' (l++fK s.size++ah s)/\dh B w w':=by
 obtain⟨i0,hi,hz0,hz1,hz2⟩:=info_parts Tryz.infoU8;have hen:=mX 3 s.size (by omega);have HN:Hid (_):=y9 B w v l s.size h hB (by omega) (by omega);clear h;go_enter func224,ntmps224;go_wp2_with fail;refine Calls.mono HN.out ?_;rintro e w1⟨v1,rfl,h1,hF1⟩;have hB1:B<=w1.heap.size:=Nat.le_trans hB hF1.size;have HV1:Hid (bF B w1 v1 (l++fK s.size)):=h1;have HF1:Hid (dh B w w1):=hF1;have h63:(l++fK s.size).length+s.size<=maxLen:=by unfold maxLen;simp;omega
 have h64:(l++fK s.size).length+s.size<=140737488355328:=by simp;omega
 clear h1 hF1 HN;go_wp2_with (first|(at_builtin;refine Lib.wpList_append_own_string _ rfl (.tmp 8) (.tmp 9) 93 9 rfl B 5 i0 underlying93 underlying9 hi hz0 hz1 hz2 _ _ _ rfl HV1.out s rfl h63 h64 hB1 ?_;intro v6 w6 kF eG Ae));go_ret;refine⟨_,rfl, ?_,HF1.out.trans (dh.app0 HV1.out eG)⟩;unfold bF;rw[gY,<- uz,List.length_append];exact kF
def JE:Nat->Nat->Nat->Thk.Bs->Option (Nat×Thk.Bs)
 | 0,_,_,_=>none
 | _+1,_,_,[]=>none
 | f+1,p,n,b::r=>if b.toNat<128 then some (n+b.toNat*p,r)else JE f (p*128) (n+(b.toNat-128)*p) r
theorem DW:∀(f p n k:Nat)(r:Thk.Bs),k<128 ^ (f+1)->JE (f+1) p n (fK k++r)=some (n+k*p,r)
 | f,p,n,k,r,hk=>by
  by_cases h:k<128
  ·rw[qA h];show(if(UInt8.ofNat k).toNat<128 then _ else _)=_;have:(UInt8.ofNat k).toNat=k:=by rw[UInt8.toNat_ofNat'];omega
   rw[this,if_pos h];rfl
  ·cases f with
   | zero=>omega
   | succ f =>
    rw[qR h];show(if(UInt8.ofNat (k % 128+128)).toNat<128 then _ else _)=_;have:(UInt8.ofNat (k % 128+128)).toNat=k % 128+128:=by rw[UInt8.toNat_ofNat'];omega
    rw[this,if_neg (by omega),Nat.add_sub_cancel];have ih:=DW f (p*128) (n+k % 128*p) (k / 128) r (by rw[Nat.pow_succ]at hk;omega);show JE (f+1) (p*128) (n+k % 128*p) (fK (k / 128)++r)=_;rw[ih];have e1:k / 128*(p*128)=(k / 128*128)*p:=by rw[Nat.mul_comm p 128,Nat.mul_assoc]
    have e2:k % 128*p+(k / 128*128)*p=k*p:=by rw[<- Nat.add_mul];congr 1;omega
    rw[e1,Nat.add_assoc,e2]
theorem or_hi{a b i:Nat}(h:a<2 ^ i):a ||| (b*2 ^ i)=a+b*2 ^ i:=by have:=Nat.two_pow_add_eq_or_of_lt h b;rw[Nat.or_comm,Nat.mul_comm b,<- this];omega
end Go.Proofs.YtfmmllpjgkgeaaaGreatDoor
namespace Go.Proofs.YtfmmllpjgkgeaaaGreatDoor
open Go.Proofs.Tryz Go.RowKit Go.Maps Go.WideMaps
variable{c:Bool}{k:Int}{db n:Nat}{w:World}
theorem Qu{f p:Nat}{l r:Thk.Bs}{N:Nat}(h:JE f p n l=some (N,r)):∃g b t,f=g+1/\l=b::t/\((b.toNat<128/\N=n+b.toNat*p/\r=t)\/(¬b.toNat<128/\JE g (p*128) (n+(b.toNat-128)*p) t=some (N,r))):=by
 cases f with
 | zero=>cases h
 | succ g =>
  cases l with
  | nil=>cases h
  | cons b t =>
   refine⟨g,b,t,rfl,rfl, ?_⟩;have h2:(if b.toNat<128 then some (n+b.toNat*p,t)else JE g (p*128) (n+(b.toNat-128)*p) t)=some (N,r):=h;by_cases hb:b.toNat<128
   ·rw[if_pos hb]at h2;cases h2
    exact Or.inl ⟨hb,rfl,rfl⟩
   ·rw[if_neg hb]at h2;exact Or.inr ⟨hb,h2⟩
theorem xK(a b i:Nat)(h:a<2 ^ i)(hb:a+b*2 ^ i<9223372036854775808):bits .or .i64 (a:Int) ((b*2 ^ i:Nat):Int)=((a+b*2 ^ i:Nat):Int):=by have e:=lV .i64 a (b*2 ^ i) (by show a<18446744073709551616;omega) (by show b*2 ^ i<18446744073709551616;omega);rw[e,or_hi h];exact wrap_i64 _ hb
theorem wI(w:World)(rb:Nat)(s:ByteArray)(N lo hi:Nat)(r:Thk.Bs)(h:kC w rb s)(hs:JE 4 1 0 (ah s)=some (N,r))(h1:lo<=N)(h2:N<=hi)(hhi:hi<=1000000000)(hsz:s.size<=1000000000):Calls prog 167 #[.pointer (some ⟨rb,0,none⟩),.int .i64 lo,.int .i64 hi] w λe w'=>∃s',e=.returned (.int .i64 N)/\kC w' rb s'/\ah s'=r/\ay (λk=>k=rb) w w':=by
 have c0:=(h.cell 0).trans rfl;have c1:=(h.cell 1).trans rfl;have f0:=h.frozen;have HK:Hid (kC w rb s):=h;have H0:Hid (JE 4 1 0 ((ah s).drop 0)=some (N,r)):=hs;have hl:(ah s).length=s.size:=by unfold ah;rw[Array.length_toList];(first|done|rfl)
 clear h hs;go_enter func167,ntmps167;go_wp2_with fail;go_loopw [7,8] (λv7 v8 wx=>∃(k n:Nat),v8=.int .i64 k/\v7=.int .i64 n/\k<=4/\Hid (n<128 ^ k)/\Hid (JE (4-k) (128 ^ k) n ((ah s).drop k)=some (N,r))/\wx=w) (λ_ v8 _=>4-(intOf v8).toNat);case atStart=>exact⟨0,0,rfl,rfl,by omega,by unfold Hid;decide,H0,rfl⟩
 case round =>
  clear H0;obtain⟨k,n,rfl,rfl,hk,Hn,HR,hwr⟩:=hrel;rw[hwr];clear hwr;obtain⟨g,b,t,hg,ht,hcase⟩:=Qu HR.out;have hk4:k<4:=by omega
  have hks:k<s.size:=by have:=congrArg List.length ht;rw[List.length_drop,hl]at this;simp at this;omega
  have hbk:(s[k]'hks)=b:=by have e1:s[k]'hks=(ah s)[k]'(by rw[hl];exact hks):=rfl;have e2:(ah s).drop k=(ah s)[k]'(by rw[hl];exact hks)::(ah s).drop (k+1):=List.drop_eq_getElem_cons _;rw[e2]at ht;rw[e1];exact(List.cons.inj ht).1
  have htt:t=(ah s).drop (k+1):=by have e2:(ah s).drop k=(ah s)[k]'(by rw[hl];exact hks)::(ah s).drop (k+1):=List.drop_eq_getElem_cons _;rw[e2]at ht;exact(List.cons.inj ht).2.symm
  have hbt:(s[k]'hks).toNat=b.toNat:=by rw[hbk]
  have hb256:b.toNat<256:=UInt8.toNat_lt _;have hnn:=Hn.out;clear HR ht Hn hbk;have hgk:g=4-(k+1):=by omega
  subst htt hgk;clear hg;have hand:=DL b.toNat hb256;have htop:=DN b.toNat hb256;have HX:Hid (ah (s.extract (k+1) s.size)=(ah s).drop (k+1)):=by unfold Hid;rw[eU,<- hl,List.take_length]
  generalize b.toNat=bn at *;obtain⟨x,hx⟩:∃x,bn % 128=x:=⟨_,rfl⟩;rw[hx]at hand;have hx128:x<128:=by omega
  obtain rfl|rfl|rfl|rfl:k=0\/k=1\/k=2\/k=3:=by omega
  ·
   have hn0:n<1:=by simpa using hnn
   have hor:bits .or .i64 (n:Int) (x:Int)=((n+x*1:Nat):Int):=by have:=xK n x 0 (by show n<1;exact hn0) (by show n+x*1<9223372036854775808;omega);rw[show(x:Int)=((x*2 ^ 0:Nat):Int) by(show(x:Int)=((x*1:Nat):Int));omega];exact this
   have hsI:(0:Int)<(s.size:Int):=by omega
   rcases hcase with⟨hb,hN,hr⟩|⟨hb,hR⟩
   ·rw[if_pos hb]at htop;have hbx:bn=x:=by omega
    have WY:N=n+x*1:=by rw[hN,hbx]
    have Lc:Hid (ah (s.extract 1 s.size)=r):=by rw[hr];exact HX
    clear HX hr hN hbx hnn;generalize hM:n+x*1=M at *;clear hM;subst WY;have hlo:¬(N:Int)<(lo:Int):=by omega
    have hhi2:¬(N:Int) > (hi:Int):=by omega
    go_wp2_with fail;go_ret;exact⟨rfl,_,HK.out.set0 _,Lc.out,(ay.refl (λk=>k=rb) w).setCell (p:=⟨rb,0,none⟩) rfl _⟩
   ·rw[if_neg hb]at htop;have hbx:bn-128=x:=by omega
    rw[hbx]at hR;have HR2:Hid (JE (4-1) (128 ^ 1) (n+x*1) ((ah s).drop 1)=some (N,r)):=hR;have Iy:Hid (n+x*1<128 ^ 1):=by unfold Hid;show n+x*1<128;omega
    clear HX hR hbx hnn;generalize n+x*1=M at *;go_wp2;go_roundw;case rel=>exact⟨1,M,by first|rfl|go_num,rfl,by omega,Iy,HR2,by first|rfl|trivial⟩
    case measure=>simp[intOf]<;>omega
  ·
   have hn0:n<128:=by simpa using hnn
   have hor:bits .or .i64 (n:Int) ((x:Int)*128)=((n+x*128:Nat):Int):=by have:=xK n x 7 (by show n<128;exact hn0) (by show n+x*128<9223372036854775808;omega);rw[show((x:Int)*128)=((x*2 ^ 7:Nat):Int) by(show((x:Int)*128)=((x*128:Nat):Int));omega];exact this
   have hsI:(1:Int)<(s.size:Int):=by omega
   rcases hcase with⟨hb,hN,hr⟩|⟨hb,hR⟩
   ·rw[if_pos hb]at htop;have hbx:bn=x:=by omega
    have WY:N=n+x*128:=by rw[hN,hbx]
    have Lc:Hid (ah (s.extract 2 s.size)=r):=by rw[hr];exact HX
    clear HX hr hN hbx hnn;generalize hM:n+x*128=M at *;clear hM;subst WY;have hlo:¬(N:Int)<(lo:Int):=by omega
    have hhi2:¬(N:Int) > (hi:Int):=by omega
    go_wp2_with fail;go_ret;exact⟨rfl,_,HK.out.set0 _,Lc.out,(ay.refl (λk=>k=rb) w).setCell (p:=⟨rb,0,none⟩) rfl _⟩
   ·rw[if_neg hb]at htop;have hbx:bn-128=x:=by omega
    rw[hbx]at hR;have HR2:Hid (JE (4-2) (128 ^ 2) (n+x*128) ((ah s).drop 2)=some (N,r)):=hR;have Iy:Hid (n+x*128<128 ^ 2):=by unfold Hid;show n+x*128<16384;omega
    clear HX hR hbx hnn;generalize n+x*128=M at *;go_wp2;go_roundw;case rel=>exact⟨2,M,by first|rfl|go_num,rfl,by omega,Iy,HR2,by first|rfl|trivial⟩
    case measure=>simp[intOf]<;>omega
  ·
   have hn0:n<16384:=by simpa using hnn
   have hor:bits .or .i64 (n:Int) ((x:Int)*16384)=((n+x*16384:Nat):Int):=by have:=xK n x 14 (by show n<16384;exact hn0) (by show n+x*16384<9223372036854775808;omega);rw[show((x:Int)*16384)=((x*2 ^ 14:Nat):Int) by(show((x:Int)*16384)=((x*16384:Nat):Int));omega];exact this
   have hsI:(2:Int)<(s.size:Int):=by omega
   rcases hcase with⟨hb,hN,hr⟩|⟨hb,hR⟩
   ·rw[if_pos hb]at htop;have hbx:bn=x:=by omega
    have WY:N=n+x*16384:=by rw[hN,hbx]
    have Lc:Hid (ah (s.extract 3 s.size)=r):=by rw[hr];exact HX
    clear HX hr hN hbx hnn;generalize hM:n+x*16384=M at *;clear hM;subst WY;have hlo:¬(N:Int)<(lo:Int):=by omega
    have hhi2:¬(N:Int) > (hi:Int):=by omega
    go_wp2_with fail;go_ret;exact⟨rfl,_,HK.out.set0 _,Lc.out,(ay.refl (λk=>k=rb) w).setCell (p:=⟨rb,0,none⟩) rfl _⟩
   ·rw[if_neg hb]at htop;have hbx:bn-128=x:=by omega
    rw[hbx]at hR;have HR2:Hid (JE (4-3) (128 ^ 3) (n+x*16384) ((ah s).drop 3)=some (N,r)):=hR;have Iy:Hid (n+x*16384<128 ^ 3):=by unfold Hid;show n+x*16384<2097152;omega
    clear HX hR hbx hnn;generalize n+x*16384=M at *;go_wp2;go_roundw;case rel=>exact⟨3,M,by first|rfl|go_num,rfl,by omega,Iy,HR2,by first|rfl|trivial⟩
    case measure=>simp[intOf]<;>omega
  ·
   have hn0:n<2097152:=by simpa using hnn
   have hor:bits .or .i64 (n:Int) ((x:Int)*2097152)=((n+x*2097152:Nat):Int):=by have:=xK n x 21 (by show n<2097152;exact hn0) (by show n+x*2097152<9223372036854775808;omega);rw[show((x:Int)*2097152)=((x*2 ^ 21:Nat):Int) by(show((x:Int)*2097152)=((x*2097152:Nat):Int));omega];exact this
   have hsI:(3:Int)<(s.size:Int):=by omega
   rcases hcase with⟨hb,hN,hr⟩|⟨hb,hR⟩
   ·rw[if_pos hb]at htop;have hbx:bn=x:=by omega
    have WY:N=n+x*2097152:=by rw[hN,hbx]
    have Lc:Hid (ah (s.extract 4 s.size)=r):=by rw[hr];exact HX
    clear HX hr hN hbx hnn;generalize hM:n+x*2097152=M at *;clear hM;subst WY;have hlo:¬(N:Int)<(lo:Int):=by omega
    have hhi2:¬(N:Int) > (hi:Int):=by omega
    go_wp2_with fail;go_ret;exact⟨rfl,_,HK.out.set0 _,Lc.out,(ay.refl (λk=>k=rb) w).setCell (p:=⟨rb,0,none⟩) rfl _⟩
   ·rw[if_neg hb]at htop;have hbx:bn-128=x:=by omega
    rw[hbx]at hR;have HR2:Hid (JE (4-4) (128 ^ 4) (n+x*2097152) ((ah s).drop 4)=some (N,r)):=hR;have Iy:Hid (n+x*2097152<128 ^ 4):=by unfold Hid;show n+x*2097152<268435456;omega
    clear HX hR hbx hnn;generalize n+x*2097152=M at *;go_wp2;go_roundw;case rel=>exact⟨4,M,by first|rfl|go_num,rfl,by omega,Iy,HR2,by first|rfl|trivial⟩
    case measure=>simp[intOf]<;>omega
theorem NC(w:World)(rb:Nat)(s:ByteArray)(t r:Thk.Bs)(h:kC w rb s)(hs:ah s=fK t.length++t++r)(ht:t.length<268435456)(hsz:s.size<=1000000000):Calls prog 244 #[.pointer (some ⟨rb,0,none⟩)] w λe w'=>∃u s',e=.returned (.string u)/\ah u=t/\kC w' rb s'/\ah s'=r/\ay (λk=>k=rb) w w':=by
 have c0:=(h.cell 0).trans rfl;have hl:s.size=(fK t.length++t++r).length:=by rw[<- hs];simp[ah]
 have hrd:JE 4 1 0 (ah s)=some (t.length,t++r):=by rw[hs,List.append_assoc];have:=DW 3 1 0 t.length (t++r) (by omega);rw[this];simp
 have HN:Hid (_):=wI w rb s t.length 0 s.size (t++r) h hrd (Nat.zero_le _) (by rw[hl];simp;omega) hsz hsz;clear h hl hs hrd;go_enter func244,ntmps244;go_wp2_with fail;refine Calls.mono HN.out ?_;rintro e w1⟨s1,rfl,hk,hs1,hch⟩;have c0:=(hk.cell 0).trans rfl;have f0:=hk.frozen;have hl1:t.length<=s1.size:=by
  have:s1.size=(ah s1).length:=by simp[ah]
  rw[this,hs1];simp
 have Hu:Hid (ah (s1.extract 0 t.length)=t):=by unfold Hid;rw[yO,hs1];simp
 have Hr:Hid (ah (s1.extract t.length s1.size)=r):=by unfold Hid;rw[yP,hs1];simp
 have HK:Hid (kC w1 rb s1/\ay (λk=>k=rb) w w1):=⟨hk,hch⟩;have hi1:(t.length:Int)<=(s1.size:Int):=by omega
 generalize t.length=m at *;clear HN hk hs1 hch;go_wp2_with fail;go_ret;exact⟨_,_,rfl,Hu.out,HK.out.1.set0 _,Hr.out,HK.out.2.setCell (p:=⟨rb,0,none⟩) rfl _⟩
def slotL(n:Nat)(t:Thk.Bs):Thk.Bs:=dD (fK n++(fK t.length++t))
theorem Qv{B:Nat}{v:Value}{l:Thk.Bs}(h:bF B w v l)(hl:l≠[]):(convert 93 9 v).run prog w=.ok (.string (strOfNums (l.map λb=>(b.toNat:Int)))) w:=FZ (nU.own h hl)
theorem zh(w:World)(n:Nat)(s:ByteArray)(hn:n<268435456)(hs:s.size<=800000):Calls prog 181 #[.int .i64 n,.string s] w λe w'=>∃u,e=.returned (.string u)/\ah u=slotL n (ah s)/\Below w.heap.size w w':=by
 have hts:(ah s).length=s.size:=by unfold ah;rw[Array.length_toList];(first|done|rfl)
 have hen:=mX 3 n (by omega);have hes:=mX 3 s.size (by omega);have H1:Hid (Calls prog 220 #[.slice none 0 0,.int .i64 n] w λe w'=>∃v',e=.returned v'/\Hid (bF w.heap.size w' v' (fK n)/\Below w.heap.size w w')):=by refine Calls.mono (y9 w.heap.size w _ [] n (bF.nil _ _) (Nat.le_refl _) (by simp) hn) ?_;rintro e w'⟨v',rfl,h1,h2⟩;exact⟨v',rfl,h1,h2.below (Nat.le_refl _)⟩
 have H2:Hid (∀v wx,(bF w.heap.size wx v (fK n)/\Below w.heap.size w wx)->Calls prog 224 #[v,.string s] wx λe w'=>∃v',e=.returned v'/\Hid (bF w.heap.size w' v' (fK n++(fK (ah s).length++ah s))/\Below w.heap.size w w')):=λv wx hx=>by refine Calls.mono (Nz w.heap.size wx v _ s hx.1 hx.2.size (by omega) (by omega)) ?_;rintro e w'⟨v',rfl,h1,h2⟩;rw[List.append_assoc,<- hts]at h1;exact⟨v',rfl,h1,hx.2.trans (h2.below hx.2.size)⟩
 have H3:Hid (∀v wx,(bF w.heap.size wx v (fK n++(fK (ah s).length++ah s))/\Below w.heap.size w wx)->Calls prog 163 #[v] wx λe w'=>∃v',e=.returned v'/\Hid ((convert 93 9 v').run prog w'=.ok (.string (strOfNums ((slotL n (ah s)).map λb=>(b.toNat:Int)))) w')/\Hid (Below w.heap.size w w')):=λv wx hx=>by refine Calls.mono (yY w.heap.size wx v _ hx.1 hx.2.size (by rw[hts];simp only[List.length_append];omega)) ?_;rintro e w'⟨v',rfl,h1,h2⟩;refine⟨v',rfl,Qv h1 (λe=>?_),hx.2.trans (h2.below hx.2.size)⟩;have:=congrArg List.length e;unfold slotL at this;rw[jK]at this;simp at this
 have Hq:Hid (ah (strOfNums ((slotL n (ah s)).map λb=>(b.toNat:Int)))=slotL n (ah s)):=yZ _;generalize strOfNums ((slotL n (ah s)).map λb=>(b.toNat:Int))=q at *;clear hts hen hes;go_enter func181,ntmps181;go_wp2_with fail;refine Calls.mono H1.out ?_;rintro e w1⟨v1,rfl,K1⟩;clear H1;go_wp2_with fail;refine Calls.mono (H2.out v1 w1 K1.out) ?_;rintro e w2⟨v2,rfl,K2⟩;clear H2 K1;go_wp2_with fail;refine Calls.mono (H3.out v2 w2 K2.out) ?_;rintro e w3⟨v3,rfl,HC,HB⟩;clear H3 K2;go_wp2_with fail;rw[HC.out];go_wp2;go_ret;exact⟨q,rfl,Hq.out,HB.out⟩
theorem JF{wx wy:World}{rb:Nat}(hb:Below w.heap.size w wx)(hc:ay (λk=>k=rb) wx wy)(hr:w.heap.size<=rb):Below w.heap.size w wy :=
 hb.trans ⟨hc.os,hc.tape,hc.output,hc.size,λk hk=>hc.block k (Nat.lt_of_lt_of_le hk hb.size) (by omega)⟩
theorem DX(w:World)(q:ByteArray)(n:Nat)(t:Thk.Bs)(hq:ah q=slotL n t)(hn:n<268435456)(ht:t.length<=800000):Calls prog 242 #[.string q] w λe w'=>∃u,e=.returned (.tuple #[.int .i64 n,.string u,.bool true])/\ah u=t/\Below w.heap.size w w':=by
 have hql:q.size=(slotL n t).length:=by rw[<- hq];unfold ah;rw[Array.length_toList];(first|done|rfl)
 have hen:=mX 3 n (by omega);have het:=mX 3 t.length (by omega);have hsz:q.size<=900000:=by rw[hql];unfold slotL;rw[jK];simp only[List.length_append];omega
 have hus:iJ (ah q)=some (fK n++(fK t.length++t)):=by rw[hq];exact wG _
 have HU:Hid (_):=nV q w hsz;rw[hus]at HU;generalize hin:((some (fK n++(fK t.length++t))).getD [])=L at HU;have hL:L=fK n++(fK t.length++t):=hin.symm;have hLl:L.length<=900000:=by rw[hL];simp only[List.length_append];omega
 have hLs:(⟨L.toArray⟩:ByteArray).size=L.length:=by show L.toArray.size=_;simp
 have hLt:ah (⟨L.toArray⟩:ByteArray)=L:=by unfold ah;simp
 have H1:Hid (∀wx rb,kC wx rb ⟨L.toArray⟩->Calls prog 167 #[.pointer (some ⟨rb,0,none⟩),.int .i64 0,.int .i64 268435455] wx λe w'=>∃s',e=.returned (.int .i64 n)/\Hid (kC w' rb s'/\ah s'=fK t.length++t/\s'.size<=900000/\ay (λk=>k=rb) wx w')):=λwx rb hk=>by
  have hrd:JE 4 1 0 (ah (⟨L.toArray⟩:ByteArray))=some (n,fK t.length++t):=by rw[hLt,hL,DW 3 1 0 n (fK t.length++t) (by omega)];simp
  refine Calls.mono (wI wx rb ⟨L.toArray⟩ n 0 268435455 _ hk hrd (Nat.zero_le _) (by omega) (by omega) (by rw[hLs];omega)) ?_;rintro e w'⟨s',rfl,a1,a2,a3⟩;refine⟨s',rfl,a1,a2, ?_,a3⟩;have:s'.size=(ah s').length:=by simp[ah]
  rw[this,a2];simp only[List.length_append];omega
 have H2:Hid (∀wx rb s',(kC wx rb s'/\ah s'=fK t.length++t/\s'.size<=900000)->Calls prog 244 #[.pointer (some ⟨rb,0,none⟩)] wx λe w'=>∃u s'',e=.returned (.string u)/\Hid (ah u=t/\kC w' rb s''/\ah s''=[]/\ay (λk=>k=rb) wx w')):=λwx rb s' hk=>by refine Calls.mono (NC wx rb s' t [] hk.1 (by rw[hk.2.1,List.append_nil]) (by omega) (by have:=hk.2.2;omega)) ?_;rintro e w'⟨u,s'',rfl,a1,a2,a3,a4⟩;exact⟨u,s'',rfl,a1,a2,a3,a4⟩
 clear hus hin hL hLl hLs hLt hsz hen het hql hq ht hn;generalize (⟨L.toArray⟩:ByteArray)=M at *;go_enter func242,ntmps242;go_wp2_with fail;refine Calls.mono HU.out ?_;rintro e w1⟨rfl,hb1⟩;simp only[Option.isSome_some];have HB1:Hid (Below w.heap.size w w1):=hb1;clear HU hb1;go_wp2_with fail;refine Calls.mono (mg _ _) ?_;rintro e w2⟨rfl,rfl⟩;go_wp2_with fail;refine Calls.mono (H1.out _ _ (aA.new _ _ _)) ?_;rintro e w3⟨s3,rfl,K3⟩;clear H1;go_wp2_with fail;refine Calls.mono (H2.out _ _ _ ⟨K3.out.1,K3.out.2.1,K3.out.2.2.1⟩) ?_;rintro e w4⟨u,s4,rfl,K4⟩;clear H2;go_wp2_with fail;refine Calls.mono (vJ _ _ _ K4.out.2.1 K4.out.2.2.1) ?_;rintro e w5⟨rfl,rfl⟩;go_wp2;have hz:=HB1.out.size;exact bodyPost_ret (v:=.tuple #[.int .i64 n,.string u,.bool true]) (by simp[results,Tryz.results242,go_sem]) rfl ⟨u,rfl,K4.out.1,JF (JF (HB1.out.alloc hz _) K3.out.2.2.2 hz) K4.out.2.2.2 hz⟩
theorem F5(w:World)(q:ByteArray)(hq:iJ (ah q)=none)(hs:q.size<=900000):Calls prog 242 #[.string q] w λe w'=>e=.returned (.tuple #[.int .i64 0,.string ⟨#[]⟩,.bool false])/\Below w.heap.size w w':=by have HU:Hid (_):=nV q w hs;rw[hq]at HU;clear hq hs;go_enter func242,ntmps242;go_wp2_with fail;refine Calls.mono HU.out ?_;rintro e w1⟨rfl,hb1⟩;simp only[Option.isSome_none];have HB1:Hid (Below w.heap.size w w1):=hb1;clear HU hb1;go_wp2;exact bodyPost_ret (v:=.tuple #[.int .i64 0,.string ⟨#[]⟩,.bool false]) (by simp[results,Tryz.results242,go_sem]) rfl ⟨rfl,HB1.out⟩
def jf(w:World)(db:Nat)(sl:Nat->ByteArray)(c:Bool)(k:Int):Prop:=aA w db #[.string (sl 0),.string (sl 1),.bool c,.int .i64 k] 229
def DY(sl:Nat->ByteArray)(n:Nat)(s:ByteArray):Nat->ByteArray:=λi=>if i=n % 2 then s else sl i
theorem jf.cellS{sl:Nat->ByteArray}(h:jf w db sl c k)(n:Nat):w.cell? ⟨db,n % 2,none⟩=some (.string (sl (n % 2))):=by rw[aA.cell h];rcases Nat.mod_two_eq_zero_or_one n with e|e<;>rw[e]<;>rfl
theorem jf.put{sl:Nat->ByteArray}(h:jf w db sl c k)(n:Nat)(s:ByteArray):jf (w.setCell ⟨db,n % 2,none⟩ (.string s)) db (DY sl n s) c k:=by unfold jf DY at *;unfold aA at h⊢;rcases Nat.mod_two_eq_zero_or_one n with e|e<;>simp[e,World.setCell,Array.getElem?_modify,h]
theorem F6(w:World)(db:Nat)(n:Nat)(s:ByteArray)(sl:Nat->ByteArray)(c:Bool)(k:Int)(h:jf w db sl c k):Calls prog 180 #[.pointer (some ⟨db,0,none⟩),.int .i64 n,.string s] w λe w'=>e=.returned (.tuple #[])/\jf w' db (DY sl n s) c k/\ay (λx=>x=db) w w':=by have cs:=h.cellS n;have f0:=aA.frozen h (n % 2);have HP:Hid (jf (w.setCell ⟨db,n % 2,none⟩ (.string s)) db (DY sl n s) c k/\ay (λx=>x=db) w (w.setCell ⟨db,n % 2,none⟩ (.string s))):=⟨h.put n s,(ay.refl (λx=>x=db) w).setCell (p:=⟨db,n % 2,none⟩) rfl _⟩;clear h;go_enter func180,ntmps180;go_wp2_with fail;refine bodyPost_end (results_none rfl _ _ _) rfl ?_;exact⟨rfl,HP.out⟩
theorem Qw(w:World)(s:ByteArray)(hs:s.size<=800000):Calls prog 122 #[.string s] w λe w'=>e=.returned (.pointer (some ⟨w.heap.size,0,none⟩))/\(∃u,ah u=slotL 0 (ah s)/\jf w' w.heap.size (DY (λ_=>⟨#[]⟩) 0 u) false 0)/\Below w.heap.size w w':=by have H1:Hid (∀wx,Calls prog 181 #[.int .i64 0,.string s] wx λe w'=>∃u,e=.returned (.string u)/\Hid (ah u=slotL 0 (ah s))/\Hid (Below wx.heap.size wx w')):=λwx=>zh wx 0 s (by omega) hs;clear hs;go_enter func122,ntmps122;go_wp2_with fail;refine Calls.mono (H1.out _) ?_;rintro e w1⟨u,rfl,K1,K2⟩;clear H1;have hk:jf w1 w.heap.size (λ_=>⟨#[]⟩) false 0:=(aA.new w _ _).below K2.out;have HP:Hid (_):=F6 w1 w.heap.size 0 u _ _ _ hk;have hbb:Below w.heap.size w w1:=((Below.refl _ w).alloc (Nat.le_refl _) _).trans ⟨K2.out.os,K2.out.tape,K2.out.output,K2.out.size,λk hk=>K2.out.block k (by simp;omega)⟩;have HB:Hid (Below w.heap.size w w1):=hbb;clear hk hbb K2;go_wp2_with fail;refine Calls.mono HP.out ?_;rintro e w2⟨rfl,hd,hc⟩;have HD:Hid (jf w2 w.heap.size (DY (λ_=>⟨#[]⟩) 0 u) false 0/\ay (λx=>x=w.heap.size) w1 w2):=⟨hd,hc⟩;clear HP hd hc;go_wp2_with fail;go_ret;exact⟨rfl,⟨u,K1.out,HD.out.1⟩,JF HB.out HD.out.2 (Nat.le_refl _)⟩
def Opens(q:ByteArray)(o:Nat×Thk.Bs×Bool):Prop:=∀wx,Calls prog 242 #[.string q] wx λe w'=>∃u,e=.returned (.tuple #[.int .i64 o.1,.string u,.bool o.2.2])/\ah u=o.2.1/\Below wx.heap.size wx w'
def gZ(O:Nat->Nat×Thk.Bs×Bool):Nat->Nat×Thk.Bs
 | 0=>(0,[])
 | i+1=>if(O i).2.2=true/\(gZ O i).1<=(O i).1 then((O i).1,(O i).2.1)else gZ O i
theorem F7(w:World)(db:Nat)(sl:Nat->ByteArray)(c:Bool)(k:Int)(O:Nat->Nat×Thk.Bs×Bool)(h:jf w db sl c k)(hO:∀i,i<2->Opens (sl i) (O i)):Calls prog 182 #[.pointer (some ⟨db,0,none⟩)] w λe w'=>∃u,e=.returned (.tuple #[.int .i64 ((gZ O 2).1),.string u])/\ah u=(gZ O 2).2/\Below w.heap.size w w':=by
 have c0:=(aA.cell h 0).trans rfl;have c1:=(aA.cell h 1).trans rfl;have HO:Hid (∀i,i<2->Opens (sl i) (O i)):=hO;clear h hO;go_enter func182,ntmps182;go_wp2_with fail;go_loopg [2,3,13] 2 (λg v2 v3 v13 wx=>∃i:Nat,i+g=2/\v13=.int .i64 i/\v2=.int .i64 ((gZ O i).1)/\(∃u,v3=.string u/\ah u=(gZ O i).2)/\Below w.heap.size w wx);case atStart=>exact⟨0,by omega,rfl,rfl,⟨_,rfl,rfl⟩,Below.refl _ w⟩
 case round =>
  obtain⟨i,hig,rfl,rfl,⟨u,rfl,hu⟩,hb⟩:=hrel;have HB:Hid (Below w.heap.size w wr/\ah u=(gZ O i).2):=⟨hb,hu⟩;clear hb hu;by_cases hi:i<2
  ·have HC:Hid (_):=HO.out i hi wr;have hag:(#[Value.string (sl 0),Value.string (sl 1)]:Array Value)[i]?=some (.string (sl i)):=by rcases(by omega:i=0\/i=1)with e|e<;>subst e<;>rfl
   have hbs:gZ O (i+1)=if(O i).2.2=true/\(gZ O i).1<=(O i).1 then((O i).1,(O i).2.1)else gZ O i:=rfl
   have WZ:Hid (_):=hbs;clear hbs;have hix:(Instr.index 227 (Value.agg #[Value.string (sl 0),Value.string (sl 1)]) (.int .i64 i)).run prog wr=.ok (.string (sl i)) wr:=by rcases(by omega:i=0\/i=1)with e|e<;>subst e<;>first|rfl|(simp[Instr.index,go_sem,underlying227];try rfl)
   go_wp2_with fail;refine Calls.mono HC.out ?_;rintro e w1⟨x,rfl,hx,hb1⟩;have hb2:Below w.heap.size w w1:=HB.out.1.trans ⟨hb1.os,hb1.tape,hb1.output,hb1.size,λk hk=>hb1.block k (Nat.lt_of_lt_of_le hk HB.out.1.size)⟩;have HX:Hid (ah x=(O i).2.1/\Below w.heap.size w w1):=⟨hx,hb2⟩;clear HC hag hix hx hb1 hb2;obtain⟨⟨n,t,b⟩,ho⟩:∃o,O i=o:=⟨_,rfl⟩;rw[ho]at WZ HX⊢;generalize hm:(gZ O i).1=m at *;cases b
   ·go_wp2_with fail;go_roundg (2-(i+1));case measure=>omega
    case rel=>exact⟨i+1,by omega,by go_num,by rw[WZ.out];simp[hm],⟨u,rfl,by rw[WZ.out];simp[HB.out.2]⟩,HX.out.2⟩
   ·by_cases hmn:m<=n
    ·have hz:(m:Int)<=(n:Int):=by omega
     go_wp2_with fail;go_roundg (2-(i+1));case measure=>omega
     case rel=>exact⟨i+1,by omega,by go_num,by rw[WZ.out];simp[hmn],⟨x,rfl,by rw[WZ.out];simp[hmn,HX.out.1]⟩,HX.out.2⟩
    ·have hz:¬(m:Int)<=(n:Int):=by omega
     go_wp2_with fail;go_roundg (2-(i+1));case measure=>omega
     case rel=>exact⟨i+1,by omega,by go_num,by rw[WZ.out];simp[hmn,hm],⟨u,rfl,by rw[WZ.out];simp[hmn,HB.out.2]⟩,HX.out.2⟩
  ·have e:i=2:=by omega
   subst e;go_wp2;exact bodyPost_ret (v:=.tuple #[.int .i64 ((gZ O 2).1),.string u]) (by simp[results,Tryz.results182,go_sem]) rfl ⟨u,rfl,HB.out.2,HB.out.1⟩
theorem ND(w:World)(db:Nat)(sl:Nat->ByteArray)(k:Int)(O:Nat->Nat×Thk.Bs×Bool)(s:ByteArray)(h:jf w db sl false k)(hO:∀i,i<2->Opens (sl i) (O i))(hn:(gZ O 2).1+1<268435456)(hs:s.size<=800000):Calls prog 152 #[.pointer (some ⟨db,0,none⟩),.string s] w λe w'=>e=.returned (.bool true)/\(∃q,ah q=slotL ((gZ O 2).1+1) (ah s)/\jf w' db (DY sl ((gZ O 2).1+1) q) false k)/\ay (λx=>x=db) w w':=by
 have HN:Hid (_):=F7 w db sl false k O h hO;have HD:Hid (jf w db sl false k):=h;generalize (gZ O 2).1=m at *;have hm:(m:Int)+1=((m+1:Nat):Int):=by omega
 have HS:Hid (∀wx,Calls prog 181 #[.int .i64 ((m:Int)+1),.string s] wx λe w'=>∃u,e=.returned (.string u)/\Hid (ah u=slotL (m+1) (ah s))/\Hid (Below wx.heap.size wx w')):=λwx=>by rw[hm];exact zh wx (m+1) s hn hs
 have HP:Hid (∀wx q,jf wx db sl false k->Calls prog 180 #[.pointer (some ⟨db,0,none⟩),.int .i64 ((m:Int)+1),.string q] wx λe w'=>e=.returned (.tuple #[])/\Hid (jf w' db (DY sl (m+1) q) false k/\ay (λx=>x=db) wx w')):=λwx q hx=>by rw[hm];exact F6 wx db (m+1) q sl false k hx
 clear h hO hs hm;go_enter func152,ntmps152;go_wp2_with fail;refine Calls.mono HN.out ?_;rintro e w1⟨u,rfl,hu,hb⟩;have HB:Hid (Below w.heap.size w w1):=hb;clear HN hu hb;go_wp2_with fail;refine Calls.mono (HS.out _) ?_;rintro e w2⟨q,rfl,Hq,hb2⟩;have hd2:jf w2 db sl false k:=(HD.out.below HB.out).below hb2.out;have c2:=(aA.cell hd2 2).trans rfl;have HC:Hid (ay (λx=>x=db) w w2):=(ay.of_below HB.out).trans (ay.of_below hb2.out);have HP2:Hid (_):=HP.out w2 q hd2;clear HS HD HB hb2 hd2 HP;go_wp2_with fail;refine Calls.mono HP2.out ?_;rintro e w3⟨rfl,K3⟩;clear HP2 c2;go_wp2_with fail;go_ret;exact⟨rfl,⟨q,Hq.out,K3.out.1⟩,HC.out.trans K3.out.2⟩
def jo(w:World)(db n:Nat)(t:Thk.Bs)(c:Bool)(k:Int):Prop :=
 ∃(sl:Nat->ByteArray)(O:Nat->Nat×Thk.Bs×Bool),jf w db sl c k/\(∀i,i<2->Opens (sl i) (O i))/\O (n % 2)=(n,t,true)/\((O ((n+1) % 2)).2.2=true->(O ((n+1) % 2)).1<n)
theorem Uo{O:Nat->Nat×Thk.Bs×Bool}{t:Thk.Bs}(h:O (n % 2)=(n,t,true))(h2:(O ((n+1) % 2)).2.2=true->(O ((n+1) % 2)).1<n):gZ O 2=(n,t):=by
 rcases Nat.mod_two_eq_zero_or_one n with e|e
 ·have e2:(n+1) % 2=1:=by omega
  rw[e]at h;rw[e2]at h2;have h1:gZ O 1=(n,t):=by simp[gZ,h]
  show(if(O 1).2.2=true/\(gZ O 1).1<=(O 1).1 then((O 1).1,(O 1).2.1)else gZ O 1)=_;rw[h1,if_neg];rintro⟨a,b⟩;have:=h2 a;exact absurd b (by show ¬n<=_;omega)
 ·have e2:(n+1) % 2=0:=by omega
  rw[e]at h;rw[e2]at h2;have h1:(gZ O 1).1<=n:=by
   show(if(O 0).2.2=true/\0<=(O 0).1 then((O 0).1,(O 0).2.1) else((0,[]):Nat×Thk.Bs)).1<=n;split
   ·rename_i hh;have:=h2 hh.1;show(O 0).1<=n;omega
   ·exact Nat.zero_le _
  show(if(O 1).2.2=true/\(gZ O 1).1<=(O 1).1 then((O 1).1,(O 1).2.1)else gZ O 1)=_;rw[h,if_pos ⟨rfl,h1⟩]
theorem wJ{q:ByteArray}{t:Thk.Bs}(hq:ah q=slotL n t)(hn:n<268435456)(ht:t.length<=800000):Opens q (n,t,true):=λwx=>DX wx q n t hq hn ht
theorem F8:Opens ⟨#[]⟩ (0,[],false):=λwx=>by refine Calls.mono (F5 wx ⟨#[]⟩ rfl (by decide)) ?_;rintro e w'⟨rfl,hb⟩;exact⟨_,rfl,rfl,hb⟩
theorem Lh(s:ByteArray):(ah s).length=s.size:=by unfold ah;rw[Array.length_toList];(first|done|rfl)
theorem jo.aJ{M:Nat->Prop}{w':World}{t:Thk.Bs}(h:jo w db n t c k)(hc:ay M w w')(hm:¬M db):jo w' db n t c k:=by obtain⟨sl,O,a,b⟩:=h;exact⟨sl,O,aA.aJ a hc hm,b⟩
theorem Ur(w:World)(s:ByteArray)(hs:s.size<=800000):Calls prog 122 #[.string s] w λe w'=>e=.returned (.pointer (some ⟨w.heap.size,0,none⟩))/\jo w' w.heap.size 0 (ah s) false 0/\Below w.heap.size w w':=by
 refine Calls.mono (Qw w s hs) ?_;rintro e w'⟨rfl,⟨u,hu,hd⟩,hb⟩;refine⟨rfl,⟨_,λi=>if i=0 then(0,ah s,true) else(0,[],false),hd,λi hi=>?_,rfl,λh=>by simp at h⟩,hb⟩;rcases(by omega:i=0\/i=1)with e|e<;>subst e
 ·exact wJ hu (by omega) (by rw[Lh];exact hs)
 ·exact F8
theorem NG(w:World)(db n:Nat)(t:Thk.Bs)(k:Int)(s:ByteArray)(h:jo w db n t false k)(hn:n+1<268435456)(hs:s.size<=800000):Calls prog 152 #[.pointer (some ⟨db,0,none⟩),.string s] w λe w'=>e=.returned (.bool true)/\jo w' db (n+1) (ah s) false k/\ay (λx=>x=db) w w':=by
 obtain⟨sl,O,hd,hO,h1,h2⟩:=h;have hb:=Uo h1 h2;have hw:=ND w db sl k O s hd hO (by rw[hb];exact hn) hs;rw[hb]at hw;refine Calls.mono hw ?_;rintro e w'⟨rfl,⟨q,hq,hdq⟩,hc⟩;have ne:(n+1+1) % 2≠(n+1) % 2:=by omega
 have e2:(n+1+1) % 2=n % 2:=by omega
 refine⟨rfl,⟨_,λi=>if i=(n+1) % 2 then(n+1,ah s,true)else O i,hdq,λi hi=>?_,by simp,λ_=>?_⟩,hc⟩
 ·unfold DY;by_cases e:i=(n+1) % 2
  ·simp only[e,if_true];exact wJ hq hn (by rw[Lh];exact hs)
  ·simp only[e,if_false];exact hO i hi
 ·simp only[ne,if_false];rw[e2,h1];exact Nat.lt_succ_self n
