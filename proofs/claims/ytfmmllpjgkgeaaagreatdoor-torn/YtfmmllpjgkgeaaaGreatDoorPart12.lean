import Derived.ArgAppend
import Derived.Laws.IdiomStrings
import Derived.Laws.BytesArg
import Derived.Test.YtfmmllpjgkgeaaaGreatDoorPart11
set_option linter.unusedVariables false
set_option linter.unusedSimpArgs false
set_option maxHeartbeats 16000000
set_option maxRecDepth 100000
namespace Go.Proofs.YtfmmllpjgkgeaaaGreatDoor
open Go.RowKit Go.Maps

def sumStep (s:Int) (b:UInt8):Int:=(bits .xor .u32 s (b.toNat:Int)*16777619) % 4294967296
def sumL (l:Thk.Bs):Int:=l.foldl sumStep 2166136261
theorem sumL_snoc (l:Thk.Bs) (b:UInt8):sumL (l ++ [b])=sumStep (sumL l) b:=by unfold sumL;rw[List.foldl_append];(first | done | rfl)
theorem sumL_bd (l:Thk.Bs):0<=sumL l/\sumL l<4294967296:=by
 rcases List.eq_nil_or_concat l with rfl | ⟨m,b,rfl⟩
 ·decide
 ·rw[List.concat_eq_append,sumL_snoc]
  unfold sumStep
  omega
theorem out_shape {B:Nat} {w:World} {v:Value} {l:Thk.Bs} (h:OutV B w v l):∃ ao cap,v=.slice ao l.length cap/\(0<l.length->∃ g,ao=some ⟨g,0,none⟩/\l.length<=cap):=by
 obtain ⟨_,⟨h1,h2⟩ | ⟨g,cap,cur,h2,h3,_,h4,_⟩⟩:=h
 ·exact ⟨none,0,by rw[h1,h2],fun h=>by omega⟩
 ·exact ⟨_,cap,h2,fun _=>⟨g,rfl,h4⟩⟩

theorem sum_any (B:Nat) (w:World) (v:Value) (l:Thk.Bs) (h:OutV B w v l) (hl:l.length<=1000000000) :
  Calls Tryz.prog 219 #[v] w fun e w'=>e=.returned (.int .u32 (sumL l))/\w'=w:=by
 obtain ⟨ao,cap,rfl,hsh⟩:=out_shape h
 have H:Hid (OutV B w (.slice ao l.length cap) l):=h
 clear h
 go_enter Tryz.func219,Tryz.ntmps219
 go_wp2_with fail
 go_loopw [3,8] (fun v3 v8 wr=>∃ (k:Nat) (s:Int),v8=.int .i64 (k:Int)/\v3=.int .u32 s/\k<=l.length/\Hid (s=sumL (l.take k))/\wr=w) (fun _ v8 _=>l.length-(intOf v8).toNat)
 case atStart=>exact ⟨0,2166136261,rfl,rfl,by omega,rfl,rfl⟩
 case round =>
  obtain ⟨k,s,rfl,rfl,hk,Hs,hwr⟩:=hrel
  rw[hwr]
  clear hwr
  by_cases hlt:k<l.length
  ·obtain ⟨g,hao,hcap⟩:=hsh (by omega)
   subst hao
   have hkI:(k:Int)<(l.length:Int):=by omega
   have cb:w.cell? ⟨g,k,none⟩=some (.int .u8 (l[k].toNat:Int)):=by
    rw[H.out.cellAt k (by omega)]
    simp[bsV,hlt]
   have Hn:Hid (sumL (l.take (k+1))=sumStep s l[k]):=by
    unfold Hid
    rw[List.take_succ_eq_append_getElem hlt,sumL_snoc,<- Hs.out]
   have hb:l[k].toNat<256:=UInt8.toNat_lt _
   clear Hs
   have Hst:Hid (∀ b:UInt8,sumStep s b=(bits .xor .u32 s (b.toNat:Int)*16777619) % 4294967296):=fun b=>rfl
   generalize l[k]=b at *
   go_wp2
   go_roundw
   case rel=>exact ⟨k+1,_,by first | rfl | go_num,rfl,by omega,by unfold Hid;rw[Hn.out];exact (Hst.out b).symm,by first | rfl | trivial⟩
   case measure=>simp[intOf] <;> omega
  ·have hkI:¬(k:Int)<(l.length:Int):=by omega
   have hkl:k=l.length:=by omega
   have Hs2:Hid (s=sumL l):=by unfold Hid;rw[Hs.out,hkl,List.take_length]
   clear hkl Hs
   go_wp2
   go_ret
   exact ⟨by rw[Hs2.out];rfl,rfl⟩

def sumB (s:Int):Nat->Thk.Bs
 | 0=>[]
 | k+1=>UInt8.ofNat (s % 256).toNat :: sumB (s / 256) k
def sealL (l:Thk.Bs):Thk.Bs:=l ++ sumB (sumL l) 4

theorem Seal_any (B:Nat) (w:World) (v:Value) (l:Thk.Bs) (h:OutV B w v l) (hB:B<=w.heap.size) (hl:l.length<=1000000) :
  Calls Tryz.prog 163 #[v] w fun e w'=>∃ v',e=.returned v'/\OutV B w' v' (sealL l)/\OutF B w w':=by
 obtain ⟨i0,hi,hz0,hz1,hz2⟩:=info_parts Tryz.infoU8
 have Hsum:Hid (Calls Tryz.prog 219 #[v] w fun e w'=>e=.returned (.int .u32 (sumL l))/\w'=w):=sum_any B w v l h (by omega)
 have H0:Hid (OutV B w v l/\OutF B w w):=⟨h,OutF.refl _ _⟩
 have hbd:=sumL_bd l
 clear h
 go_enter Tryz.func163,Tryz.ntmps163
 go_wp2_with fail
 refine Calls.mono Hsum.out ?_
 rintro e w1 ⟨rfl,h1⟩
 rw[h1]
 clear h1 w1 Hsum
 go_wp2_with fail
 go_loopw [0,3,6] (fun v0 v3 v6 wr=>∃ (k:Nat) (s:Int) (ov:Value) (m:Thk.Bs),ov=v0/\v6=.int .i64 (k:Int)/\v3=.int .u32 s/\k<=4/\0<=s/\s<4294967296/\m.length=l.length+k/\Hid (sealL l=m ++ sumB s (4-k))/\Hid (OutV B wr ov m/\OutF B w wr)) (fun _ _ v6 _=>4-(intOf v6).toNat)
 case atStart=>exact ⟨0,sumL l,v,l,rfl,rfl,rfl,by omega,hbd.1,hbd.2,by omega,rfl,H0⟩
 case round =>
  clear H0 hbd
  obtain ⟨k,s,ov,m,hov,rfl,rfl,hk,hs0,hs1,hml,Hm,HO⟩:=hrel
  subst hov
  by_cases hk4:k<4
  ·have hkI:(k:Int)<4:=by omega
   have hown:=HO.out.1
   have hBr:B<=wr.heap.size:=Nat.le_trans hB HO.out.2.size
   have h63:m.length+1<=maxLen:=by unfold maxLen;omega
   have h64:(m.length+1)*1<=140737488355328:=by omega
   unfold OutV at hown
   go_wp2_with (first | (at_builtin;go_loud (refine wpList_append_own_at _ rfl (.tmp 8) (.tmp 11) 93 rfl B 5 i0 (.int .u8 0) 1 1 Tryz.underlying93 hi hz0 hz1 hz2 rfl (by decide) _ _ _ rfl (hown.alloc _) ⟨wr.heap.size,0,none⟩ 1 1 [.int .u8 (s % 256)] rfl rfl (cell_one_new _ _ _) (by intro u hu;simp at hu;subst hu;rfl) h63 h64 (by simp;omega) ?_);intro v6 w6 ho6 hg6 hn6 hl6;have HF6:=OutF.app HO.out.1 hg6;clear hg6 hl6))
   have HN:Hid (sealL l=(m ++ [UInt8.ofNat (s % 256).toNat]) ++ sumB (s / 256) (4-(k+1))):=by
    unfold Hid
    rw[Hm.out,show 4-k=(4-(k+1))+1 by omega]
    show m ++ (UInt8.ofNat (s % 256).toNat :: sumB (s / 256) (4-(k+1)))=_
    simp
   have HV:Hid (OutV B w6 v6 (m ++ [UInt8.ofNat (s % 256).toNat])/\OutF B w w6):=by
    refine ⟨?_,HO.out.2.trans HF6⟩
    have e1:bsV (m ++ [UInt8.ofNat (s % 256).toNat])=bsV m ++ [.int .u8 (s % 256)]:=by
     rw[bsV_app]
     simp[bsV,UInt8.toNat_ofNat']
     omega
    unfold OutV
    rw[e1,List.length_append]
    exact ho6
   clear ho6 HF6 hown HO Hm hn6
   go_roundw
   case rel=>exact ⟨k+1,s / 256,v6,m ++ [UInt8.ofNat (s % 256).toNat],rfl,by first | rfl | go_num,rfl,by omega,by omega,by omega,by simp;omega,HN,HV⟩
   case measure=>simp[intOf] <;> omega
  ·have hkI:¬(k:Int)<4:=by omega
   have hk5:4-k=0:=by omega
   have HZ:Hid (sealL l=m):=by
    unfold Hid
    rw[Hm.out,hk5]
    show m ++ []=m
    simp
   clear hk5 Hm
   go_wp2
   go_ret
   exact ⟨_,rfl,by rw[HZ.out];exact HO.out.1,HO.out.2⟩
theorem sumB_len (s:Int):∀ k,(sumB s k).length=k:=by
 intro k
 induction k generalizing s with
 | zero=>rfl
 | succ k ih=>show (sumB (s / 256) k).length+1=k+1;rw[ih]
theorem sealL_len (l:Thk.Bs):(sealL l).length=l.length+4:=by unfold sealL;rw[List.length_append,sumB_len]
def unsealL (l:Thk.Bs):Option Thk.Bs:=if 4<=l.length/\sealL (l.take (l.length-4))=l then some (l.take (l.length-4)) else none
theorem unseal_seal (l:Thk.Bs):unsealL (sealL l)=some l:=by
 have h1:=sealL_len l
 have h2:(sealL l).take ((sealL l).length-4)=l:=by
  rw[h1,Nat.add_sub_cancel]
  unfold sealL
  rw[List.take_left]
 unfold unsealL
 rw[h2,if_pos ⟨by omega,rfl⟩]

structure RowM (B:Nat) (w:World) (v:Value) (l:Thk.Bs):Prop where
 ex:∃ g cap,v=.slice (some ⟨g,0,none⟩) l.length cap/\B<=g/\U8 w g/\l.length<=cap/\(∀ j (h:j<l.length),w.cell? ⟨g,j,none⟩=some (.int .u8 (l[j].toNat:Int)))/\∀ j,l.length<=j->j<cap->(w.cell? ⟨g,j,none⟩).isSome=true/\w.frozen? ⟨g,j,none⟩=false
theorem u8_lt {w:World} {g:Nat} (h:U8 w g):g<w.heap.size:=by
 obtain ⟨cs,fz,h⟩:=h
 exact (Array.getElem?_eq_some_iff.1 h).1
theorem RowM.alloc {B:Nat} {w:World} {v:Value} {l:Thk.Bs} (h:RowM B w v l) (o:Obj):RowM B (w.alloc o) v l:=by
 obtain ⟨g,cap,h1,h2,h3,h4,h5,h6⟩:=h.ex
 have hb:Below w.heap.size w (w.alloc o):=(Below.refl _ w).alloc (Nat.le_refl _) o
 have hl:=u8_lt h3
 refine ⟨g,cap,h1,h2, ?_,h4,fun j hj=>(hb.cell (p:=⟨g,j,none⟩) hl).trans (h5 j hj),fun j h7 h8=>?_⟩
 ·obtain ⟨cs,fz,h9⟩:=h3
  exact ⟨cs,fz,(hb.block g hl).trans h9⟩
 ·have:=h6 j h7 h8
  rw[hb.cell (p:=⟨g,j,none⟩) hl,World.frozen?_of_block (hb.block g hl)]
  exact this
theorem RowM.own {B:Nat} {w:World} {v:Value} {l:Thk.Bs} (h:OutV B w v l) (h0:l≠[]):RowM B w v l:=by
 have hcl:=fun g (hg:v.ownBlock=some g)=>h.cells hg
 obtain ⟨hlen,⟨h1,h2⟩ | ⟨g,cap,cur,rfl,h3,h4,h5,h6,h7,h8⟩⟩:=h
 ·exact absurd (List.eq_nil_of_length_eq_zero h2) h0
 ·refine ⟨g,cap,rfl,h3,⟨cur,_,h4⟩,h5,fun j hj=>?_,fun j h9 h10=>?_⟩
  ·have:=hcl g rfl j (.int .u8 (l[j].toNat:Int)) (by unfold bsV;simp[hj])
   rw[Addr.add_lit,Nat.zero_add] at this
   exact this
  ·have hs:j<cur.size:=by omega
   have hf:w.frozen? ⟨g,j,none⟩=false:=by simp[World.frozen?,h4]
   refine ⟨?_,hf⟩
   simp[World.cell?,h4,hs]
theorem RowM.append {B:Nat} {w:World} {v:Value} {l:Thk.Bs} (h:RowM B w v l) (hB:B<=w.heap.size) {ops:Array Oper} {rest:List Oper} {o:Oper} {a:Act} {Q:Exit->Act->World->Prop} (hg:o.guard=none) (s x:Operand) (hop:o.op=Op.call { callee:=Callee.builtin Builtin.append,args:=#[s,x],argTypes:=#[93,93] })
  (hs:a.eval s=v) (ad:Addr) (c:Nat) (b:UInt8) (hx:a.eval x=.slice (some ad) 1 c) (hc:∀ j u,([.int .u8 (b.toNat:Int)]:List Value)[j]? = some u->w.cell? (ad.add j)=some u) (hl:l.length<=1000000)
  (hnext:∀ v' w',RowM B w' v' (l ++ [b])->OutF B w w'->wpList Tryz.prog ops Q rest (a.put o.dst v') w'):wpList Tryz.prog ops Q (o :: rest) a w:=by
 obtain ⟨i0,hi,hz0,hz1,hz2⟩:=info_parts Tryz.infoU8
 obtain ⟨g,cap,h1,h2,h3,h4,h5,h6⟩:=h.ex
 have hgl:=u8_lt h3
 have holds:∀ j u,(bsV l)[j]? = some u->w.cell? ⟨g,0+j,none⟩=some u:=fun j u hu=>by
  have hj:j<l.length:=by
   have:=(List.getElem?_eq_some_iff.1 hu).1
   rw[bsV_len] at this;exact this
  rw[Nat.zero_add,h5 j hj,<- hu]
  simp[bsV,hj]
 refine wpList_append_arg w hg s x 93 hop 5 i0 (.int .u8 0) 1 1 Tryz.underlying93 hi hz0 hz1 hz2 rfl (by decide) g 0 l.length cap (bsV l) (by rw[hs,h1]) (by rw[bsV_len];omega) holds ad 1 c [.int .u8 (b.toNat:Int)] hx (by simp) hc (by intro u hu;simp at hu;subst hu;rfl) ?_ (by unfold maxLen;omega) (by omega) ?_ ?_
 ·intro hr j hj
  have:j=0:=by simpa using hj
  subst this
  rw[show 0+l.length*1+0=l.length by omega]
  exact h6 l.length (Nat.le_refl _) (by omega)
 ·intro hr
  have hfr:=h6 l.length (Nat.le_refl _) (by omega)
  have hw:w.setCells g (0+l.length*1) [.int .u8 (b.toNat:Int)]=w.setCell ⟨g,l.length,none⟩ (.int .u8 (b.toNat:Int)):=by
   rw[show 0+l.length*1=l.length by omega];(first | done | rfl)
  rw[hw]
  obtain ⟨u0,hu0⟩:=Option.isSome_iff_exists.1 hfr.1
  refine hnext _ _ ⟨g,cap,by rw[List.length_append];rfl,h2, ?_,by rw[List.length_append];exact hr,fun j hj=>?_,fun j h7 h8=>?_⟩ ?_
  ·obtain ⟨cs,fz,h9⟩:=h3
   refine ⟨cs.setIfInBounds l.length (.int .u8 (b.toNat:Int)),fz, ?_⟩
   have hq:w.heap[g]=.cells cs 5 fz:=by
    rw[Array.getElem?_eq_getElem hgl] at h9;exact Option.some.inj h9
   simp[World.setCell,hgl,Array.getElem_modify,hq]
  ·rw[List.length_append] at hj
   by_cases e:j=l.length
   ·subst e
    rw[cs_same hu0];simp
   ·have hj2:j<l.length:=by simp at hj;omega
    rw[cs_oth (Or.inr (fun h=>e h.symm)),h5 j hj2,List.getElem_append_left hj2]
  ·rw[List.length_append] at h7
   have h7':l.length+1<=j:=h7
   have h10:=h6 j (by omega) h8
   rw[cs_oth (Or.inr (by omega))]
   refine ⟨h10.1, ?_⟩
   rw[<- h10.2]
   exact World.frozen?_setCell _ _ _ _
  ·refine Chg.setCell (M:=fun k=>B<=k/\U8 w k) (Chg.refl _ w) (p:=⟨g,l.length,none⟩) ⟨h2,h3⟩ _
 ·intro hgr v' w' hown hgb
  have hO:OutV B w' v' (l ++ [b]):=by
   have h9:bsV (l ++ [b])=bsV l ++ [.int .u8 (b.toNat:Int)]:=by rw[bsV_app];(first | done | rfl)
   unfold OutV
   rw[h9,List.length_append]
   exact ⟨hown.1,hown.2.imp id fun ⟨g,cap,cur,e1,e2,e3⟩=>⟨g,cap,cur,e1,Nat.le_trans hB e2,e3⟩⟩
  exact hnext v' w' (RowM.own hO (by simp)) ((Chg.refl _ w).grown hgb (fun k e=>by cases e))

theorem sum_row (B:Nat) (w:World) (v:Value) (l:Thk.Bs) (h:RowM B w v l) (hl:l.length<=1000000000) :
  Calls Tryz.prog 219 #[v] w fun e w'=>e=.returned (.int .u32 (sumL l))/\w'=w:=by
 obtain ⟨g,cap,rfl,h2,h3,hcap,h5,h6⟩:=h.ex
 have H:Hid (∀ j (h:j<l.length),w.cell? ⟨g,j,none⟩=some (.int .u8 (l[j].toNat:Int))):=h5
 clear h h2 h3 h5 h6
 go_enter Tryz.func219,Tryz.ntmps219
 go_wp2_with fail
 go_loopw [3,8] (fun v3 v8 wr=>∃ (k:Nat) (s:Int),v8=.int .i64 (k:Int)/\v3=.int .u32 s/\k<=l.length/\Hid (s=sumL (l.take k))/\wr=w) (fun _ v8 _=>l.length-(intOf v8).toNat)
 case atStart=>exact ⟨0,2166136261,rfl,rfl,by omega,rfl,rfl⟩
 case round =>
  obtain ⟨k,s,rfl,rfl,hk,Hs,hwr⟩:=hrel
  rw[hwr]
  clear hwr
  by_cases hlt:k<l.length
  ·have hkI:(k:Int)<(l.length:Int):=by omega
   have cb:=H.out k hlt
   have Hn:Hid (sumL (l.take (k+1))=sumStep s l[k]):=by
    unfold Hid
    rw[List.take_succ_eq_append_getElem hlt,sumL_snoc,<- Hs.out]
   have hb:l[k].toNat<256:=UInt8.toNat_lt _
   clear Hs
   have Hst:Hid (∀ b:UInt8,sumStep s b=(bits .xor .u32 s (b.toNat:Int)*16777619) % 4294967296):=fun b=>rfl
   generalize l[k]=b at *
   go_wp2
   go_roundw
   case rel=>exact ⟨k+1,_,by first | rfl | go_num,rfl,by omega,by unfold Hid;rw[Hn.out];exact (Hst.out b).symm,by first | rfl | trivial⟩
   case measure=>simp[intOf] <;> omega
  ·have hkI:¬(k:Int)<(l.length:Int):=by omega
   have hkl:k=l.length:=by omega
   have Hs2:Hid (s=sumL l):=by unfold Hid;rw[Hs.out,hkl,List.take_length]
   clear hkl Hs
   go_wp2
   go_ret
   exact ⟨by rw[Hs2.out];rfl,rfl⟩

theorem Seal_row (B:Nat) (w:World) (v:Value) (l:Thk.Bs) (h:RowM B w v l) (hB:B<=w.heap.size) (hl:l.length<=900000) :
  Calls Tryz.prog 163 #[v] w fun e w'=>∃ v',e=.returned v'/\RowM B w' v' (sealL l)/\OutF B w w':=by
 have Hsum:Hid (Calls Tryz.prog 219 #[v] w fun e w'=>e=.returned (.int .u32 (sumL l))/\w'=w):=sum_row B w v l h (by omega)
 have H0:Hid (RowM B w v l/\OutF B w w):=⟨h,OutF.refl _ _⟩
 have hbd:=sumL_bd l
 clear h
 go_enter Tryz.func163,Tryz.ntmps163
 go_wp2_with fail
 refine Calls.mono Hsum.out ?_
 rintro e w1 ⟨rfl,h1⟩
 rw[h1]
 clear h1 w1 Hsum
 go_wp2_with fail
 go_loopw [0,3,6] (fun v0 v3 v6 wr=>∃ (k:Nat) (s:Int) (ov:Value) (m:Thk.Bs),ov=v0/\v6=.int .i64 (k:Int)/\v3=.int .u32 s/\k<=4/\0<=s/\s<4294967296/\m.length=l.length+k/\Hid (sealL l=m ++ sumB s (4-k))/\Hid (RowM B wr ov m/\OutF B w wr)) (fun _ _ v6 _=>4-(intOf v6).toNat)
 case atStart=>exact ⟨0,sumL l,v,l,rfl,rfl,rfl,by omega,hbd.1,hbd.2,by omega,rfl,H0⟩
 case round =>
  clear H0 hbd
  obtain ⟨k,s,ov,m,hov,rfl,rfl,hk,hs0,hs1,hml,Hm,HO⟩:=hrel
  subst hov
  by_cases hk4:k<4
  ·have hkI:(k:Int)<4:=by omega
   have hrow:=HO.out.1
   have hBr:B<=wr.heap.size:=Nat.le_trans hB HO.out.2.size
   obtain ⟨b,hb⟩:∃ b:UInt8,(b.toNat:Int)=s % 256:=⟨UInt8.ofNat (s % 256).toNat,by rw[UInt8.toNat_ofNat'];omega⟩
   have Hb:Hid (b=UInt8.ofNat (s % 256).toNat):=by
    unfold Hid
    apply UInt8.toNat_inj.1
    rw[UInt8.toNat_ofNat']
    omega
   go_wp2_with (first | (at_builtin;go_loud (refine RowM.append (hrow.alloc _) (by simp;omega) rfl (.tmp 8) (.tmp 11) rfl rfl ⟨wr.heap.size,0,none⟩ 1 b rfl (by rw[hb];exact cell_one_new _ _ _) (by omega) ?_);intro v6 w6 ho6 hF6))
   have HN:Hid (sealL l=(m ++ [b]) ++ sumB (s / 256) (4-(k+1))):=by
    unfold Hid
    rw[Hm.out,show 4-k=(4-(k+1))+1 by omega,Hb.out]
    show m ++ (UInt8.ofNat (s % 256).toNat :: sumB (s / 256) (4-(k+1)))=_
    simp
   have HV:Hid (RowM B w6 v6 (m ++ [b])/\OutF B w w6):=⟨ho6,HO.out.2.trans ((OutF.of_below ((Below.refl _ wr).alloc (Nat.le_refl _) _)).trans hF6)⟩
   clear ho6 hF6 hrow HO Hm hb Hb
   go_roundw
   case rel=>exact ⟨k+1,s / 256,v6,m ++ [b],rfl,by first | rfl | go_num,rfl,by omega,by omega,by omega,by simp;omega,HN,HV⟩
   case measure=>simp[intOf] <;> omega
  ·have hkI:¬(k:Int)<4:=by omega
   have hk5:4-k=0:=by omega
   have HZ:Hid (sealL l=m):=by
    unfold Hid
    rw[Hm.out,hk5]
    show m ++ []=m
    simp
   clear hk5 Hm
   go_wp2
   go_ret
   exact ⟨_,rfl,by rw[HZ.out];exact HO.out.1,HO.out.2⟩
theorem conv_row {B:Nat} {w:World} {v:Value} {l:Thk.Bs} (h:RowM B w v l):(convert 93 9 v).run Tryz.prog w=.ok (.string (strOfNums (l.map fun b=>(b.toNat:Int)))) w:=by
 obtain ⟨g,cap,rfl,h2,h3,hcap,h5,h6⟩:=h.ex
 refine run_convert_bytes_arg (P:=Tryz.prog) _ 93 5 Tryz.underlying93 Tryz.underlying5 g 0 l.length cap _ (by simp) ?_ 9 Tryz.underlying9
 intro i hi
 have hi2:i<l.length:=by simpa using hi
 rw[Nat.zero_add,h5 i hi2]
 simp[hi2]
theorem row_conv (w:World) (s:ByteArray):∃ v w',(convert 9 93 (.string s)).run Tryz.prog w=.ok v w'/\RowM w.heap.size w' v (toL s)/\Below w.heap.size w w':=by
 refine ⟨_,_,run_bytes_of_string (P:=Tryz.prog) w 9 93 5 s Tryz.underlying9 Tryz.underlying93 Tryz.underlying5, ?_,((Below.refl _ w).drew).alloc (Nat.le_refl _) _⟩
 have hge:=grownCap_ge w s.size 0 5
 generalize grownCap w s.size 0 5=cap at *
 have hls:(toL s).length=s.size:=by unfold toL;rw[Array.length_toList];(first | done | rfl)
 have hsz:(bytesRow s cap).size=cap:=by
  unfold bytesRow
  rw[Array.size_append,Array.size_map,Array.size_replicate]
  have:s.data.size=s.size:=rfl
  omega
 refine ⟨w.heap.size,cap,by rw[hls],Nat.le_refl _,⟨_,_,heap_alloc_new w.drew _⟩,by rw[hls];omega,fun j hj=>?_,fun j h7 h8=>?_⟩
 ·have hj2:j<s.data.size:=by rw[hls] at hj;exact hj
  have:=World.cell?_alloc_mark w.drew (bytesRow s cap) 5 ((bytesRow s cap).size,(bytesRow s cap).size+1) j
  refine Eq.trans this ?_
  rw[bytesRow_at s cap j hj2]
  rfl
 ·have h1:=World.cell?_alloc_mark w.drew (bytesRow s cap) 5 ((bytesRow s cap).size,(bytesRow s cap).size+1) j
  have h2:=World.frozen?_alloc_mark w.drew (bytesRow s cap) 5 (bytesRow s cap).size ((bytesRow s cap).size+1) j
  refine ⟨?_, ?_⟩
  ·have h3:(bytesRow s cap)[j]? = some ((bytesRow s cap)[j]'(by omega)):=Array.getElem?_eq_getElem _
   have h4:=h1.trans h3
   exact Option.isSome_iff_exists.2 ⟨_,h4⟩
  ·refine Eq.trans h2 ?_
   simp;omega

theorem nums_toL (l:Thk.Bs):toL (strOfNums (l.map fun b=>(b.toNat:Int)))=l:=by
 unfold toL strOfNums
 simp[List.map_map,Function.comp_def]
theorem eqL_yes {a b:ByteArray} (h:a=b):(a.toList == b.toList)=true:=by rw[h];exact beq_self_eq_true _
theorem eqL_no {a b:ByteArray} (h:¬a=b):(a.toList == b.toList)=false:=by
 rw[beq_eq_false_iff_ne,toList_eq,toList_eq]
 exact fun e=>h (toL_inj e)
theorem Unseal_short (s:ByteArray) (w:World) (hs:s.size<4) :
  Calls Tryz.prog 166 #[.string s] w fun e w'=>e=.returned (.tuple #[.string ⟨#[]⟩,.bool false])/\w'=w:=by
 have h0:(s.size:Int)-4<0:=by omega
 go_enter Tryz.func166,Tryz.ntmps166
 go_wp2
 go_ret2
 exact ⟨rfl,rfl⟩

theorem Unseal_long (s:ByteArray) (w:World) (m:Nat) (hm:s.size=m+4) (hs:s.size<=900000) (ok:Bool) (hok:ok=true↔sealL (toL (s.extract 0 m))=toL s) :
  Calls Tryz.prog 166 #[.string s] w fun e w'=>e=.returned (.tuple #[.string (if ok then s.extract 0 m else ⟨#[]⟩),.bool ok])/\Below w.heap.size w w':=by
 obtain ⟨v,w1,hrun,hrow,hb⟩:=row_conv w (s.extract 0 m)
 have hpl:(toL (s.extract 0 m)).length<=900000:=by
  have:(toL (s.extract 0 m)).length=(s.extract 0 m).size:=by unfold toL;rw[Array.length_toList];(first | done | rfl)
  rw[this,ByteArray.size_extract];omega
 have HR:Hid ((convert 9 93 (.string (s.extract 0 m))).run Tryz.prog w=.ok v w1):=hrun
 have HS:Hid (Calls Tryz.prog 163 #[v] w1 fun e w'=>∃ v',e=.returned v'/\Hid ((convert 93 9 v').run Tryz.prog w'=.ok (.string (strOfNums ((sealL (toL (s.extract 0 m))).map fun b=>(b.toNat:Int)))) w')/\Hid (Below w.heap.size w w')):=by
  refine Calls.mono (Seal_row w.heap.size w1 v _ hrow hb.size hpl) ?_
  rintro e w' ⟨v',rfl,h1,h2⟩
  exact ⟨v',rfl,conv_row h1,hb.trans (h2.below hb.size)⟩
 have Hq:Hid (strOfNums ((sealL (toL (s.extract 0 m))).map fun b=>(b.toNat:Int))=s↔ok=true):=by
  unfold Hid
  rw[hok]
  constructor
  ·intro h
   have:=congrArg toL h
   rw[nums_toL] at this
   exact this
  ·intro h
   exact toL_inj (by rw[nums_toL];exact h)
 generalize strOfNums ((sealL (toL (s.extract 0 m))).map fun b=>(b.toNat:Int))=q at *
 have h0:¬(s.size:Int)-4<0:=by omega
 have he:(s.size:Int)-4=(m:Int):=by omega
 have hmn:¬(m:Int)<0:=by omega
 have hm1:m<=s.size:=by omega
 have hm2:(m:Int)<=(s.size:Int):=by omega
 clear hrun hrow hb hok
 go_enter Tryz.func166,Tryz.ntmps166
 go_wp2_with fail
 rw[HR.out]
 go_wp2_with fail
 refine Calls.mono HS.out ?_
 rintro e w2 ⟨v2,rfl,HC,HB⟩
 clear HS HR
 go_wp2_with fail
 rw[HC.out]
 clear HC
 cases ok with
 | true =>
  have hqs:q=s:=Hq.out.2 rfl
  have hqB:=eqL_yes hqs
  clear Hq
  subst hqs
  go_wp2
  go_ret2
  exact ⟨rfl,HB.out⟩
 | false =>
  have hqs:¬q=s:=fun h=>by have:=Hq.out.1 h;cases this
  have hqB:=eqL_no hqs
  clear Hq
  go_wp2
  go_ret2
  exact ⟨rfl,HB.out⟩
theorem Unseal_any (s:ByteArray) (w:World) (hs:s.size<=900000) :
  Calls Tryz.prog 166 #[.string s] w fun e w'=>e=.returned (.tuple #[.string ⟨((unsealL (toL s)).getD []).toArray⟩,.bool (unsealL (toL s)).isSome])/\Below w.heap.size w w':=by
 have hl:(toL s).length=s.size:=by unfold toL;rw[Array.length_toList];(first | done | rfl)
 by_cases h4:s.size<4
 ·have hu:unsealL (toL s)=none:=by unfold unsealL;rw[if_neg (by omega)]
  rw[hu]
  refine Calls.mono (Unseal_short s w h4) ?_
  rintro e w' ⟨rfl,rfl⟩
  exact ⟨rfl,Below.refl _ _⟩
 ·obtain ⟨m,hm⟩:∃ m,s.size=m+4:=⟨s.size-4,by omega⟩
  have he:toL (s.extract 0 m)=(toL s).take m:=by
   unfold toL
   rw[ByteArray.data_extract,Array.toList_extract];simp
  by_cases hk:sealL ((toL s).take m)=toL s
  ·have hu:unsealL (toL s)=some ((toL s).take m):=by
    unfold unsealL
    rw[hl,hm,Nat.add_sub_cancel,if_pos ⟨by omega,hk⟩]
   rw[hu]
   refine Calls.mono (Unseal_long s w m hm hs true (by rw[he];simp[hk])) ?_
   rintro e w' ⟨rfl,hb⟩
   refine ⟨?_,hb⟩
   have:s.extract 0 m=⟨((toL s).take m).toArray⟩:=toL_inj (by rw[he];simp[toL])
   rw[if_pos rfl,this];(first | done | rfl)
  ·have hu:unsealL (toL s)=none:=by
    unfold unsealL
    rw[hl,hm,Nat.add_sub_cancel,if_neg (fun h=>hk h.2)]
   rw[hu]
   refine Calls.mono (Unseal_long s w m hm hs false (by rw[he];simp[hk])) ?_
   rintro e w' ⟨rfl,hb⟩
   exact ⟨rfl,hb⟩

def encG (n:Nat):Thk.Bs:=if h:n<128 then [UInt8.ofNat n] else UInt8.ofNat (n % 128+128) :: encG (n / 128)
theorem encG_one {n:Nat} (h:n<128):encG n=[UInt8.ofNat n]:=by rw[encG,dif_pos h]
theorem encG_more {n:Nat} (h:¬n<128):encG n=UInt8.ofNat (n % 128+128) :: encG (n / 128):=by rw[encG,dif_neg h]
theorem encG_pos (n:Nat):1<=(encG n).length:=by
 by_cases h:n<128
 ·rw[encG_one h];simp
 ·rw[encG_more h];simp
theorem encG_len:∀ k n,n<128 ^ (k+1)->(encG n).length<=k+1:=by
 intro k
 induction k with
 | zero=>intro n h;rw[encG_one (by omega)];simp
 | succ k ih =>
  intro n h
  by_cases h1:n<128
  ·rw[encG_one h1];simp
  ·rw[encG_more h1]
   have:=ih (n / 128) (by rw[Nat.pow_succ] at h;omega)
   simp;omega

theorem Number_gen (B:Nat) (w:World) (v:Value) (l:Thk.Bs) (n:Nat) (h:OutV B w v l) (hB:B<=w.heap.size) (hl:l.length<=1000000) (hn:n<268435456) :
  Calls Tryz.prog 220 #[v,.int .i64 (n:Int)] w fun e w'=>∃ v',e=.returned v'/\OutV B w' v' (l ++ encG n)/\OutF B w w':=by
 obtain ⟨i0,hi,hz0,hz1,hz2⟩:=info_parts Tryz.infoU8
 have H0:Hid (OutV B w v l/\OutF B w w):=⟨h,OutF.refl _ _⟩
 have hL:(l ++ encG n).length<=1000010:=by
  rw[List.length_append]
  have:=encG_len 3 n (by omega)
  omega
 clear h
 go_enter Tryz.func220,Tryz.ntmps220
 go_wp2_with fail
 go_loopw [0,1] (fun v0 v1 wr=>∃ (k:Nat) (ov:Value) (m:Thk.Bs),ov=v0/\v1=.int .i64 (k:Int)/\k<268435456/\m.length+(encG k).length<=1000010/\Hid (l ++ encG n=m ++ encG k)/\Hid (OutV B wr ov m/\OutF B w wr)) (fun _ v1 _=>(intOf v1).toNat)
 case atStart=>exact ⟨n,v,l,rfl,rfl,hn,by rw[List.length_append] at hL;exact hL,rfl,H0⟩
 case round =>
  clear H0 hL
  obtain ⟨k,ov,m,hov,rfl,hk,hml,Hm,HO⟩:=hrel
  subst hov
  have hown:=HO.out.1
  have hBr:B<=wr.heap.size:=Nat.le_trans hB HO.out.2.size
  have hpos:=encG_pos k
  have h63:m.length+1<=maxLen:=by unfold maxLen;omega
  have h64:(m.length+1)*1<=140737488355328:=by omega
  unfold OutV at hown
  by_cases hk1:k<128
  ·have hgt:¬(k:Int) > 127:=by omega
   have hcv:(k:Int) % 256=k:=by omega
   go_wp2_with (first | (at_builtin;go_loud (refine wpList_append_own_at _ rfl (.tmp 16) (.tmp 19) 93 rfl B 5 i0 (.int .u8 0) 1 1 Tryz.underlying93 hi hz0 hz1 hz2 rfl (by decide) _ _ _ rfl (hown.alloc _) ⟨wr.heap.size,0,none⟩ 1 1 [.int .u8 (k:Int)] rfl rfl (cell_one_new _ _ _) (by intro u hu;simp at hu;subst hu;rfl) h63 h64 (by simp;omega) ?_);intro v6 w6 ho6 hg6 hn6 hl6;have HF6:=OutF.app HO.out.1 hg6;clear hg6 hl6))
   go_ret
   refine ⟨_,rfl, ?_,HO.out.2.trans HF6⟩
   have e1:bsV (m ++ [UInt8.ofNat k])=bsV m ++ [.int .u8 (k:Int)]:=by
    rw[bsV_app]
    simp[bsV,UInt8.toNat_ofNat']
    omega
   rw[Hm.out,encG_one hk1]
   unfold OutV
   rw[e1,List.length_append]
   exact ho6
  ·have hgt:(k:Int) > 127:=by omega
   obtain ⟨q,hq⟩:∃ q,k / 128=q:=⟨_,rfl⟩
   obtain ⟨r,hr⟩:∃ r,k % 128+128=r:=⟨_,rfl⟩
   have hlow:bits .and .i64 (k:Int) 127=(k:Int) % 128:=by rw[low_i64 k (by omega)];omega
   have hmore:bits .or .i64 ((k:Int) % 128) 128=(r:Int):=by
    have:=more_i64 (k % 128) (by omega)
    rw[<- hr,<- this]
    congr 1
   have hcv0:(r:Int) % 256=r:=by omega
   have hdiv:(k:Int) / 128=(q:Int):=by omega
   have HE:Hid (encG k=UInt8.ofNat r :: encG q):=by unfold Hid;rw[encG_more hk1,hq,hr]
   have hr2:r<256:=by omega
   have hql:q<k:=by omega
   have hml2:m.length+1+(encG q).length<=1000010:=by
    have:=congrArg List.length HE.out
    simp at this
    omega
   clear hq hr
   go_wp2_with (first | (at_builtin;go_loud (refine wpList_append_own_at _ rfl (.tmp 7) (.tmp 12) 93 rfl B 5 i0 (.int .u8 0) 1 1 Tryz.underlying93 hi hz0 hz1 hz2 rfl (by decide) _ _ _ rfl (hown.alloc _) ⟨wr.heap.size,0,none⟩ 1 1 [.int .u8 (r:Int)] rfl rfl (cell_one_new _ _ _) (by intro u hu;simp at hu;subst hu;rfl) h63 h64 (by simp;omega) ?_);intro v6 w6 ho6 hg6 hn6 hl6;have HF6:=OutF.app HO.out.1 hg6;clear hg6 hl6))
   have HN:Hid (l ++ encG n=(m ++ [UInt8.ofNat r]) ++ encG q):=by unfold Hid;rw[Hm.out,HE.out];simp
   have HV:Hid (OutV B w6 v6 (m ++ [UInt8.ofNat r])/\OutF B w w6):=by
    refine ⟨?_,HO.out.2.trans HF6⟩
    have e1:bsV (m ++ [UInt8.ofNat r])=bsV m ++ [.int .u8 (r:Int)]:=by
     rw[bsV_app]
     simp[bsV,UInt8.toNat_ofNat']
     omega
    unfold OutV
    rw[e1,List.length_append]
    exact ho6
   clear ho6 HF6 hown HO Hm hn6 HE
   go_roundw
   case rel=>exact ⟨q,v6,m ++ [UInt8.ofNat r],rfl,by first | rfl | go_num,by omega,by simp;omega,HN,HV⟩
   case measure=>simp[intOf] <;> omega

theorem wText_gen (B:Nat) (w:World) (v:Value) (l:Thk.Bs) (s:ByteArray) (h:OutV B w v l) (hB:B<=w.heap.size) (hl:l.length<=900000) (hs:s.size<=1000000) :
  Calls Tryz.prog 224 #[v,.string s] w fun e w'=>∃ v',e=.returned v'/\OutV B w' v' (l ++ encG s.size ++ toL s)/\OutF B w w':=by
 obtain ⟨i0,hi,hz0,hz1,hz2⟩:=info_parts Tryz.infoU8
 have hen:=encG_len 3 s.size (by omega)
 have HN:Hid (_):=Number_gen B w v l s.size h hB (by omega) (by omega)
 clear h
 go_enter Tryz.func224,Tryz.ntmps224
 go_wp2_with fail
 refine Calls.mono HN.out ?_
 rintro e w1 ⟨v1,rfl,h1,hF1⟩
 have hB1:B<=w1.heap.size:=Nat.le_trans hB hF1.size
 have HV1:Hid (OutV B w1 v1 (l ++ encG s.size)):=h1
 have HF1:Hid (OutF B w w1):=hF1
 have h63:(l ++ encG s.size).length+s.size<=maxLen:=by unfold maxLen;simp;omega
 have h64:(l ++ encG s.size).length+s.size<=140737488355328:=by simp;omega
 clear h1 hF1 HN
 go_wp2_with (first | (at_builtin;refine Lib.wpList_append_own_string _ rfl (.tmp 8) (.tmp 9) 93 9 rfl B 5 i0 Tryz.underlying93 Tryz.underlying9 hi hz0 hz1 hz2 _ _ _ rfl HV1.out s rfl h63 h64 hB1 ?_;intro v6 w6 ho6 hg6 hn6))
 go_ret
 refine ⟨_,rfl, ?_,HF1.out.trans (OutF.app0 HV1.out hg6)⟩
 unfold OutV
 rw[bsV_app,<- strCells_bsV,List.length_append]
 exact ho6

def rdN:Nat->Nat->Nat->Thk.Bs->Option (Nat × Thk.Bs)
 | 0,_,_,_=>none
 | _+1,_,_,[]=>none
 | f+1,p,n,b :: r=>if b.toNat<128 then some (n+b.toNat*p,r) else rdN f (p*128) (n+(b.toNat-128)*p) r
theorem rdN_enc:∀ (f p n k:Nat) (r:Thk.Bs),k<128 ^ (f+1)->rdN (f+1) p n (encG k ++ r)=some (n+k*p,r)
 | f,p,n,k,r,hk=>by
  by_cases h:k<128
  ·rw[encG_one h]
   show (if (UInt8.ofNat k).toNat<128 then _ else _)=_
   have:(UInt8.ofNat k).toNat=k:=by rw[UInt8.toNat_ofNat'];omega
   rw[this,if_pos h]
   rfl
  ·cases f with
   | zero=>omega
   | succ f =>
    rw[encG_more h]
    show (if (UInt8.ofNat (k % 128+128)).toNat<128 then _ else _)=_
    have:(UInt8.ofNat (k % 128+128)).toNat=k % 128+128:=by rw[UInt8.toNat_ofNat'];omega
    rw[this,if_neg (by omega),Nat.add_sub_cancel]
    have ih:=rdN_enc f (p*128) (n+k % 128*p) (k / 128) r (by rw[Nat.pow_succ] at hk;omega)
    show rdN (f+1) (p*128) (n+k % 128*p) (encG (k / 128) ++ r)=_
    rw[ih]
    have e1:k / 128*(p*128)=(k / 128*128)*p:=by rw[Nat.mul_comm p 128,Nat.mul_assoc]
    have e2:k % 128*p+(k / 128*128)*p=k*p:=by rw[<- Nat.add_mul];congr 1;omega
    rw[e1,Nat.add_assoc,e2]
theorem or_hi {a b i:Nat} (h:a<2 ^ i):a ||| (b*2 ^ i)=a+b*2 ^ i:=by
 have:=Nat.two_pow_add_eq_or_of_lt h b
 rw[Nat.or_comm,Nat.mul_comm b,<- this];omega
end Go.Proofs.YtfmmllpjgkgeaaaGreatDoor
namespace Go.Proofs.YtfmmllpjgkgeaaaGreatDoor
open Go.RowKit Go.Maps Go.WideMaps

theorem rdN_step {f p n:Nat} {l r:Thk.Bs} {N:Nat} (h:rdN f p n l=some (N,r)):∃ g b t,f=g+1/\l=b :: t/\((b.toNat<128/\N=n+b.toNat*p/\r=t)\/(¬b.toNat<128/\rdN g (p*128) (n+(b.toNat-128)*p) t=some (N,r))):=by
 cases f with
 | zero=>cases h
 | succ g =>
  cases l with
  | nil=>cases h
  | cons b t =>
   refine ⟨g,b,t,rfl,rfl, ?_⟩
   have h2:(if b.toNat<128 then some (n+b.toNat*p,t) else rdN g (p*128) (n+(b.toNat-128)*p) t)=some (N,r):=h
   by_cases hb:b.toNat<128
   ·rw[if_pos hb] at h2
    cases h2
    exact Or.inl ⟨hb,rfl,rfl⟩
   ·rw[if_neg hb] at h2
    exact Or.inr ⟨hb,h2⟩
theorem or_i64P (a b i:Nat) (h:a<2 ^ i) (hb:a+b*2 ^ i<9223372036854775808):bits .or .i64 (a:Int) ((b*2 ^ i:Nat):Int)=((a+b*2 ^ i:Nat):Int):=by
 have e:=bits_or_nat .i64 a (b*2 ^ i) (by show a<18446744073709551616;omega) (by show b*2 ^ i<18446744073709551616;omega)
 rw[e,or_hi h]
 exact wrap_i64 _ hb

theorem rNumber_gen (w:World) (rb:Nat) (s:ByteArray) (N lo hi:Nat) (r:Thk.Bs) (h:RdP w rb s) (hs:rdN 4 1 0 (toL s)=some (N,r)) (h1:lo<=N) (h2:N<=hi) (hhi:hi<=1000000000) (hsz:s.size<=1000000000) :
  Calls Tryz.prog 167 #[.pointer (some ⟨rb,0,none⟩),.int .i64 (lo:Int),.int .i64 (hi:Int)] w fun e w'=>∃ s',e=.returned (.int .i64 (N:Int))/\RdP w' rb s'/\toL s'=r/\Chg (fun k=>k=rb) w w':=by
 have c0:=(h.cell 0).trans rfl
 have c1:=(h.cell 1).trans rfl
 have f0:=h.frozen
 have HK:Hid (RdP w rb s):=h
 have H0:Hid (rdN 4 1 0 ((toL s).drop 0)=some (N,r)):=hs
 have hl:(toL s).length=s.size:=by unfold toL;rw[Array.length_toList];(first | done | rfl)
 clear h hs
 go_enter Tryz.func167,Tryz.ntmps167
 go_wp2_with fail
 go_loopw [7,8] (fun v7 v8 wx=>∃ (k n:Nat),v8=.int .i64 (k:Int)/\v7=.int .i64 (n:Int)/\k<=4/\Hid (n<128 ^ k)/\Hid (rdN (4-k) (128 ^ k) n ((toL s).drop k)=some (N,r))/\wx=w) (fun _ v8 _=>4-(intOf v8).toNat)
 case atStart=>exact ⟨0,0,rfl,rfl,by omega,by unfold Hid;decide,H0,rfl⟩
 case round =>
  clear H0
  obtain ⟨k,n,rfl,rfl,hk,Hn,HR,hwr⟩:=hrel
  rw[hwr]
  clear hwr
  obtain ⟨g,b,t,hg,ht,hcase⟩:=rdN_step HR.out
  have hk4:k<4:=by omega
  have hks:k<s.size:=by
   have:=congrArg List.length ht
   rw[List.length_drop,hl] at this
   simp at this
   omega
  have hbk:(s[k]'hks)=b:=by
   have e1:s[k]'hks=(toL s)[k]'(by rw[hl];exact hks):=rfl
   have e2:(toL s).drop k=(toL s)[k]'(by rw[hl];exact hks) :: (toL s).drop (k+1):=List.drop_eq_getElem_cons _
   rw[e2] at ht
   rw[e1]
   exact (List.cons.inj ht).1
  have htt:t=(toL s).drop (k+1):=by
   have e2:(toL s).drop k=(toL s)[k]'(by rw[hl];exact hks) :: (toL s).drop (k+1):=List.drop_eq_getElem_cons _
   rw[e2] at ht
   exact (List.cons.inj ht).2.symm
  have hbt:(s[k]'hks).toNat=b.toNat:=by rw[hbk]
  have hb256:b.toNat<256:=UInt8.toNat_lt _
  have hnn:=Hn.out
  clear HR ht Hn hbk
  have hgk:g=4-(k+1):=by omega
  subst htt hgk
  clear hg
  have hand:=low_u8 b.toNat hb256
  have htop:=top_u8 b.toNat hb256
  have HX:Hid (toL (s.extract (k+1) s.size)=(toL s).drop (k+1)):=by
   unfold Hid
   rw[toL_extract,<- hl,List.take_length]
  generalize b.toNat=bn at *
  obtain ⟨x,hx⟩:∃ x,bn % 128=x:=⟨_,rfl⟩
  rw[hx] at hand
  have hx128:x<128:=by omega
  obtain rfl | rfl | rfl | rfl:k=0\/k=1\/k=2\/k=3:=by omega
  ·
   have hn0:n<1:=by simpa using hnn
   have hor:bits .or .i64 (n:Int) (x:Int)=((n+x*1:Nat):Int):=by
    have:=or_i64P n x 0 (by show n<1;exact hn0) (by show n+x*1<9223372036854775808;omega)
    rw[show (x:Int)=((x*2 ^ 0:Nat):Int) by (show (x:Int)=((x*1:Nat):Int));omega]
    exact this
   have hsI:(0:Int)<(s.size:Int):=by omega
   rcases hcase with ⟨hb,hN,hr⟩ | ⟨hb,hR⟩
   ·rw[if_pos hb] at htop
    have hbx:bn=x:=by omega
    have hN2:N=n+x*1:=by rw[hN,hbx]
    have HX2:Hid (toL (s.extract 1 s.size)=r):=by rw[hr];exact HX
    clear HX hr hN hbx hnn
    generalize hM:n+x*1=M at *
    clear hM
    subst hN2
    have hlo:¬(N:Int)<(lo:Int):=by omega
    have hhi2:¬(N:Int) > (hi:Int):=by omega
    go_wp2_with fail
    go_ret

    exact ⟨rfl,_,HK.out.set0 _,HX2.out,(Chg.refl (fun k=>k=rb) w).setCell (p:=⟨rb,0,none⟩) rfl _⟩
   ·rw[if_neg hb] at htop
    have hbx:bn-128=x:=by omega
    rw[hbx] at hR
    have HR2:Hid (rdN (4-1) (128 ^ 1) (n+x*1) ((toL s).drop 1)=some (N,r)):=hR
    have Hn2:Hid (n+x*1<128 ^ 1):=by unfold Hid;show n+x*1<128;omega
    clear HX hR hbx hnn
    generalize n+x*1=M at *
    go_wp2
    go_roundw
    case rel=>exact ⟨1,M,by first | rfl | go_num,rfl,by omega,Hn2,HR2,by first | rfl | trivial⟩
    case measure=>simp[intOf] <;> omega
  ·
   have hn0:n<128:=by simpa using hnn
   have hor:bits .or .i64 (n:Int) ((x:Int)*128)=((n+x*128:Nat):Int):=by
    have:=or_i64P n x 7 (by show n<128;exact hn0) (by show n+x*128<9223372036854775808;omega)
    rw[show ((x:Int)*128)=((x*2 ^ 7:Nat):Int) by (show ((x:Int)*128)=((x*128:Nat):Int));omega]
    exact this
   have hsI:(1:Int)<(s.size:Int):=by omega
   rcases hcase with ⟨hb,hN,hr⟩ | ⟨hb,hR⟩
   ·rw[if_pos hb] at htop
    have hbx:bn=x:=by omega
    have hN2:N=n+x*128:=by rw[hN,hbx]
    have HX2:Hid (toL (s.extract 2 s.size)=r):=by rw[hr];exact HX
    clear HX hr hN hbx hnn
    generalize hM:n+x*128=M at *
    clear hM
    subst hN2
    have hlo:¬(N:Int)<(lo:Int):=by omega
    have hhi2:¬(N:Int) > (hi:Int):=by omega
    go_wp2_with fail
    go_ret

    exact ⟨rfl,_,HK.out.set0 _,HX2.out,(Chg.refl (fun k=>k=rb) w).setCell (p:=⟨rb,0,none⟩) rfl _⟩
   ·rw[if_neg hb] at htop
    have hbx:bn-128=x:=by omega
    rw[hbx] at hR
    have HR2:Hid (rdN (4-2) (128 ^ 2) (n+x*128) ((toL s).drop 2)=some (N,r)):=hR
    have Hn2:Hid (n+x*128<128 ^ 2):=by unfold Hid;show n+x*128<16384;omega
    clear HX hR hbx hnn
    generalize n+x*128=M at *
    go_wp2
    go_roundw
    case rel=>exact ⟨2,M,by first | rfl | go_num,rfl,by omega,Hn2,HR2,by first | rfl | trivial⟩
    case measure=>simp[intOf] <;> omega
  ·
   have hn0:n<16384:=by simpa using hnn
   have hor:bits .or .i64 (n:Int) ((x:Int)*16384)=((n+x*16384:Nat):Int):=by
    have:=or_i64P n x 14 (by show n<16384;exact hn0) (by show n+x*16384<9223372036854775808;omega)
    rw[show ((x:Int)*16384)=((x*2 ^ 14:Nat):Int) by (show ((x:Int)*16384)=((x*16384:Nat):Int));omega]
    exact this
   have hsI:(2:Int)<(s.size:Int):=by omega
   rcases hcase with ⟨hb,hN,hr⟩ | ⟨hb,hR⟩
   ·rw[if_pos hb] at htop
    have hbx:bn=x:=by omega
    have hN2:N=n+x*16384:=by rw[hN,hbx]
    have HX2:Hid (toL (s.extract 3 s.size)=r):=by rw[hr];exact HX
    clear HX hr hN hbx hnn
    generalize hM:n+x*16384=M at *
    clear hM
    subst hN2
    have hlo:¬(N:Int)<(lo:Int):=by omega
    have hhi2:¬(N:Int) > (hi:Int):=by omega
    go_wp2_with fail
    go_ret

    exact ⟨rfl,_,HK.out.set0 _,HX2.out,(Chg.refl (fun k=>k=rb) w).setCell (p:=⟨rb,0,none⟩) rfl _⟩
   ·rw[if_neg hb] at htop
    have hbx:bn-128=x:=by omega
    rw[hbx] at hR
    have HR2:Hid (rdN (4-3) (128 ^ 3) (n+x*16384) ((toL s).drop 3)=some (N,r)):=hR
    have Hn2:Hid (n+x*16384<128 ^ 3):=by unfold Hid;show n+x*16384<2097152;omega
    clear HX hR hbx hnn
    generalize n+x*16384=M at *
    go_wp2
    go_roundw
    case rel=>exact ⟨3,M,by first | rfl | go_num,rfl,by omega,Hn2,HR2,by first | rfl | trivial⟩
    case measure=>simp[intOf] <;> omega
  ·
   have hn0:n<2097152:=by simpa using hnn
   have hor:bits .or .i64 (n:Int) ((x:Int)*2097152)=((n+x*2097152:Nat):Int):=by
    have:=or_i64P n x 21 (by show n<2097152;exact hn0) (by show n+x*2097152<9223372036854775808;omega)
    rw[show ((x:Int)*2097152)=((x*2 ^ 21:Nat):Int) by (show ((x:Int)*2097152)=((x*2097152:Nat):Int));omega]
    exact this
   have hsI:(3:Int)<(s.size:Int):=by omega
   rcases hcase with ⟨hb,hN,hr⟩ | ⟨hb,hR⟩
   ·rw[if_pos hb] at htop
    have hbx:bn=x:=by omega
    have hN2:N=n+x*2097152:=by rw[hN,hbx]
    have HX2:Hid (toL (s.extract 4 s.size)=r):=by rw[hr];exact HX
    clear HX hr hN hbx hnn
    generalize hM:n+x*2097152=M at *
    clear hM
    subst hN2
    have hlo:¬(N:Int)<(lo:Int):=by omega
    have hhi2:¬(N:Int) > (hi:Int):=by omega
    go_wp2_with fail
    go_ret

    exact ⟨rfl,_,HK.out.set0 _,HX2.out,(Chg.refl (fun k=>k=rb) w).setCell (p:=⟨rb,0,none⟩) rfl _⟩
   ·rw[if_neg hb] at htop
    have hbx:bn-128=x:=by omega
    rw[hbx] at hR
    have HR2:Hid (rdN (4-4) (128 ^ 4) (n+x*2097152) ((toL s).drop 4)=some (N,r)):=hR
    have Hn2:Hid (n+x*2097152<128 ^ 4):=by unfold Hid;show n+x*2097152<268435456;omega
    clear HX hR hbx hnn
    generalize n+x*2097152=M at *
    go_wp2
    go_roundw
    case rel=>exact ⟨4,M,by first | rfl | go_num,rfl,by omega,Hn2,HR2,by first | rfl | trivial⟩
    case measure=>simp[intOf] <;> omega

theorem rText_gen (w:World) (rb:Nat) (s:ByteArray) (t r:Thk.Bs) (h:RdP w rb s) (hs:toL s=encG t.length ++ t ++ r) (ht:t.length<268435456) (hsz:s.size<=1000000000) :
  Calls Tryz.prog 244 #[.pointer (some ⟨rb,0,none⟩)] w fun e w'=>∃ u s',e=.returned (.string u)/\toL u=t/\RdP w' rb s'/\toL s'=r/\Chg (fun k=>k=rb) w w':=by
 have c0:=(h.cell 0).trans rfl
 have hl:s.size=(encG t.length ++ t ++ r).length:=by rw[<- hs];simp[toL]
 have hrd:rdN 4 1 0 (toL s)=some (t.length,t ++ r):=by
  rw[hs,List.append_assoc]
  have:=rdN_enc 3 1 0 t.length (t ++ r) (by omega)
  rw[this];simp
 have HN:Hid (_):=rNumber_gen w rb s t.length 0 s.size (t ++ r) h hrd (Nat.zero_le _) (by rw[hl];simp;omega) hsz hsz
 clear h hl hs hrd
 go_enter Tryz.func244,Tryz.ntmps244
 go_wp2_with fail
 refine Calls.mono HN.out ?_
 rintro e w1 ⟨s1,rfl,hk,hs1,hch⟩
 have c0:=(hk.cell 0).trans rfl
 have f0:=hk.frozen
 have hl1:t.length<=s1.size:=by
  have:s1.size=(toL s1).length:=by simp[toL]
  rw[this,hs1];simp
 have Hu:Hid (toL (s1.extract 0 t.length)=t):=by unfold Hid;rw[toL_take,hs1];simp
 have Hr:Hid (toL (s1.extract t.length s1.size)=r):=by unfold Hid;rw[toL_drop,hs1];simp
 have HK:Hid (RdP w1 rb s1/\Chg (fun k=>k=rb) w w1):=⟨hk,hch⟩
 have hi1:(t.length:Int)<=(s1.size:Int):=by omega
 generalize t.length=m at *
 clear HN hk hs1 hch
 go_wp2_with fail
 go_ret
 exact ⟨_,_,rfl,Hu.out,HK.out.1.set0 _,Hr.out,HK.out.2.setCell (p:=⟨rb,0,none⟩) rfl _⟩

def slotL (n:Nat) (t:Thk.Bs):Thk.Bs:=sealL (encG n ++ (encG t.length ++ t))
theorem conv_any {B:Nat} {w:World} {v:Value} {l:Thk.Bs} (h:OutV B w v l) (hl:l≠[]):(convert 93 9 v).run Tryz.prog w=.ok (.string (strOfNums (l.map fun b=>(b.toNat:Int)))) w:=conv_row (RowM.own h hl)

theorem sealed_any (w:World) (n:Nat) (s:ByteArray) (hn:n<268435456) (hs:s.size<=800000) :
  Calls Tryz.prog 181 #[.int .i64 (n:Int),.string s] w fun e w'=>∃ u,e=.returned (.string u)/\toL u=slotL n (toL s)/\Below w.heap.size w w':=by
 have hts:(toL s).length=s.size:=by unfold toL;rw[Array.length_toList];(first | done | rfl)
 have hen:=encG_len 3 n (by omega)
 have hes:=encG_len 3 s.size (by omega)
 have H1:Hid (Calls Tryz.prog 220 #[.slice none 0 0,.int .i64 (n:Int)] w fun e w'=>∃ v',e=.returned v'/\Hid (OutV w.heap.size w' v' (encG n)/\Below w.heap.size w w')):=by
  refine Calls.mono (Number_gen w.heap.size w _ [] n (OutV.nil _ _) (Nat.le_refl _) (by simp) hn) ?_
  rintro e w' ⟨v',rfl,h1,h2⟩
  exact ⟨v',rfl,h1,h2.below (Nat.le_refl _)⟩
 have H2:Hid (∀ v wx,(OutV w.heap.size wx v (encG n)/\Below w.heap.size w wx)->Calls Tryz.prog 224 #[v,.string s] wx fun e w'=>∃ v',e=.returned v'/\Hid (OutV w.heap.size w' v' (encG n ++ (encG (toL s).length ++ toL s))/\Below w.heap.size w w')):=fun v wx hx=>by
  refine Calls.mono (wText_gen w.heap.size wx v _ s hx.1 hx.2.size (by omega) (by omega)) ?_
  rintro e w' ⟨v',rfl,h1,h2⟩
  rw[List.append_assoc,<- hts] at h1
  exact ⟨v',rfl,h1,hx.2.trans (h2.below hx.2.size)⟩
 have H3:Hid (∀ v wx,(OutV w.heap.size wx v (encG n ++ (encG (toL s).length ++ toL s))/\Below w.heap.size w wx)->Calls Tryz.prog 163 #[v] wx fun e w'=>∃ v',e=.returned v'/\Hid ((convert 93 9 v').run Tryz.prog w'=.ok (.string (strOfNums ((slotL n (toL s)).map fun b=>(b.toNat:Int)))) w')/\Hid (Below w.heap.size w w')):=fun v wx hx=>by
  refine Calls.mono (Seal_any w.heap.size wx v _ hx.1 hx.2.size (by rw[hts];simp only[List.length_append];omega)) ?_
  rintro e w' ⟨v',rfl,h1,h2⟩
  refine ⟨v',rfl,conv_any h1 (fun e=>?_),hx.2.trans (h2.below hx.2.size)⟩
  have:=congrArg List.length e
  unfold slotL at this
  rw[sealL_len] at this
  simp at this
 have Hq:Hid (toL (strOfNums ((slotL n (toL s)).map fun b=>(b.toNat:Int)))=slotL n (toL s)):=nums_toL _
 generalize strOfNums ((slotL n (toL s)).map fun b=>(b.toNat:Int))=q at *
 clear hts hen hes
 go_enter Tryz.func181,Tryz.ntmps181
 go_wp2_with fail
 refine Calls.mono H1.out ?_
 rintro e w1 ⟨v1,rfl,K1⟩
 clear H1
 go_wp2_with fail
 refine Calls.mono (H2.out v1 w1 K1.out) ?_
 rintro e w2 ⟨v2,rfl,K2⟩
 clear H2 K1
 go_wp2_with fail
 refine Calls.mono (H3.out v2 w2 K2.out) ?_
 rintro e w3 ⟨v3,rfl,HC,HB⟩
 clear H3 K2
 go_wp2_with fail
 rw[HC.out]
 go_wp2
 go_ret
 exact ⟨q,rfl,Hq.out,HB.out⟩

theorem rb_bel {w wx wy:World} {rb:Nat} (hb:Below w.heap.size w wx) (hc:Chg (fun k=>k=rb) wx wy) (hr:w.heap.size<=rb):Below w.heap.size w wy :=
 hb.trans ⟨hc.os,hc.tape,hc.output,hc.size,fun k hk=>hc.block k (Nat.lt_of_lt_of_le hk hb.size) (by omega)⟩

theorem opened_whole (w:World) (q:ByteArray) (n:Nat) (t:Thk.Bs) (hq:toL q=slotL n t) (hn:n<268435456) (ht:t.length<=800000) :
  Calls Tryz.prog 242 #[.string q] w fun e w'=>∃ u,e=.returned (.tuple #[.int .i64 (n:Int),.string u,.bool true])/\toL u=t/\Below w.heap.size w w':=by
 have hql:q.size=(slotL n t).length:=by rw[<- hq];unfold toL;rw[Array.length_toList];(first | done | rfl)
 have hen:=encG_len 3 n (by omega)
 have het:=encG_len 3 t.length (by omega)
 have hsz:q.size<=900000:=by
  rw[hql];unfold slotL;rw[sealL_len];simp only[List.length_append];omega
 have hus:unsealL (toL q)=some (encG n ++ (encG t.length ++ t)):=by rw[hq];exact unseal_seal _
 have HU:Hid (_):=Unseal_any q w hsz
 rw[hus] at HU
 generalize hin:((some (encG n ++ (encG t.length ++ t))).getD [])=L at HU
 have hL:L=encG n ++ (encG t.length ++ t):=hin.symm
 have hLl:L.length<=900000:=by rw[hL];simp only[List.length_append];omega
 have hLs:(⟨L.toArray⟩:ByteArray).size=L.length:=by show L.toArray.size=_;simp
 have hLt:toL (⟨L.toArray⟩:ByteArray)=L:=by unfold toL;simp
 have H1:Hid (∀ wx rb,RdP wx rb ⟨L.toArray⟩->Calls Tryz.prog 167 #[.pointer (some ⟨rb,0,none⟩),.int .i64 0,.int .i64 268435455] wx fun e w'=>∃ s',e=.returned (.int .i64 (n:Int))/\Hid (RdP w' rb s'/\toL s'=encG t.length ++ t/\s'.size<=900000/\Chg (fun k=>k=rb) wx w')):=fun wx rb hk=>by
  have hrd:rdN 4 1 0 (toL (⟨L.toArray⟩:ByteArray))=some (n,encG t.length ++ t):=by
   rw[hLt,hL,rdN_enc 3 1 0 n (encG t.length ++ t) (by omega)];simp
  refine Calls.mono (rNumber_gen wx rb ⟨L.toArray⟩ n 0 268435455 _ hk hrd (Nat.zero_le _) (by omega) (by omega) (by rw[hLs];omega)) ?_
  rintro e w' ⟨s',rfl,a1,a2,a3⟩
  refine ⟨s',rfl,a1,a2, ?_,a3⟩
  have:s'.size=(toL s').length:=by simp[toL]
  rw[this,a2];simp only[List.length_append];omega
 have H2:Hid (∀ wx rb s',(RdP wx rb s'/\toL s'=encG t.length ++ t/\s'.size<=900000)->Calls Tryz.prog 244 #[.pointer (some ⟨rb,0,none⟩)] wx fun e w'=>∃ u s'',e=.returned (.string u)/\Hid (toL u=t/\RdP w' rb s''/\toL s''=[]/\Chg (fun k=>k=rb) wx w')):=fun wx rb s' hk=>by
  refine Calls.mono (rText_gen wx rb s' t [] hk.1 (by rw[hk.2.1,List.append_nil]) (by omega) (by have:=hk.2.2;omega)) ?_
  rintro e w' ⟨u,s'',rfl,a1,a2,a3,a4⟩
  exact ⟨u,s'',rfl,a1,a2,a3,a4⟩
 clear hus hin hL hLl hLs hLt hsz hen het hql hq ht hn
 generalize (⟨L.toArray⟩:ByteArray)=M at *
 go_enter Tryz.func242,Tryz.ntmps242
 go_wp2_with fail
 refine Calls.mono HU.out ?_
 rintro e w1 ⟨rfl,hb1⟩
 simp only[Option.isSome_some]
 have HB1:Hid (Below w.heap.size w w1):=hb1
 clear HU hb1
 go_wp2_with fail
 refine Calls.mono (NewReader_any _ _) ?_
 rintro e w2 ⟨rfl,rfl⟩
 go_wp2_with fail
 refine Calls.mono (H1.out _ _ (Blk.new _ _ _)) ?_
 rintro e w3 ⟨s3,rfl,K3⟩
 clear H1
 go_wp2_with fail
 refine Calls.mono (H2.out _ _ _ ⟨K3.out.1,K3.out.2.1,K3.out.2.2.1⟩) ?_
 rintro e w4 ⟨u,s4,rfl,K4⟩
 clear H2
 go_wp2_with fail
 refine Calls.mono (AtEnd_any _ _ _ K4.out.2.1 K4.out.2.2.1) ?_
 rintro e w5 ⟨rfl,rfl⟩
 go_wp2
 have hz:=HB1.out.size
 exact bodyPost_ret (v:=.tuple #[.int .i64 (n:Int),.string u,.bool true]) (by simp[results,Tryz.results242,go_sem]) rfl ⟨u,rfl,K4.out.1,rb_bel (rb_bel (HB1.out.alloc hz _) K3.out.2.2.2 hz) K4.out.2.2.2 hz⟩

theorem opened_none (w:World) (q:ByteArray) (hq:unsealL (toL q)=none) (hs:q.size<=900000) :
  Calls Tryz.prog 242 #[.string q] w fun e w'=>e=.returned (.tuple #[.int .i64 0,.string ⟨#[]⟩,.bool false])/\Below w.heap.size w w':=by
 have HU:Hid (_):=Unseal_any q w hs
 rw[hq] at HU
 clear hq hs
 go_enter Tryz.func242,Tryz.ntmps242
 go_wp2_with fail
 refine Calls.mono HU.out ?_
 rintro e w1 ⟨rfl,hb1⟩
 simp only[Option.isSome_none]
 have HB1:Hid (Below w.heap.size w w1):=hb1
 clear HU hb1
 go_wp2
 exact bodyPost_ret (v:=.tuple #[.int .i64 0,.string ⟨#[]⟩,.bool false]) (by simp[results,Tryz.results242,go_sem]) rfl ⟨rfl,HB1.out⟩

def DiskP (w:World) (db:Nat) (sl:Nat->ByteArray) (c:Bool) (k:Int):Prop:=Blk w db #[.string (sl 0),.string (sl 1),.bool c,.int .i64 k] 229
def putS (sl:Nat->ByteArray) (n:Nat) (s:ByteArray):Nat->ByteArray:=fun i=>if i=n % 2 then s else sl i
theorem DiskP.cellS {w:World} {db:Nat} {sl:Nat->ByteArray} {c:Bool} {k:Int} (h:DiskP w db sl c k) (n:Nat):w.cell? ⟨db,n % 2,none⟩=some (.string (sl (n % 2))):=by
 rw[Blk.cell h]
 rcases Nat.mod_two_eq_zero_or_one n with e | e <;> rw[e] <;> rfl
theorem DiskP.put {w:World} {db:Nat} {sl:Nat->ByteArray} {c:Bool} {k:Int} (h:DiskP w db sl c k) (n:Nat) (s:ByteArray):DiskP (w.setCell ⟨db,n % 2,none⟩ (.string s)) db (putS sl n s) c k:=by
 unfold DiskP putS at *
 unfold Blk at h ⊢
 rcases Nat.mod_two_eq_zero_or_one n with e | e <;> simp[e,World.setCell,Array.getElem?_modify,h]

theorem dput_any (w:World) (db:Nat) (n:Nat) (s:ByteArray) (sl:Nat->ByteArray) (c:Bool) (k:Int) (h:DiskP w db sl c k) :
  Calls Tryz.prog 180 #[.pointer (some ⟨db,0,none⟩),.int .i64 (n:Int),.string s] w fun e w'=>e=.returned (.tuple #[])/\DiskP w' db (putS sl n s) c k/\Chg (fun x=>x=db) w w':=by
 have cs:=h.cellS n
 have f0:=Blk.frozen h (n % 2)
 have HP:Hid (DiskP (w.setCell ⟨db,n % 2,none⟩ (.string s)) db (putS sl n s) c k/\Chg (fun x=>x=db) w (w.setCell ⟨db,n % 2,none⟩ (.string s))):=⟨h.put n s,(Chg.refl (fun x=>x=db) w).setCell (p:=⟨db,n % 2,none⟩) rfl _⟩
 clear h
 go_enter Tryz.func180,Tryz.ntmps180
 go_wp2_with fail
 refine bodyPost_end (results_none rfl _ _ _) rfl ?_
 exact ⟨rfl,HP.out⟩

theorem dNew_any (w:World) (s:ByteArray) (hs:s.size<=800000) :
  Calls Tryz.prog 122 #[.string s] w fun e w'=>e=.returned (.pointer (some ⟨w.heap.size,0,none⟩))/\(∃ u,toL u=slotL 0 (toL s)/\DiskP w' w.heap.size (putS (fun _=>⟨#[]⟩) 0 u) false 0)/\Below w.heap.size w w':=by
 have H1:Hid (∀ wx,Calls Tryz.prog 181 #[.int .i64 0,.string s] wx fun e w'=>∃ u,e=.returned (.string u)/\Hid (toL u=slotL 0 (toL s))/\Hid (Below wx.heap.size wx w')):=fun wx=>sealed_any wx 0 s (by omega) hs
 clear hs
 go_enter Tryz.func122,Tryz.ntmps122
 go_wp2_with fail
 refine Calls.mono (H1.out _) ?_
 rintro e w1 ⟨u,rfl,K1,K2⟩
 clear H1
 have hk:DiskP w1 w.heap.size (fun _=>⟨#[]⟩) false 0:=(Blk.new w _ _).below K2.out
 have HP:Hid (_):=dput_any w1 w.heap.size 0 u _ _ _ hk
 have hbb:Below w.heap.size w w1:=((Below.refl _ w).alloc (Nat.le_refl _) _).trans ⟨K2.out.os,K2.out.tape,K2.out.output,K2.out.size,fun k hk=>K2.out.block k (by simp;omega)⟩
 have HB:Hid (Below w.heap.size w w1):=hbb
 clear hk hbb K2
 go_wp2_with fail
 refine Calls.mono HP.out ?_
 rintro e w2 ⟨rfl,hd,hc⟩
 have HD:Hid (DiskP w2 w.heap.size (putS (fun _=>⟨#[]⟩) 0 u) false 0/\Chg (fun x=>x=w.heap.size) w1 w2):=⟨hd,hc⟩
 clear HP hd hc
 go_wp2_with fail
 go_ret
 exact ⟨rfl,⟨u,K1.out,HD.out.1⟩,rb_bel HB.out HD.out.2 (Nat.le_refl _)⟩

def Opens (q:ByteArray) (o:Nat × Thk.Bs × Bool):Prop:=∀ wx,Calls Tryz.prog 242 #[.string q] wx fun e w'=>∃ u,e=.returned (.tuple #[.int .i64 (o.1:Int),.string u,.bool o.2.2])/\toL u=o.2.1/\Below wx.heap.size wx w'
def bestS (O:Nat->Nat × Thk.Bs × Bool):Nat->Nat × Thk.Bs
 | 0=>(0,[])
 | i+1=>if (O i).2.2=true/\(bestS O i).1<=(O i).1 then ((O i).1,(O i).2.1) else bestS O i

theorem dnewest_any (w:World) (db:Nat) (sl:Nat->ByteArray) (c:Bool) (k:Int) (O:Nat->Nat × Thk.Bs × Bool) (h:DiskP w db sl c k) (hO:∀ i,i<2->Opens (sl i) (O i)) :
  Calls Tryz.prog 182 #[.pointer (some ⟨db,0,none⟩)] w fun e w'=>∃ u,e=.returned (.tuple #[.int .i64 ((bestS O 2).1:Int),.string u])/\toL u=(bestS O 2).2/\Below w.heap.size w w':=by
 have c0:=(Blk.cell h 0).trans rfl
 have c1:=(Blk.cell h 1).trans rfl
 have HO:Hid (∀ i,i<2->Opens (sl i) (O i)):=hO
 clear h hO
 go_enter Tryz.func182,Tryz.ntmps182
 go_wp2_with fail
 go_loopg [2,3,13] 2 (fun g v2 v3 v13 wx=>∃ i:Nat,i+g=2/\v13=.int .i64 (i:Int)/\v2=.int .i64 ((bestS O i).1:Int)/\(∃ u,v3=.string u/\toL u=(bestS O i).2)/\Below w.heap.size w wx)
 case atStart=>exact ⟨0,by omega,rfl,rfl,⟨_,rfl,rfl⟩,Below.refl _ w⟩
 case round =>
  obtain ⟨i,hig,rfl,rfl,⟨u,rfl,hu⟩,hb⟩:=hrel
  have HB:Hid (Below w.heap.size w wr/\toL u=(bestS O i).2):=⟨hb,hu⟩
  clear hb hu
  by_cases hi:i<2
  ·have HC:Hid (_):=HO.out i hi wr
   have hag:(#[Value.string (sl 0),Value.string (sl 1)]:Array Value)[i]? = some (.string (sl i)):=by
    rcases (by omega:i=0\/i=1) with e | e <;> subst e <;> rfl
   have hbs:bestS O (i+1)=if (O i).2.2=true/\(bestS O i).1<=(O i).1 then ((O i).1,(O i).2.1) else bestS O i:=rfl
   have Hbs:Hid (_):=hbs
   clear hbs
   have hix:(Instr.index 227 (Value.agg #[Value.string (sl 0),Value.string (sl 1)]) (.int .i64 (i:Int))).run Tryz.prog wr=.ok (.string (sl i)) wr:=by
    rcases (by omega:i=0\/i=1) with e | e <;> subst e <;> first | rfl | (simp[Instr.index,go_sem,Tryz.underlying227];try rfl)
   go_wp2_with fail
   refine Calls.mono HC.out ?_
   rintro e w1 ⟨x,rfl,hx,hb1⟩
   have hb2:Below w.heap.size w w1:=HB.out.1.trans ⟨hb1.os,hb1.tape,hb1.output,hb1.size,fun k hk=>hb1.block k (Nat.lt_of_lt_of_le hk HB.out.1.size)⟩
   have HX:Hid (toL x=(O i).2.1/\Below w.heap.size w w1):=⟨hx,hb2⟩
   clear HC hag hix hx hb1 hb2
   obtain ⟨⟨n,t,b⟩,ho⟩:∃ o,O i=o:=⟨_,rfl⟩
   rw[ho] at Hbs HX ⊢
   generalize hm:(bestS O i).1=m at *
   cases b
   ·go_wp2_with fail
    go_roundg (2-(i+1))
    case measure=>omega
    case rel=>exact ⟨i+1,by omega,by go_num,by rw[Hbs.out];simp[hm],⟨u,rfl,by rw[Hbs.out];simp[HB.out.2]⟩,HX.out.2⟩
   ·by_cases hmn:m<=n
    ·have hz:(m:Int)<=(n:Int):=by omega
     go_wp2_with fail
     go_roundg (2-(i+1))
     case measure=>omega
     case rel=>exact ⟨i+1,by omega,by go_num,by rw[Hbs.out];simp[hmn],⟨x,rfl,by rw[Hbs.out];simp[hmn,HX.out.1]⟩,HX.out.2⟩
    ·have hz:¬(m:Int)<=(n:Int):=by omega
     go_wp2_with fail
     go_roundg (2-(i+1))
     case measure=>omega
     case rel=>exact ⟨i+1,by omega,by go_num,by rw[Hbs.out];simp[hmn,hm],⟨u,rfl,by rw[Hbs.out];simp[hmn,HB.out.2]⟩,HX.out.2⟩
  ·have e:i=2:=by omega
   subst e
   go_wp2
   exact bodyPost_ret (v:=.tuple #[.int .i64 ((bestS O 2).1:Int),.string u]) (by simp[results,Tryz.results182,go_sem]) rfl ⟨u,rfl,HB.out.2,HB.out.1⟩

theorem dRead_any (w:World) (db:Nat) (sl:Nat->ByteArray) (c:Bool) (k:Int) (O:Nat->Nat × Thk.Bs × Bool) (h:DiskP w db sl c k) (hO:∀ i,i<2->Opens (sl i) (O i)) :
  Calls Tryz.prog 125 #[.pointer (some ⟨db,0,none⟩)] w fun e w'=>∃ u,e=.returned (.string u)/\toL u=(bestS O 2).2/\Below w.heap.size w w':=by
 have HN:Hid (_):=dnewest_any w db sl c k O h hO
 clear h hO
 go_enter Tryz.func125,Tryz.ntmps125
 go_wp2_with fail
 refine Calls.mono HN.out ?_
 rintro e w1 ⟨u,rfl,hu,hb⟩
 have HB:Hid (toL u=(bestS O 2).2/\Below w.heap.size w w1):=⟨hu,hb⟩
 clear HN hu hb
 go_wp2_with fail
 go_ret
 exact ⟨u,rfl,HB.out⟩

theorem dWrite_ok (w:World) (db:Nat) (sl:Nat->ByteArray) (k:Int) (O:Nat->Nat × Thk.Bs × Bool) (s:ByteArray) (h:DiskP w db sl false k) (hO:∀ i,i<2->Opens (sl i) (O i)) (hn:(bestS O 2).1+1<268435456) (hs:s.size<=800000) :
  Calls Tryz.prog 152 #[.pointer (some ⟨db,0,none⟩),.string s] w fun e w'=>e=.returned (.bool true)/\(∃ q,toL q=slotL ((bestS O 2).1+1) (toL s)/\DiskP w' db (putS sl ((bestS O 2).1+1) q) false k)/\Chg (fun x=>x=db) w w':=by
 have HN:Hid (_):=dnewest_any w db sl false k O h hO
 have HD:Hid (DiskP w db sl false k):=h
 generalize (bestS O 2).1=m at *
 have hm:(m:Int)+1=((m+1:Nat):Int):=by omega
 have HS:Hid (∀ wx,Calls Tryz.prog 181 #[.int .i64 ((m:Int)+1),.string s] wx fun e w'=>∃ u,e=.returned (.string u)/\Hid (toL u=slotL (m+1) (toL s))/\Hid (Below wx.heap.size wx w')):=fun wx=>by
  rw[hm];exact sealed_any wx (m+1) s hn hs
 have HP:Hid (∀ wx q,DiskP wx db sl false k->Calls Tryz.prog 180 #[.pointer (some ⟨db,0,none⟩),.int .i64 ((m:Int)+1),.string q] wx fun e w'=>e=.returned (.tuple #[])/\Hid (DiskP w' db (putS sl (m+1) q) false k/\Chg (fun x=>x=db) wx w')):=fun wx q hx=>by
  rw[hm];exact dput_any wx db (m+1) q sl false k hx
 clear h hO hs hm
 go_enter Tryz.func152,Tryz.ntmps152
 go_wp2_with fail
 refine Calls.mono HN.out ?_
 rintro e w1 ⟨u,rfl,hu,hb⟩
 have HB:Hid (Below w.heap.size w w1):=hb
 clear HN hu hb
 go_wp2_with fail
 refine Calls.mono (HS.out _) ?_
 rintro e w2 ⟨q,rfl,Hq,hb2⟩
 have hd2:DiskP w2 db sl false k:=(HD.out.below HB.out).below hb2.out
 have c2:=(Blk.cell hd2 2).trans rfl
 have HC:Hid (Chg (fun x=>x=db) w w2):=(Chg.of_below HB.out).trans (Chg.of_below hb2.out)
 have HP2:Hid (_):=HP.out w2 q hd2
 clear HS HD HB hb2 hd2 HP
 go_wp2_with fail
 refine Calls.mono HP2.out ?_
 rintro e w3 ⟨rfl,K3⟩
 clear HP2 c2
 go_wp2_with fail
 go_ret
 exact ⟨rfl,⟨q,Hq.out,K3.out.1⟩,HC.out.trans K3.out.2⟩

def DiskS (w:World) (db n:Nat) (t:Thk.Bs) (c:Bool) (k:Int):Prop :=
 ∃ (sl:Nat->ByteArray) (O:Nat->Nat × Thk.Bs × Bool),DiskP w db sl c k/\(∀ i,i<2->Opens (sl i) (O i))/\O (n % 2)=(n,t,true)/\((O ((n+1) % 2)).2.2=true->(O ((n+1) % 2)).1<n)
theorem best_of {O:Nat->Nat × Thk.Bs × Bool} {n:Nat} {t:Thk.Bs} (h:O (n % 2)=(n,t,true)) (h2:(O ((n+1) % 2)).2.2=true->(O ((n+1) % 2)).1<n):bestS O 2=(n,t):=by
 rcases Nat.mod_two_eq_zero_or_one n with e | e
 ·have e2:(n+1) % 2=1:=by omega
  rw[e] at h
  rw[e2] at h2
  have h1:bestS O 1=(n,t):=by simp[bestS,h]
  show (if (O 1).2.2=true/\(bestS O 1).1<=(O 1).1 then ((O 1).1,(O 1).2.1) else bestS O 1)=_
  rw[h1,if_neg]
  rintro ⟨a,b⟩
  have:=h2 a
  exact absurd b (by show ¬n<=_;omega)
 ·have e2:(n+1) % 2=0:=by omega
  rw[e] at h
  rw[e2] at h2
  have h1:(bestS O 1).1<=n:=by
   show (if (O 0).2.2=true/\0<=(O 0).1 then ((O 0).1,(O 0).2.1) else ((0,[]):Nat × Thk.Bs)).1<=n
   split
   ·rename_i hh;have:=h2 hh.1;show (O 0).1<=n;omega
   ·exact Nat.zero_le _
  show (if (O 1).2.2=true/\(bestS O 1).1<=(O 1).1 then ((O 1).1,(O 1).2.1) else bestS O 1)=_
  rw[h,if_pos ⟨rfl,h1⟩]
theorem opens_whole {q:ByteArray} {n:Nat} {t:Thk.Bs} (hq:toL q=slotL n t) (hn:n<268435456) (ht:t.length<=800000):Opens q (n,t,true):=fun wx=>opened_whole wx q n t hq hn ht
theorem opens_empty:Opens ⟨#[]⟩ (0,[],false):=fun wx=>by
 refine Calls.mono (opened_none wx ⟨#[]⟩ rfl (by decide)) ?_
 rintro e w' ⟨rfl,hb⟩
 exact ⟨_,rfl,rfl,hb⟩
theorem toL_len (s:ByteArray):(toL s).length=s.size:=by unfold toL;rw[Array.length_toList];(first | done | rfl)

theorem DiskS.chg {M:Nat->Prop} {w w':World} {db n:Nat} {t:Thk.Bs} {c:Bool} {k:Int} (h:DiskS w db n t c k) (hc:Chg M w w') (hm:¬M db):DiskS w' db n t c k:=by
 obtain ⟨sl,O,a,b⟩:=h
 exact ⟨sl,O,Blk.chg a hc hm,b⟩

theorem diskNew (w:World) (s:ByteArray) (hs:s.size<=800000) :
  Calls Tryz.prog 122 #[.string s] w fun e w'=>e=.returned (.pointer (some ⟨w.heap.size,0,none⟩))/\DiskS w' w.heap.size 0 (toL s) false 0/\Below w.heap.size w w':=by
 refine Calls.mono (dNew_any w s hs) ?_
 rintro e w' ⟨rfl,⟨u,hu,hd⟩,hb⟩
 refine ⟨rfl,⟨_,fun i=>if i=0 then (0,toL s,true) else (0,[],false),hd,fun i hi=>?_,rfl,fun h=>by simp at h⟩,hb⟩
 rcases (by omega:i=0\/i=1) with e | e <;> subst e
 ·exact opens_whole hu (by omega) (by rw[toL_len];exact hs)
 ·exact opens_empty

theorem diskRead (w:World) (db n:Nat) (t:Thk.Bs) (c:Bool) (k:Int) (h:DiskS w db n t c k) :
  Calls Tryz.prog 125 #[.pointer (some ⟨db,0,none⟩)] w fun e w'=>∃ u,e=.returned (.string u)/\toL u=t/\Below w.heap.size w w':=by
 obtain ⟨sl,O,hd,hO,h1,h2⟩:=h
 have:=dRead_any w db sl c k O hd hO
 rw[best_of h1 h2] at this
 exact this

theorem diskWrite (w:World) (db n:Nat) (t:Thk.Bs) (k:Int) (s:ByteArray) (h:DiskS w db n t false k) (hn:n+1<268435456) (hs:s.size<=800000) :
  Calls Tryz.prog 152 #[.pointer (some ⟨db,0,none⟩),.string s] w fun e w'=>e=.returned (.bool true)/\DiskS w' db (n+1) (toL s) false k/\Chg (fun x=>x=db) w w':=by
 obtain ⟨sl,O,hd,hO,h1,h2⟩:=h
 have hb:=best_of h1 h2
 have hw:=dWrite_ok w db sl k O s hd hO (by rw[hb];exact hn) hs
 rw[hb] at hw
 refine Calls.mono hw ?_
 rintro e w' ⟨rfl,⟨q,hq,hdq⟩,hc⟩
 have ne:(n+1+1) % 2≠(n+1) % 2:=by omega
 have e2:(n+1+1) % 2=n % 2:=by omega
 refine ⟨rfl,⟨_,fun i=>if i=(n+1) % 2 then (n+1,toL s,true) else O i,hdq,fun i hi=>?_,by simp,fun _=>?_⟩,hc⟩
 ·unfold putS
  by_cases e:i=(n+1) % 2
  ·simp only[e,if_true];exact opens_whole hq hn (by rw[toL_len];exact hs)
  ·simp only[e,if_false];exact hO i hi
 ·simp only[ne,if_false]
  rw[e2,h1]
  exact Nat.lt_succ_self n

theorem dCutOff_any (w:World) (db:Nat) (sl:Nat->ByteArray) (c:Bool) (k j:Int) (h:DiskP w db sl c k) :
  Calls Tryz.prog 104 #[.pointer (some ⟨db,0,none⟩),.int .i64 j] w fun e w'=>e=.returned (.tuple #[])/\DiskP w' db sl true j/\Chg (fun x=>x=db) w w':=by
 have c2:=(Blk.cell h 2).trans rfl
 have c3:=(Blk.cell h 3).trans rfl
 have f0:=Blk.frozen h
 have HP:Hid (DiskP ((w.setCell ⟨db,2,none⟩ (.bool true)).setCell ⟨db,3,none⟩ (.int .i64 j)) db sl true j/\Chg (fun x=>x=db) w ((w.setCell ⟨db,2,none⟩ (.bool true)).setCell ⟨db,3,none⟩ (.int .i64 j))):=by
  refine ⟨?_,((Chg.refl (fun x=>x=db) w).setCell (p:=⟨db,2,none⟩) rfl _).setCell (p:=⟨db,3,none⟩) rfl _⟩
  unfold DiskP at *
  unfold Blk at h ⊢
  simp[World.setCell,Array.getElem?_modify,h]
 clear h
 go_enter Tryz.func104,Tryz.ntmps104
 go_wp2_with fail
 refine bodyPost_end (results_none rfl _ _ _) rfl ?_
 exact ⟨rfl,HP.out⟩

theorem diskCutOff (w:World) (db n:Nat) (t:Thk.Bs) (c:Bool) (k j:Int) (h:DiskS w db n t c k) :
  Calls Tryz.prog 104 #[.pointer (some ⟨db,0,none⟩),.int .i64 j] w fun e w'=>e=.returned (.tuple #[])/\DiskS w' db n t true j/\Chg (fun x=>x=db) w w':=by
 obtain ⟨sl,O,hd,hr⟩:=h
 refine Calls.mono (dCutOff_any w db sl c k j hd) ?_
 rintro e w' ⟨rfl,a,b⟩
 exact ⟨rfl,⟨sl,O,a,hr⟩,b⟩

theorem dWrite_cut (w:World) (db:Nat) (sl:Nat->ByteArray) (k:Nat) (O:Nat->Nat × Thk.Bs × Bool) (s:ByteArray) (h:DiskP w db sl true (k:Int)) (hO:∀ i,i<2->Opens (sl i) (O i)) (hn:(bestS O 2).1+1<268435456) (hs:s.size<=800000) :
  Calls Tryz.prog 152 #[.pointer (some ⟨db,0,none⟩),.string s] w fun e w'=>e=.returned (.bool false)/\(∃ q,toL q=(slotL ((bestS O 2).1+1) (toL s)).take k/\DiskP w' db (putS sl ((bestS O 2).1+1) q) false (k:Int))/\Chg (fun x=>x=db) w w':=by
 have HN:Hid (_):=dnewest_any w db sl true k O h hO
 have HD:Hid (DiskP w db sl true (k:Int)):=h
 generalize (bestS O 2).1=m at *
 have hm:(m:Int)+1=((m+1:Nat):Int):=by omega
 have HS:Hid (∀ wx,Calls Tryz.prog 181 #[.int .i64 ((m:Int)+1),.string s] wx fun e w'=>∃ u,e=.returned (.string u)/\Hid (toL u=slotL (m+1) (toL s))/\Hid (Below wx.heap.size wx w')):=fun wx=>by
  rw[hm];exact sealed_any wx (m+1) s hn hs
 have HP:Hid (∀ wx q,DiskP wx db sl true (k:Int)->Calls Tryz.prog 180 #[.pointer (some ⟨db,0,none⟩),.int .i64 ((m:Int)+1),.string q] wx fun e w'=>e=.returned (.tuple #[])/\Hid (DiskP w' db (putS sl (m+1) q) true (k:Int)/\Chg (fun x=>x=db) wx w')):=fun wx q hx=>by
  rw[hm];exact dput_any wx db (m+1) q sl true k hx
 clear h hO hs hm
 go_enter Tryz.func152,Tryz.ntmps152
 go_wp2_with fail
 refine Calls.mono HN.out ?_
 rintro e w1 ⟨u,rfl,hu,hb⟩
 have HB:Hid (Below w.heap.size w w1):=hb
 clear HN hu hb
 go_wp2_with fail
 refine Calls.mono (HS.out _) ?_
 rintro e w2 ⟨q,rfl,Hq,hb2⟩
 have hd2:DiskP w2 db sl true (k:Int):=(HD.out.below HB.out).below hb2.out
 have c2:=(Blk.cell hd2 2).trans rfl
 have c3:=(Blk.cell hd2 3).trans rfl
 have HC:Hid (Chg (fun x=>x=db) w w2):=(Chg.of_below HB.out).trans (Chg.of_below hb2.out)
 have HP2:Hid (_):=fun q=>HP.out w2 q hd2
 have Hq2:Hid (toL (q.extract 0 (min k q.size))=(slotL (m+1) (toL s)).take k):=by
  show _=_
  rw[toL_take,<- Hq.out,<- toL_len,<- List.take_eq_take_min]
 clear HS HD HB hb2 hd2 HP
 have hmin:(min (k:Int) (q.size:Int)).toNat=min k q.size:=by omega
 rw[<- hmin] at Hq2
 clear hmin
 go_wp2_with fail
 refine Calls.mono (HP2.out _) ?_
 rintro e w3 ⟨rfl,K3⟩
 generalize q.extract 0 (min (k:Int) (q.size:Int)).toNat=r at *
 clear HP2 c2 c3
 have d2:=(Blk.cell K3.out.1 2).trans rfl
 have f2:=Blk.frozen K3.out.1 2
 have H4:Hid (DiskP (w3.setCell ⟨db,2,none⟩ (.bool false)) db (putS sl (m+1) r) false (k:Int)/\Chg (fun x=>x=db) w (w3.setCell ⟨db,2,none⟩ (.bool false))):=by
  refine ⟨?_,(HC.out.trans K3.out.2).setCell (p:=⟨db,2,none⟩) rfl _⟩
  have hh:=K3.out.1
  unfold DiskP at *
  unfold Blk at hh ⊢
  simp[World.setCell,Array.getElem?_modify,hh]
 clear K3
 go_wp2_with fail
 go_ret
 exact ⟨rfl,⟨r,Hq2.out,H4.out.1⟩,H4.out.2⟩

def RdW (w:World) (rb:Nat):Prop:=Blk w rb #[.string ⟨#[]⟩,.bool true] 245
theorem rFail_any (w:World) (rb:Nat) (s:ByteArray) (b:Bool) (h:Blk w rb #[.string s,.bool b] 245) :
  Calls Tryz.prog 226 #[.pointer (some ⟨rb,0,none⟩)] w fun e w'=>e=.returned (.tuple #[])/\RdW w' rb/\Chg (fun k=>k=rb) w w':=by
 have c0:=(h.cell 0).trans rfl
 have c1:=(h.cell 1).trans rfl
 have f0:=h.frozen
 have HP:Hid (RdW ((w.setCell ⟨rb,0,none⟩ (.string ⟨#[]⟩)).setCell ⟨rb,1,none⟩ (.bool true)) rb/\Chg (fun k=>k=rb) w ((w.setCell ⟨rb,0,none⟩ (.string ⟨#[]⟩)).setCell ⟨rb,1,none⟩ (.bool true))):=by
  refine ⟨?_,((Chg.refl (fun k=>k=rb) w).setCell (p:=⟨rb,0,none⟩) rfl _).setCell (p:=⟨rb,1,none⟩) rfl _⟩
  unfold RdW Blk at *
  simp[World.setCell,Array.getElem?_modify,h]
 clear h
 go_enter Tryz.func226,Tryz.ntmps226
 go_wp2_with fail
 exact bodyPost_end (results_none rfl _ _ _) rfl ⟨rfl,HP.out⟩

def NoN (f p n:Nat) (l:Thk.Bs) (hi:Nat):Prop:=∀ N r,rdN f p n l=some (N,r)->hi<N
theorem NoN.step {g p n hi:Nat} {b:UInt8} {t:Thk.Bs} (h:NoN (g+1) p n (b :: t) hi):(b.toNat<128/\hi<n+b.toNat*p)\/(¬b.toNat<128/\NoN g (p*128) (n+(b.toNat-128)*p) t hi):=by
 have h2:∀ N r,(if b.toNat<128 then some (n+b.toNat*p,t) else rdN g (p*128) (n+(b.toNat-128)*p) t)=some (N,r)->hi<N:=h
 by_cases hb:b.toNat<128
 ·rw[if_pos hb] at h2
  exact Or.inl ⟨hb,h2 _ _ rfl⟩
 ·rw[if_neg hb] at h2
  exact Or.inr ⟨hb,h2⟩

theorem rNumber_bad (w:World) (rb:Nat) (s:ByteArray) (b0:Bool) (hi:Nat) (h:Blk w rb #[.string s,.bool b0] 245) (hs:NoN 4 1 0 (toL s) hi) (hhi:hi<=1000000000) (hsz:s.size<=1000000000) :
  Calls Tryz.prog 167 #[.pointer (some ⟨rb,0,none⟩),.int .i64 0,.int .i64 (hi:Int)] w fun e w'=>e=.returned (.int .i64 0)/\RdW w' rb/\Chg (fun k=>k=rb) w w':=by
 have c0:=(h.cell 0).trans rfl
 have HF:Hid (_):=rFail_any w rb s b0 h
 have H0:Hid (NoN (4-0) (128 ^ 0) 0 ((toL s).drop 0) hi):=hs
 have hl:(toL s).length=s.size:=by unfold toL;rw[Array.length_toList];(first | done | rfl)
 clear h hs
 go_enter Tryz.func167,Tryz.ntmps167
 go_wp2_with fail
 go_loopw [7,8] (fun v7 v8 wx=>∃ (k n:Nat),v8=.int .i64 (k:Int)/\v7=.int .i64 (n:Int)/\k<=4/\Hid (n<128 ^ k)/\Hid (NoN (4-k) (128 ^ k) n ((toL s).drop k) hi)/\wx=w) (fun _ v8 _=>4-(intOf v8).toNat)
 case atStart=>exact ⟨0,0,rfl,rfl,by omega,by unfold Hid;decide,H0,rfl⟩
 case round =>
  clear H0
  obtain ⟨k,n,rfl,rfl,hk,Hn,HR,hwr⟩:=hrel
  rw[hwr]
  clear hwr
  by_cases hgo:k<4/\k<s.size
  ·obtain ⟨hk4,hks⟩:=hgo
   obtain ⟨b,hb0⟩:∃ b,b=s[k]'hks:=⟨_,rfl⟩
   have hbt:(s[k]'hks).toNat=b.toNat:=by rw[hb0]
   have hcase:=(show NoN (4-(k+1)+1) (128 ^ k) n (b :: (toL s).drop (k+1)) hi by
    have e2:(toL s).drop k=b :: (toL s).drop (k+1):=by rw[hb0];exact List.drop_eq_getElem_cons (by rw[hl];exact hks)
    rw[<- e2,show 4-(k+1)+1=4-k by omega];exact HR.out).step
   have hb256:b.toNat<256:=UInt8.toNat_lt _
   have hnn:=Hn.out
   clear HR Hn hb0
   have hand:=low_u8 b.toNat hb256
   have htop:=top_u8 b.toNat hb256
   generalize b.toNat=bn at *
   obtain ⟨x,hx⟩:∃ x,bn % 128=x:=⟨_,rfl⟩
   rw[hx] at hand
   have hx128:x<128:=by omega
   obtain rfl | rfl | rfl | rfl:k=0\/k=1\/k=2\/k=3:=by omega
   ·have hn0:n<1:=by simpa using hnn
    have hor:bits .or .i64 (n:Int) (x:Int)=((n+x*1:Nat):Int):=by
     have:=or_i64P n x 0 (by show n<1;exact hn0) (by show n+x*1<9223372036854775808;omega)
     rw[show (x:Int)=((x*2 ^ 0:Nat):Int) by (show (x:Int)=((x*1:Nat):Int));omega]
     exact this
    have hsI:(0:Int)<(s.size:Int):=by omega
    rcases hcase with ⟨hb,hN⟩ | ⟨hb,hR⟩
    ·rw[if_pos hb] at htop
     have hbx:bn=x:=by omega
     have hN2:hi<n+x*1:=by rw[<- hbx];exact hN
     clear hN hbx hnn hn0
     generalize n+x*1=M at *
     have hlo:¬(M:Int)<0:=by omega
     have hhi2:(M:Int) > (hi:Int):=by omega
     go_wp2_with fail
     refine Calls.mono HF.out ?_
     rintro e w1 ⟨rfl,h1⟩
     go_wp2
     go_ret
     exact ⟨rfl,h1⟩
    ·rw[if_neg hb] at htop
     have hbx:bn-128=x:=by omega
     rw[hbx] at hR
     have HR2:Hid (NoN (4-1) (128 ^ 1) (n+x*1) ((toL s).drop 1) hi):=hR
     have Hn2:Hid (n+x*1<128 ^ 1):=by unfold Hid;show n+x*1<128;omega
     clear hR hbx hnn
     generalize n+x*1=M at *
     go_wp2
     go_roundw
     case rel=>exact ⟨1,M,by first | rfl | go_num,rfl,by omega,Hn2,HR2,by first | rfl | trivial⟩
     case measure=>simp[intOf] <;> omega
   ·have hn0:n<128:=by simpa using hnn
    have hor:bits .or .i64 (n:Int) ((x:Int)*128)=((n+x*128:Nat):Int):=by
     have:=or_i64P n x 7 (by show n<128;exact hn0) (by show n+x*128<9223372036854775808;omega)
     rw[show ((x:Int)*128)=((x*2 ^ 7:Nat):Int) by (show ((x:Int)*128)=((x*128:Nat):Int));omega]
     exact this
    have hsI:(1:Int)<(s.size:Int):=by omega
    rcases hcase with ⟨hb,hN⟩ | ⟨hb,hR⟩
    ·rw[if_pos hb] at htop
     have hbx:bn=x:=by omega
     have hN2:hi<n+x*128:=by rw[<- hbx];exact hN
     clear hN hbx hnn hn0
     generalize n+x*128=M at *
     have hlo:¬(M:Int)<0:=by omega
     have hhi2:(M:Int) > (hi:Int):=by omega
     go_wp2_with fail
     refine Calls.mono HF.out ?_
     rintro e w1 ⟨rfl,h1⟩
     go_wp2
     go_ret
     exact ⟨rfl,h1⟩
    ·rw[if_neg hb] at htop
     have hbx:bn-128=x:=by omega
     rw[hbx] at hR
     have HR2:Hid (NoN (4-2) (128 ^ 2) (n+x*128) ((toL s).drop 2) hi):=hR
     have Hn2:Hid (n+x*128<128 ^ 2):=by unfold Hid;show n+x*128<16384;omega
     clear hR hbx hnn
     generalize n+x*128=M at *
     go_wp2
     go_roundw
     case rel=>exact ⟨2,M,by first | rfl | go_num,rfl,by omega,Hn2,HR2,by first | rfl | trivial⟩
     case measure=>simp[intOf] <;> omega
   ·have hn0:n<16384:=by simpa using hnn
    have hor:bits .or .i64 (n:Int) ((x:Int)*16384)=((n+x*16384:Nat):Int):=by
     have:=or_i64P n x 14 (by show n<16384;exact hn0) (by show n+x*16384<9223372036854775808;omega)
     rw[show ((x:Int)*16384)=((x*2 ^ 14:Nat):Int) by (show ((x:Int)*16384)=((x*16384:Nat):Int));omega]
     exact this
    have hsI:(2:Int)<(s.size:Int):=by omega
    rcases hcase with ⟨hb,hN⟩ | ⟨hb,hR⟩
    ·rw[if_pos hb] at htop
     have hbx:bn=x:=by omega
     have hN2:hi<n+x*16384:=by rw[<- hbx];exact hN
     clear hN hbx hnn hn0
     generalize n+x*16384=M at *
     have hlo:¬(M:Int)<0:=by omega
     have hhi2:(M:Int) > (hi:Int):=by omega
     go_wp2_with fail
     refine Calls.mono HF.out ?_
     rintro e w1 ⟨rfl,h1⟩
     go_wp2
     go_ret
     exact ⟨rfl,h1⟩
    ·rw[if_neg hb] at htop
     have hbx:bn-128=x:=by omega
     rw[hbx] at hR
     have HR2:Hid (NoN (4-3) (128 ^ 3) (n+x*16384) ((toL s).drop 3) hi):=hR
     have Hn2:Hid (n+x*16384<128 ^ 3):=by unfold Hid;show n+x*16384<2097152;omega
     clear hR hbx hnn
     generalize n+x*16384=M at *
     go_wp2
     go_roundw
     case rel=>exact ⟨3,M,by first | rfl | go_num,rfl,by omega,Hn2,HR2,by first | rfl | trivial⟩
     case measure=>simp[intOf] <;> omega
   ·have hn0:n<2097152:=by simpa using hnn
    have hor:bits .or .i64 (n:Int) ((x:Int)*2097152)=((n+x*2097152:Nat):Int):=by
     have:=or_i64P n x 21 (by show n<2097152;exact hn0) (by show n+x*2097152<9223372036854775808;omega)
     rw[show ((x:Int)*2097152)=((x*2 ^ 21:Nat):Int) by (show ((x:Int)*2097152)=((x*2097152:Nat):Int));omega]
     exact this
    have hsI:(3:Int)<(s.size:Int):=by omega
    rcases hcase with ⟨hb,hN⟩ | ⟨hb,hR⟩
    ·rw[if_pos hb] at htop
     have hbx:bn=x:=by omega
     have hN2:hi<n+x*2097152:=by rw[<- hbx];exact hN
     clear hN hbx hnn hn0
     generalize n+x*2097152=M at *
     have hlo:¬(M:Int)<0:=by omega
     have hhi2:(M:Int) > (hi:Int):=by omega
     go_wp2_with fail
     refine Calls.mono HF.out ?_
     rintro e w1 ⟨rfl,h1⟩
     go_wp2
     go_ret
     exact ⟨rfl,h1⟩
    ·rw[if_neg hb] at htop
     have hbx:bn-128=x:=by omega
     rw[hbx] at hR
     have HR2:Hid (NoN (4-4) (128 ^ 4) (n+x*2097152) ((toL s).drop 4) hi):=hR
     have Hn2:Hid (n+x*2097152<128 ^ 4):=by unfold Hid;show n+x*2097152<268435456;omega
     clear hR hbx hnn
     generalize n+x*2097152=M at *
     go_wp2
     go_roundw
     case rel=>exact ⟨4,M,by first | rfl | go_num,rfl,by omega,Hn2,HR2,by first | rfl | trivial⟩
     case measure=>simp[intOf] <;> omega
  ·have hex:(¬(k:Int)<4)\/((k:Int)<4/\¬(k:Int)<(s.size:Int)):=by omega
   clear hgo HR Hn
   rcases hex with hx | ⟨hx,hx2⟩
   all_goals
    go_wp2_with fail
    refine Calls.mono HF.out ?_
    rintro e w1 ⟨rfl,h1⟩
    go_wp2
    go_ret
    exact ⟨rfl,h1⟩

theorem rText_bad (w:World) (rb:Nat) (s:ByteArray) (b0:Bool) (h:Blk w rb #[.string s,.bool b0] 245) (hb0:b0=true->s=⟨#[]⟩) (hs:NoN 4 1 0 (toL s) s.size\/∃ N r,rdN 4 1 0 (toL s)=some (N,r)/\N<=s.size/\r.length<N) (hsz:s.size<=1000000000) :
  Calls Tryz.prog 244 #[.pointer (some ⟨rb,0,none⟩)] w fun e w'=>e=.returned (.string ⟨#[]⟩)/\RdW w' rb/\Chg (fun k=>k=rb) w w':=by
 have c0:=(h.cell 0).trans rfl
 rcases hs with hs | ⟨N,r,hs,hN,hr⟩
 ·have HN:Hid (_):=rNumber_bad w rb s b0 s.size h hs hsz hsz
  clear h hs hb0
  go_enter Tryz.func244,Tryz.ntmps244
  go_wp2_with fail
  refine Calls.mono HN.out ?_
  rintro e w1 ⟨rfl,h1,hc1⟩
  have d0:=(Blk.cell h1 0).trans rfl
  have f0:=Blk.frozen h1
  have HK:Hid (RdW (w1.setCell ⟨rb,0,none⟩ (.string ⟨#[]⟩)) rb/\Chg (fun k=>k=rb) w (w1.setCell ⟨rb,0,none⟩ (.string ⟨#[]⟩))):=by
   refine ⟨?_,hc1.setCell (p:=⟨rb,0,none⟩) rfl _⟩
   unfold RdW Blk at *
   simp[World.setCell,Array.getElem?_modify,h1]
  clear HN h1 hc1 c0
  go_wp2_with fail
  go_ret
  exact ⟨rfl,HK.out⟩
 ·have hb:b0=false:=by
   cases b0 with
   | false=>rfl
   | true=>rw[hb0 rfl] at hs;cases hs
  subst hb
  have HN:Hid (_):=rNumber_gen w rb s N 0 s.size r h hs (Nat.zero_le _) hN hsz hsz
  clear h hs hb0
  go_enter Tryz.func244,Tryz.ntmps244
  go_wp2_with fail
  refine Calls.mono HN.out ?_
  rintro e w1 ⟨s1,rfl,h1,hr1,hc1⟩
  have d0:=(Blk.cell h1 0).trans rfl
  have hlt:(s1.size:Int)<(N:Int):=by
   have e:s1.size=(toL s1).length:=by simp[toL]
   rw[e,hr1];omega
  have HF:Hid (_):=rFail_any w1 rb s1 false h1
  have HC:Hid (Chg (fun k=>k=rb) w w1):=hc1
  clear HN h1 hc1 hr1 c0
  go_wp2_with fail
  refine Calls.mono HF.out ?_
  rintro e w2 ⟨rfl,h2,hc2⟩
  have HK:Hid (RdW w2 rb/\Chg (fun k=>k=rb) w w2):=⟨h2,HC.out.trans hc2⟩
  clear h2 hc2 HC d0
  go_wp2
  go_ret
  exact ⟨rfl,HK.out⟩
theorem AtEnd_bad (w:World) (rb:Nat) (h:RdW w rb):Calls Tryz.prog 168 #[.pointer (some ⟨rb,0,none⟩)] w fun e w'=>e=.returned (.bool false)/\w'=w:=by
 have c0:=(Blk.cell h 0).trans rfl
 have c1:=(Blk.cell h 1).trans rfl
 clear h
 go_enter Tryz.func168,Tryz.ntmps168
 go_wp2
 go_ret
 exact ⟨rfl,rfl⟩
end Go.Proofs.YtfmmllpjgkgeaaaGreatDoor

