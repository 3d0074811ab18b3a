import Derived.Laws.BitsAllLaws
import Derived.Test.YtfmmllpjgkgeaaaGreatDoorPart12
import Derived.Test.YtfmmllpjgkgeaaaGreatDoorPart32
import Derived.Test.YtfmmllpjgkgeaaaGreatDoorPart33
set_option linter.unusedVariables false
set_option linter.unusedSimpArgs false
namespace Go.Proofs.YtfmmllpjgkgeaaaGreatDoor
open Go.RowKit

theorem xor_inj {s s' b b':Int} (h1:0<=s/\s<4294967296) (h2:0<=s'/\s'<4294967296) (h3:0<=b/\b<256) (h4:0<=b'/\b'<256) (e:bits .xor .u32 s b=bits .xor .u32 s' b'):(b=b'->s=s')/\(s=s'->b=b'):=by
 rw[u32_xor s b h1.1 h1.2 h3.1 (by omega),u32_xor s' b' h2.1 h2.2 h4.1 (by omega)] at e
 have e':s.toNat ^^^ b.toNat=s'.toNat ^^^ b'.toNat:=by omega
 constructor
 ·rintro rfl
  have:=congrArg (· ^^^ b.toNat) e'
  simp only[Nat.xor_assoc,Nat.xor_self,Nat.xor_zero] at this
  omega
 ·rintro rfl
  have:=congrArg (s.toNat ^^^ ·) e'
  simp only[<- Nat.xor_assoc,Nat.xor_self,Nat.zero_xor] at this
  omega
theorem xor_bd {s b:Int} (h1:0<=s/\s<4294967296) (h3:0<=b/\b<256):0<=bits .xor .u32 s b/\bits .xor .u32 s b<4294967296:=by
 rw[u32_xor s b h1.1 h1.2 h3.1 (by omega)]
 have:s.toNat ^^^ b.toNat<2 ^ 32:=Nat.xor_lt_two_pow (by omega) (by omega)
 omega
theorem mul_key (x:Int):(x*16777619*899433627) % 4294967296=x % 4294967296:=by
 have h:(16777619:Int)*899433627=1+4294967296*3513497:=by decide
 rw[Int.mul_assoc,h,Int.mul_add,Int.mul_one,Int.mul_left_comm,Int.add_mul_emod_self_left]
theorem mul_inj {x y:Int} (hx:0<=x/\x<4294967296) (hy:0<=y/\y<4294967296) (e:(x*16777619) % 4294967296=(y*16777619) % 4294967296):x=y:=by
 have k1:=mul_key x
 have k2:=mul_key y
 rw[Int.mul_emod,e,<- Int.mul_emod,k2] at k1
 rw[Int.emod_eq_of_lt hx.1 hx.2,Int.emod_eq_of_lt hy.1 hy.2] at k1
 exact k1.symm
theorem sumStep_bd (s:Int) (b:UInt8):0<=sumStep s b/\sumStep s b<4294967296:=by unfold sumStep;omega
theorem b_bd (b:UInt8):0<=(b.toNat:Int)/\(b.toNat:Int)<256:=by have:=b.toNat_lt;omega
theorem sumStep_inj {s s':Int} {b b':UInt8} (h1:0<=s/\s<4294967296) (h2:0<=s'/\s'<4294967296) (e:sumStep s b=sumStep s' b'):(b=b'->s=s')/\(s=s'->b=b'):=by
 unfold sumStep at e
 have e2:=mul_inj (xor_bd h1 (b_bd b)) (xor_bd h2 (b_bd b')) e
 have e3:=xor_inj h1 h2 (b_bd b) (b_bd b') e2
 exact ⟨fun h=>e3.1 (by rw[h]),fun h=>UInt8.toNat_inj.1 (by have:=e3.2 h;omega)⟩
theorem fold_inj:∀ (q:Thk.Bs) (s s':Int),(0<=s/\s<4294967296)->(0<=s'/\s'<4294967296)->q.foldl sumStep s=q.foldl sumStep s'->s=s'
 | [],s,s',_,_,e=>e
 | b :: q,s,s',h1,h2,e=>(sumStep_inj h1 h2 (fold_inj q _ _ (sumStep_bd s b) (sumStep_bd s' b) e)).1 rfl
theorem sumL_set (l:Thk.Bs) (i:Nat) (hi:i<l.length) (b:UInt8) (hb:b≠l[i]):sumL (l.set i b)≠sumL l:=fun e=>by
 have h1:l=l.take i ++ l[i] :: l.drop (i+1):=by rw[List.getElem_cons_drop,List.take_append_drop]
 have h2:l.set i b=l.take i ++ b :: l.drop (i+1):=List.set_eq_take_append_cons_drop.trans (if_pos hi)
 unfold sumL at e
 rw[h2] at e
 conv at e=>rhs;rw[h1]
 rw[List.foldl_append,List.foldl_append,List.foldl_cons,List.foldl_cons] at e
 have hs:0<=(l.take i).foldl sumStep 2166136261/\(l.take i).foldl sumStep 2166136261<4294967296:=sumL_bd (l.take i)
 have e2:=fold_inj _ _ _ (sumStep_bd _ b) (sumStep_bd _ l[i]) e
 exact hb ((sumStep_inj hs hs e2).2 rfl)
theorem sumB_inj:∀ (k:Nat) (s s':Int),0<=s->0<=s'->s<256 ^ k->s'<256 ^ k->sumB s k=sumB s' k->s=s'
 | 0,s,s',h1,h2,h3,h4,_=>by simp at h3 h4;omega
 | k+1,s,s',h1,h2,h3,h4,e=>by
  unfold sumB at e
  have e1:=(List.cons.inj e).1
  have h3':s / 256<256 ^ k:=by rw[Int.pow_succ] at h3;omega
  have h4':s' / 256<256 ^ k:=by rw[Int.pow_succ] at h4;omega
  have e2:=sumB_inj k (s / 256) (s' / 256) (by omega) (by omega) h3' h4' (List.cons.inj e).2
  have e3:(s % 256).toNat=(s' % 256).toNat:=by
   have:=congrArg UInt8.toNat e1
   rw[UInt8.toNat_ofNat',UInt8.toNat_ofNat'] at this
   omega
  omega
theorem spoilt_none (l:Thk.Bs) (i:Nat) (hi:i<(sealL l).length) (b:UInt8) (hb:b≠(sealL l)[i]):unsealL ((sealL l).set i b)=none:=by
 have hlen:=sealL_len l
 unfold unsealL
 rw[List.length_set,hlen,Nat.add_sub_cancel]
 refine if_neg fun ⟨_,e⟩=>?_
 by_cases h:i<l.length
 ·have h1:(sealL l).set i b=l.set i b ++ sumB (sumL l) 4:=by unfold sealL;rw[List.set_append_left _ _ h]
  have h2:((sealL l).set i b).take l.length=l.set i b:=by rw[h1,List.take_append_of_le_length (by simp),List.take_of_length_le (by simp)]
  rw[h2,h1] at e
  unfold sealL at e
  have e2:=List.append_cancel_left e
  have b1:=sumL_bd l
  have b2:=sumL_bd (l.set i b)
  have e3:=sumB_inj 4 _ _ b2.1 b1.1 (by omega) (by omega) e2
  have hg:(sealL l)[i]=l[i]:=by
   have h9:(sealL l)[i]? = l[i]?:=by unfold sealL;rw[List.getElem?_append_left h]
   rw[List.getElem?_eq_getElem hi,List.getElem?_eq_getElem h] at h9
   exact Option.some.inj h9
  rw[hg] at hb
  exact sumL_set l i h b hb e3
 ·have h2:((sealL l).set i b).take l.length=l:=by
   rw[List.take_set_of_le (by omega)]
   unfold sealL
   rw[List.take_append_of_le_length (Nat.le_refl _),List.take_length]
  rw[h2] at e
  apply hb
  have:=congrArg (fun x=>x[i]?) e
  simp only[List.getElem?_eq_getElem hi] at this
  rw[List.getElem?_set,if_pos rfl,if_pos hi] at this
  exact (Option.some.inj this).symm
end Go.Proofs.YtfmmllpjgkgeaaaGreatDoor
namespace Go.Proofs.YtfmmllpjgkgeaaaGreatDoor
open Go.RowKit Go.Maps Go.WideMaps Go.MuLone Go.Deep

theorem row_conv2 (w:World) (s:ByteArray):∃ g cap w',(convert 9 93 (.string s)).run Tryz.prog w=.ok (.slice (some ⟨g,0,none⟩) s.size cap) w'/\s.size<=cap/\w.heap.size<=g/\U8 w' g/\(∀ j (h:j<(toL s).length),w'.cell? ⟨g,j,none⟩=some (.int .u8 ((toL s)[j].toNat:Int))/\w'.frozen? ⟨g,j,none⟩=false)/\Below w.heap.size w w':=by
 obtain ⟨v,w',hrun,hrow,hb⟩:=row_conv w s
 have h2:=run_bytes_of_string (P:=Tryz.prog) w 9 93 5 s Tryz.underlying9 Tryz.underlying93 Tryz.underlying5
 have hge:=grownCap_ge w s.size 0 5
 have h3:=hrun.symm.trans h2
 have hls:(toL s).length=s.size:=by unfold toL;rw[Array.length_toList];(first | done | rfl)
 generalize grownCap w s.size 0 5=cap at *
 have hsz:(bytesRow s cap).size=cap:=by
  unfold bytesRow
  rw[Array.size_append,Array.size_map,Array.size_replicate]
  have:s.data.size=s.size:=rfl
  omega
 obtain ⟨g,cap',hv,hg,hU,hcap,hc,_⟩:=hrow.ex
 rw[hls] at hv hcap
 subst hv
 injection h3 with e1 e2
 simp only[Value.slice.injEq,Option.some.injEq,Addr.mk.injEq] at e1
 obtain ⟨⟨rfl,_⟩,_,rfl⟩:=e1
 refine ⟨_,_,w',hrun,hcap,hg,hU,fun j hj=>⟨hc j hj, ?_⟩,hb⟩
 rw[e2]
 refine Eq.trans (World.frozen?_alloc_mark w.drew (bytesRow s cap') 5 (bytesRow s cap').size ((bytesRow s cap').size+1) j) ?_
 simp;omega

theorem row_put {w:World} {g cap k:Nat} {l:Thk.Bs} (hU:U8 w g) (hcap:l.length<=cap) (hc:∀ j (h:j<l.length),w.cell? ⟨g,j,none⟩=some (.int .u8 (l[j].toNat:Int))) (hk:k<l.length) (b:UInt8) (v:Value) (hv:v=.int .u8 (b.toNat:Int)) :
  (convert 93 9 (.slice (some ⟨g,0,none⟩) l.length cap)).run Tryz.prog (w.setCell ⟨g,k,none⟩ v)=.ok (.string (strOfNums ((l.set k b).map fun b=>(b.toNat:Int)))) (w.setCell ⟨g,k,none⟩ v):=by
 obtain ⟨cs,fz,hh⟩:=hU
 subst hv
 have hcs:∀ j (h:j<l.length),cs[j]? = some (.int .u8 (l[j].toNat:Int)):=fun j h=>by
  have:=hc j h
  simpa[World.cell?,hh] using this
 have e:=run_convert_bytes_arg (P:=Tryz.prog) (w.setCell ⟨g,k,none⟩ (.int .u8 (b.toNat:Int))) 93 5 Tryz.underlying93 Tryz.underlying5 g 0 l.length cap ((l.set k b).map fun b=>(b.toNat:Int)) (by simp) (fun i hi=>?_) 9 Tryz.underlying9
 ·exact e
 ·have hi2:i<l.length:=by simpa using hi
  have hks:k<cs.size:=(Array.getElem?_eq_some_iff.1 (hcs k hk)).1
  rw[Nat.zero_add]
  by_cases e9:k=i
  ·subst e9
   simp[World.cell?,World.setCell,Array.getElem?_modify,hh,hks]
   rw[List.getElem?_set,if_pos rfl,if_pos (by simpa using hk)];(first | done | rfl)
  ·have:=hcs i hi2
   simp[World.cell?,World.setCell,Array.getElem?_modify,hh,e9,List.getElem_set,this]
   rw[List.getElem?_eq_getElem hi2];(first | done | rfl)
def turnB (b:UInt8) (j:Nat):UInt8:=UInt8.ofNat (b.toNat ^^^ 2 ^ j)
theorem turnB_nat (b:UInt8) {j:Nat} (hj:j<8):(turnB b j).toNat=b.toNat ^^^ 2 ^ j:=by
 have h1:2 ^ j<2 ^ 8:=Nat.pow_lt_pow_right (by omega) hj
 have h2:b.toNat ^^^ 2 ^ j<2 ^ 8:=Nat.xor_lt_two_pow b.toNat_lt h1
 unfold turnB
 rw[UInt8.toNat_ofNat']
 exact Nat.mod_eq_of_lt h2
theorem turnB_ne (b:UInt8) {j:Nat} (hj:j<8):turnB b j≠b:=fun e=>by
 have h:=turnB_nat b hj
 rw[e] at h
 have h2:=congrArg (b.toNat ^^^ ·) h
 simp only[<- Nat.xor_assoc,Nat.xor_self,Nat.zero_xor] at h2
 have:=Nat.two_pow_pos j
 omega

set_option maxHeartbeats 4000000 in
set_option maxRecDepth 100000 in
theorem turned_any (w:World) (s:ByteArray) (a j:Nat) (ha:a<(toL s).length) (hj:j<8) (hs:s.size<=900000) :
  Calls Tryz.prog 58 #[.string s,.int .i64 ((a*8+j:Nat):Int)] w fun e w'=>∃ u,e=.returned (.string u)/\toL u=(toL s).set a (turnB (toL s)[a] j)/\Below w.heap.size w w':=by
 obtain ⟨g,cap,w1,hrun,hcap,hg,hU,hc,hb⟩:=row_conv2 w s
 have hls:(toL s).length=s.size:=by unfold toL;rw[Array.length_toList];(first | done | rfl)
 have c1:=(hc a ha).1
 have z1:=(hc a ha).2
 have hq:Int.tdiv ((a:Int)*8+(j:Int)) 8=(a:Int):=by
  rw[Int.tdiv_eq_ediv_of_nonneg (by omega)];omega
 have hr:Int.tmod ((a:Int)*8+(j:Int)) 8=(j:Int):=by
  rw[Int.tmod_eq_emod_of_nonneg (by omega)];omega
 have haI:(a:Int)<(s.size:Int):=by omega
 have HR:Hid ((convert 9 93 (.string s)).run Tryz.prog w=.ok (.slice (some ⟨g,0,none⟩) s.size cap) w1):=hrun
 have HP:Hid (∀ (b:UInt8),(convert 93 9 (.slice (some ⟨g,0,none⟩) s.size cap)).run Tryz.prog (w1.setCell ⟨g,a,none⟩ (.int .u8 (b.toNat:Int))).drew=.ok (.string (strOfNums (((toL s).set a b).map fun b=>(b.toNat:Int)))) (w1.setCell ⟨g,a,none⟩ (.int .u8 (b.toNat:Int))).drew):=fun b=>by
  have:=row_put (w:=w1.drew) hU (by rw[hls];exact hcap) (fun j h=>(hc j h).1) ha b _ rfl
  rw[hls] at this
  exact this
 have Hb:Hid (Below w.heap.size w w1/\w.heap.size<=g):=⟨hb,hg⟩
 have hval:Value.int .u8 (bits .xor .u8 ((toL s)[a].toNat:Int) (2 ^ j % 256))=.int .u8 ((turnB (toL s)[a] j).toNat:Int):=by
  have h1:(2:Nat) ^ j<256:=by
   have:(2:Nat) ^ j<2 ^ 8:=Nat.pow_lt_pow_right (by omega) hj
   exact this
  have h2:((2:Int) ^ j % 256)=((2 ^ j:Nat):Int):=by
   have h3:((2:Int) ^ j)=((2 ^ j:Nat):Int):=by simp
   rw[h3,Int.emod_eq_of_lt (Int.natCast_nonneg _) (by exact_mod_cast h1)]
  rw[h2,u8_xor_nat _ _ (toL s)[a].toNat_lt h1,turnB_nat _ hj]
 clear hrun hc hb hg hU
 go_enter Tryz.func58,Tryz.ntmps58
 go_wp2_with fail
 rw[HR.out]
 go_wp2
 refine wp_region_noPanic ?_
 go_region
 refine NoPanic.normal ?_
 go_wp2_with fail
 rw[HP.out (turnB (toL s)[a] j)]
 go_wp2
 go_ret
 exact ⟨_,rfl,by rw[<- nums_toL ((toL s).set a (turnB (toL s)[a] j)),List.map_set],(Hb.out.1.setCell (p:=⟨g,a,none⟩) Hb.out.2 _).drew⟩

set_option maxHeartbeats 8000000 in
set_option maxRecDepth 100000 in
theorem CSpoil_arg (w:World) (x q cap:Nat) (fv:Value) (ds:List RepD) (bs:List (Nat × ByteArray)) (hC:CluP w x q cap fv 0 ds bs) (k:Nat) (hk:k<bs.length) (bit:Int) (hb0:0<=bit) (hbit:8*(bs[k].2.size:Int)<=bit) (hsz:bs[k].2.size<=900000) :
  Calls Tryz.prog 30 #[.pointer (some ⟨x,0,none⟩),.int .i64 ((k:Int)+1),.int .i64 bit] w fun e w'=>e=.returned (.int .i64 1)/\CluP w' x q cap fv 0 ds bs/\Chg (fun k=>k=x) w w':=by
 have k0:w.cell? ⟨x,0,none⟩=some (.int .i32 0):=(hC.blk.cell 0).trans rfl
 have z0:w.frozen? ⟨x,0,none⟩=false:=hC.blk.frozen 0
 have HC1:Hid (CluP (w.setCell ⟨x,0,none⟩ (.int .i32 1)) x q cap fv 1 ds bs):=hC.turn 1
 have Hch:Hid (Chg (fun k=>k=x) w (w.setCell ⟨x,0,none⟩ (.int .i32 1))):=chg_turn (M:=fun k=>k=x) rfl _
 have hb5:=hC.b500
 clear hC
 generalize hW1:w.setCell ⟨x,0,none⟩ (.int .i32 1)=W1 at *
 have HW1:Hid (w.setCell ⟨x,0,none⟩ (.int .i32 1)=W1):=hW1
 clear hW1
 have HS:Hid (∀ wx,CluP wx x q cap fv 1 ds bs->Calls Tryz.prog 55 #[.pointer (some ⟨x,0,none⟩),.int .i64 ((k:Int)+1)] wx fun e w'=>e=.returned (.bool true)/\w'=wx):=fun wx hx=>by
  have:=isSent_any wx x q cap fv 1 ds bs hx ((k:Int)+1)
  rw[decide_eq_true (by omega)] at this;exact this
 obtain ⟨g,c,hfv⟩:=own_some HC1.out.fr (by omega)
 have c3:W1.cell? ⟨x,3,none⟩=some (.slice (some ⟨g,0,none⟩) bs.length c):=by rw[<- hfv];exact (HC1.out.blk.cell 3).trans rfl
 have cs0:W1.cell? ⟨g,k*2,none⟩=some (.int .i64 (bs[k].1:Int)):=by
  have:=HC1.out.fr
  rw[hfv] at this
  rw[this.cellAt (k*2) (by omega)];exact (frV_at bs k hk).1
 have cs1:W1.cell? ⟨g,k*2+1,none⟩=some (.string bs[k].2):=by
  have:=HC1.out.fr
  rw[hfv] at this
  rw[this.cellAt (k*2+1) (by omega)];exact (frV_at bs k hk).2
 have hidx:IntKind.i64.wrap (k:Int)=(k:Int):=wrap_in _ (by omega) (by omega)
 have hk0:(0:Int)<=(k:Int):=by omega
 have hkI:(k:Int)<(bs.length:Int):=by omega
 have hcap:bs.length<=c:=by
  obtain ⟨ao,c',e1,e2⟩:=HC1.out.fvS
  rw[hfv] at e1
  simp only[Value.slice.injEq] at e1
  omega
 have hnb:¬bit<0:=by omega
 have Hal:Hid (∀ o,CluP (W1.alloc o) x q cap fv 1 ds bs/\Chg (fun k=>k=x) w (W1.alloc o)):=fun o=>⟨HC1.out.below ((Below.refl _ W1).alloc (Nat.le_refl _) o),Hch.out.below ((Below.refl _ W1).alloc (Nat.le_refl _) o)⟩
 clear hfv
 generalize bs[k].1=dn at *
 generalize bs[k].2=bt at *
 go_enter_defers Tryz.func30,Tryz.ntmps30
 go_wp2_with (go_at_call 43;refine (lock_free YtfmmllpjgkgeaaaGreatDoor.muLib ⟨x,0,none⟩ _ k0 z0).mono ?_;rintro e w' ⟨rfl,rfl⟩)
 rw[HW1.out]
 refine Calls.mono (HS.out _ HC1.out) ?_
 rintro e w2 ⟨rfl,rfl⟩
 clear HS k0 z0
 go_wp2_with fail
 obtain ⟨HC2,Hc2⟩:Hid (CluP (w2.alloc (.cells #[.int .i64 (dn:Int),.string bt] 109)) x q cap fv 1 ds bs)/\Hid (Chg (fun k=>k=x) w (w2.alloc (.cells #[.int .i64 (dn:Int),.string bt] 109))):=Hal.out _
 refine leaves_cons (f:=44) (args:=#[.pointer (some ⟨x,0,none⟩)]) (by simp) (by simp[go_sem]) ?_
 refine (unlock_deferred YtfmmllpjgkgeaaaGreatDoor.muLib ⟨x,0,none⟩ .returning _ ((HC2.out.blk.cell 0).trans rfl) (HC2.out.blk.frozen 0)).mono ?_
 rintro e u' w9 ⟨rfl,rfl,rfl⟩
 exact ⟨_,results_tmp rfl _ _ _,rfl,HC2.out.turn 0,Chg.setCell (M:=fun k=>k=x) (p:=⟨x,0,none⟩) Hc2.out rfl _⟩

set_option maxHeartbeats 8000000 in
set_option maxRecDepth 100000 in
theorem CSpoil_of (w:World) (x q cap:Nat) (fv:Value) (ds:List RepD) (bs:List (Nat × ByteArray)) (hC:CluP w x q cap fv 0 ds bs) (k:Nat) (hk:k<bs.length) (a j:Nat) (ha:a<(toL bs[k].2).length) (hj:j<8) (l:Thk.Bs) (hl:toL bs[k].2=sealL l) (hsz:bs[k].2.size<=700000) (hdn:bs[k].1<ds.length) :
  Calls Tryz.prog 30 #[.pointer (some ⟨x,0,none⟩),.int .i64 ((k:Int)+1),.int .i64 ((a*8+j:Nat):Int)] w fun e w'=>e=.returned (.int .i64 9)/\CluP w' x q cap fv 0 ds bs/\Chg (fun k=>k=x) w w':=by
 have k0:w.cell? ⟨x,0,none⟩=some (.int .i32 0):=(hC.blk.cell 0).trans rfl
 have z0:w.frozen? ⟨x,0,none⟩=false:=hC.blk.frozen 0
 have HC1:Hid (CluP (w.setCell ⟨x,0,none⟩ (.int .i32 1)) x q cap fv 1 ds bs):=hC.turn 1
 have Hch:Hid (Chg (fun k=>k=x) w (w.setCell ⟨x,0,none⟩ (.int .i32 1))):=chg_turn (M:=fun k=>k=x) rfl _
 have hb5:=hC.b500
 clear hC
 generalize hW1:w.setCell ⟨x,0,none⟩ (.int .i32 1)=W1 at *
 have HW1:Hid (w.setCell ⟨x,0,none⟩ (.int .i32 1)=W1):=hW1
 clear hW1
 have HS:Hid (∀ wx,CluP wx x q cap fv 1 ds bs->Calls Tryz.prog 55 #[.pointer (some ⟨x,0,none⟩),.int .i64 ((k:Int)+1)] wx fun e w'=>e=.returned (.bool true)/\w'=wx):=fun wx hx=>by
  have:=isSent_any wx x q cap fv 1 ds bs hx ((k:Int)+1)
  rw[decide_eq_true (by omega)] at this;exact this
 obtain ⟨g,c,hfv⟩:=own_some HC1.out.fr (by omega)
 have c3:W1.cell? ⟨x,3,none⟩=some (.slice (some ⟨g,0,none⟩) bs.length c):=by rw[<- hfv];exact (HC1.out.blk.cell 3).trans rfl
 have cs0:W1.cell? ⟨g,k*2,none⟩=some (.int .i64 (bs[k].1:Int)):=by
  have:=HC1.out.fr
  rw[hfv] at this
  rw[this.cellAt (k*2) (by omega)];exact (frV_at bs k hk).1
 have cs1:W1.cell? ⟨g,k*2+1,none⟩=some (.string bs[k].2):=by
  have:=HC1.out.fr
  rw[hfv] at this
  rw[this.cellAt (k*2+1) (by omega)];exact (frV_at bs k hk).2
 have hidx:IntKind.i64.wrap (k:Int)=(k:Int):=wrap_in _ (by omega) (by omega)
 have hk0:(0:Int)<=(k:Int):=by omega
 have hkI:(k:Int)<(bs.length:Int):=by omega
 have hcap:bs.length<=c:=by
  obtain ⟨ao,c',e1,e2⟩:=HC1.out.fvS
  rw[hfv] at e1
  simp only[Value.slice.injEq] at e1
  omega
 have hls:(toL bs[k].2).length=bs[k].2.size:=by unfold toL;rw[Array.length_toList];(first | done | rfl)
 have hnb:¬((a:Int)*8+(j:Int))<0:=by omega
 have hnb2:¬(8*(bs[k].2.size:Int))<=(a:Int)*8+(j:Int):=by omega
 have HT:Hid (∀ wx,Calls Tryz.prog 58 #[.string bs[k].2,.int .i64 ((a:Int)*8+(j:Int))] wx fun e w'=>∃ u,e=.returned (.string u)/\Hid (toL u=(toL bs[k].2).set a (turnB (toL bs[k].2)[a] j))/\Below wx.heap.size wx w'):=fun wx=>by
  have:=turned_any wx bs[k].2 a j ha hj (by omega)
  simp only[Int.natCast_add,Int.natCast_mul] at this
  exact this
 have HK:Hid (∀ wx u,CluP wx x q cap fv 1 ds bs->toL u=(toL bs[k].2).set a (turnB (toL bs[k].2)[a] j)->Calls Tryz.prog 57 #[.pointer (some ⟨x,0,none⟩),.int .i64 (bs[k].1:Int),.string u] wx fun e w'=>e=.returned (.tuple #[.int .i64 0,.int .i64 9])/\Below wx.heap.size wx w'):=fun wx u hx hu=>by
  have hus:u.size<=900000:=by
   have h1:(toL u).length=u.size:=by unfold toL;rw[Array.length_toList];(first | done | rfl)
   rw[hu,List.length_set] at h1
   omega
  refine come_bad wx x q cap fv ds bs hx _ hdn u hus ?_
  rw[hu]
  have hb:=turnB_ne (toL bs[k].2)[a] hj
  have hsp:=spoilt_none l a (by rw[<- hl];exact ha) (turnB (toL bs[k].2)[a] j) (by
   have h9:(sealL l)[a]'(by rw[<- hl];exact ha)=(toL bs[k].2)[a]:=by
    have h8:(sealL l)[a]? = (toL bs[k].2)[a]?:=by rw[hl]
    rw[List.getElem?_eq_getElem (by rw[<- hl];exact ha),List.getElem?_eq_getElem ha] at h8
    exact Option.some.inj h8
   rw[h9];exact hb)
  have h7:(toL bs[k].2).set a (turnB (toL bs[k].2)[a] j)=(sealL l).set a (turnB (toL bs[k].2)[a] j):=by
   generalize turnB (toL bs[k].2)[a] j=tb
   rw[hl]
  rw[h7];exact hsp
 have Hal:Hid (∀ o,CluP (W1.alloc o) x q cap fv 1 ds bs/\Chg (fun k=>k=x) w (W1.alloc o)):=fun o=>⟨HC1.out.below ((Below.refl _ W1).alloc (Nat.le_refl _) o),Hch.out.below ((Below.refl _ W1).alloc (Nat.le_refl _) o)⟩
 have HTK:Hid (∀ wx,CluP wx x q cap fv 1 ds bs->Calls Tryz.prog 58 #[.string bs[k].2,.int .i64 ((a:Int)*8+(j:Int))] wx fun e w'=>∃ u,e=.returned (.string u)/\CluP w' x q cap fv 1 ds bs/\Below wx.heap.size wx w'/\∀ wy,CluP wy x q cap fv 1 ds bs->Calls Tryz.prog 57 #[.pointer (some ⟨x,0,none⟩),.int .i64 (bs[k].1:Int),.string u] wy fun e w'=>e=.returned (.tuple #[.int .i64 0,.int .i64 9])/\Below wy.heap.size wy w'):=fun wx hx=>by
  refine Calls.mono (HT.out wx) ?_
  rintro e w' ⟨u,rfl,hu,hb⟩
  exact ⟨u,rfl,hx.below hb,hb,fun wy hy=>HK.out wy u hy hu.out⟩
 have ha2:a<bs[k].2.size:=by omega
 clear hfv HT HK hl ha hls hdn
 generalize bs[k].1=dn at *
 generalize bs[k].2=bt at *
 go_enter_defers Tryz.func30,Tryz.ntmps30
 go_wp2_with (go_at_call 43;refine (lock_free YtfmmllpjgkgeaaaGreatDoor.muLib ⟨x,0,none⟩ _ k0 z0).mono ?_;rintro e w' ⟨rfl,rfl⟩)
 rw[HW1.out]
 refine Calls.mono (HS.out _ HC1.out) ?_
 rintro e w2 ⟨rfl,rfl⟩
 clear HS k0 z0
 go_wp2_with fail
 have hal:=Hal.out (.cells #[.int .i64 (dn:Int),.string bt] 109)
 have kz:=Blk.new w2 #[.int .i64 (dn:Int),.string bt] 109
 clear Hal HC1 Hch
 generalize hW2:w2.alloc (.cells #[.int .i64 (dn:Int),.string bt] 109)=W2 at *
 have hlt:w2.heap.size<W2.drew.heap.size:=kz.lt
 have d0:W2.drew.cell? ⟨w2.heap.size,0,none⟩=some (.int .i64 (dn:Int)):=(kz.cell 0).trans rfl
 have d1:W2.drew.cell? ⟨w2.heap.size,1,none⟩=some (.string bt):=(kz.cell 1).trans rfl
 have hd:CluP W2.drew x q cap fv 1 ds bs:=hal.1.below (Below.refl _ W2).drew
 have Hc2:Hid (Chg (fun k=>k=x) w W2.drew):=hal.2.below (Below.refl _ W2).drew
 clear hW2 kz hal c3 cs0 cs1 hidx hcap HW1
 refine wp_region_noPanic ?_
 go_region_with (go_simp;first | (refine Calls.mono (HTK.out _ hd) ?_;rintro e w3 ⟨u,rfl,hC3,hb3,hK3⟩;have d03:w3.cell? ⟨w2.heap.size,0,none⟩=some (.int .i64 (dn:Int)):=(hb3.cell (p:=⟨w2.heap.size,0,none⟩) hlt).trans d0) | (refine Calls.mono (hK3 _ hC3) ?_;rintro e w4 ⟨rfl,hb4⟩))
 all_goals
  refine NoPanic.normal ?_
  have HC4:Hid (CluP w4 x q cap fv 1 ds bs):=hC3.below hb4
  have Hc4:Hid (Chg (fun k=>k=x) w w4):=(Hc2.out.below hb3).below hb4
  clear HTK hd d0 d1 d03 hC3 hb3 hK3 hb4
  go_wp2_with fail
  refine leaves_cons (f:=44) (args:=#[.pointer (some ⟨x,0,none⟩)]) (by simp) (by simp[go_sem]) ?_
  refine (unlock_deferred YtfmmllpjgkgeaaaGreatDoor.muLib ⟨x,0,none⟩ .returning _ ((HC4.out.blk.cell 0).trans rfl) (HC4.out.blk.frozen 0)).mono ?_
  rintro e u' w9 ⟨rfl,rfl,rfl⟩
  exact ⟨_,results_tmp rfl _ _ _,rfl,HC4.out.turn 0,Chg.setCell (M:=fun k=>k=x) (p:=⟨x,0,none⟩) Hc4.out rfl _⟩
end Go.Proofs.YtfmmllpjgkgeaaaGreatDoor

