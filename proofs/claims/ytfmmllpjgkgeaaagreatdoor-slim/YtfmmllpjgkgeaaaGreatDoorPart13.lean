import Derived.Test.YtfmmllpjgkgeaaaGreatDoorPart12
set_option linter.unusedVariables false
set_option linter.unusedSimpArgs false
set_option maxHeartbeats 16000000
set_option maxRecDepth 100000
namespace Go.Proofs.YtfmmllpjgkgeaaaGreatDoor
open Go.RowKit Go.Maps Go.WideMaps

theorem rdN_short:∀ (f p n k j:Nat),j<(encG k).length->rdN f p n ((encG k).take j)=none
 | 0,_,_,_,_,_=>rfl
 | _+1,_,_,_,0,_=>rfl
 | f+1,p,n,k,j+1,hj=>by
  by_cases h:k<128
  ·rw[encG_one h] at hj;simp at hj
  ·rw[encG_more h] at hj ⊢
   rw[List.take_succ_cons]
   show (if (UInt8.ofNat (k % 128+128)).toNat<128 then _ else _)=none
   have:(UInt8.ofNat (k % 128+128)).toNat=k % 128+128:=by rw[UInt8.toNat_ofNat'];omega
   rw[this,if_neg (by omega)]
   exact rdN_short f _ _ (k / 128) j (by simpa using hj)
theorem NoN.none {f p n hi:Nat} {l:Thk.Bs} (h:rdN f p n l=.none):NoN f p n l hi:=fun N r h2=>by rw[h] at h2;cases h2
def TextBad (l:Thk.Bs):Prop:=NoN 4 1 0 l l.length\/∃ N r,rdN 4 1 0 l=some (N,r)/\N<=l.length/\r.length<N
theorem text_bad (t:Thk.Bs) (ht:t.length<268435456) (j:Nat) (hj:j<(encG t.length ++ t).length):TextBad ((encG t.length ++ t).take j):=by
 by_cases h:j<(encG t.length).length
 ·refine Or.inl (NoN.none ?_)
  rw[List.take_append_of_le_length (by omega)]
  exact rdN_short 4 1 0 t.length j h
 ·have e:(encG t.length ++ t).take j=encG t.length ++ t.take (j-(encG t.length).length):=by
   rw[List.take_append,List.take_of_length_le (by omega)]
  have hr:rdN 4 1 0 ((encG t.length ++ t).take j)=some (t.length,t.take (j-(encG t.length).length)):=by
   rw[e,rdN_enc 3 1 0 t.length _ (by omega)];simp
  have hl:(t.take (j-(encG t.length).length)).length<t.length:=by
   rw[List.length_append] at hj
   rw[List.length_take];omega
  by_cases h2:t.length<=((encG t.length ++ t).take j).length
  ·exact Or.inr ⟨_,_,hr,h2,hl⟩
  ·refine Or.inl (fun N r h3=>?_)
   rw[hr] at h3
   cases h3
   omega

theorem opened_cut (w:World) (q:ByteArray) (hsz:q.size<=900000) (n:Nat) (t:Thk.Bs) (hn:n<268435456) (ht:t.length<=800000) (j:Nat) (hj:j<(encG n ++ (encG t.length ++ t)).length) (hus:unsealL (toL q)=some ((encG n ++ (encG t.length ++ t)).take j)) :
  Calls Tryz.prog 242 #[.string q] w fun e w'=>e=.returned (.tuple #[.int .i64 ((if j<(encG n).length then 0 else n:Nat):Int),.string ⟨#[]⟩,.bool false])/\Below w.heap.size w w':=by
 have HU:Hid (_):=Unseal_any q w hsz
 rw[hus] at HU
 generalize hin:((some ((encG n ++ (encG t.length ++ t)).take j)).getD [])=L at HU
 have hL:L=(encG n ++ (encG t.length ++ t)).take j:=hin.symm
 have hen:=encG_len 3 n (by omega)
 have het:=encG_len 3 t.length (by omega)
 have hLl:L.length<=900000:=by rw[hL,List.length_take];simp only[List.length_append];omega
 have hLs:(⟨L.toArray⟩:ByteArray).size=L.length:=by show L.toArray.size=_;simp
 have hLt:toL (⟨L.toArray⟩:ByteArray)=L:=by unfold toL;simp
 have H1:Hid (∀ wx rb,RdP wx rb ⟨L.toArray⟩->Calls Tryz.prog 167 #[.pointer (some ⟨rb,0,none⟩),.int .i64 0,.int .i64 268435455] wx fun e w'=>∃ s' b',e=.returned (.int .i64 ((if j<(encG n).length then 0 else n:Nat):Int))/\Hid (Blk w' rb #[.string s',.bool b'] 245/\(b'=true->s'=⟨#[]⟩)/\TextBad (toL s')/\s'.size<=1000000000/\Chg (fun k=>k=rb) wx w')):=fun wx rb hk=>by
  by_cases h:j<(encG n).length
  ·rw[if_pos h]
   have hno:rdN 4 1 0 (toL (⟨L.toArray⟩:ByteArray))=none:=by
    rw[hLt,hL,List.take_append_of_le_length (by omega)]
    exact rdN_short 4 1 0 n j h
   refine Calls.mono (rNumber_bad wx rb ⟨L.toArray⟩ false 268435455 hk (NoN.none hno) (by omega) (by rw[hLs];omega)) ?_
   rintro e w' ⟨rfl,a1,a2⟩
   exact ⟨_,_,rfl,a1,fun _=>rfl,Or.inl (NoN.none rfl),by decide,a2⟩
  ·rw[if_neg h]
   have e:L=encG n ++ (encG t.length ++ t).take (j-(encG n).length):=by
    rw[hL,List.take_append,List.take_of_length_le (by omega)]
   have hrd:rdN 4 1 0 (toL (⟨L.toArray⟩:ByteArray))=some (n,(encG t.length ++ t).take (j-(encG n).length)):=by
    rw[hLt,e,rdN_enc 3 1 0 n _ (by omega)];simp
   refine Calls.mono (rNumber_gen wx rb ⟨L.toArray⟩ n 0 268435455 _ hk hrd (Nat.zero_le _) (by omega) (by omega) (by rw[hLs];omega)) ?_
   rintro e w' ⟨s',rfl,a1,a2,a3⟩
   refine ⟨s',false,rfl,a1,fun h=>(by cases h), ?_, ?_,a3⟩
   ·rw[a2]
    exact text_bad t (by omega) _ (by rw[List.length_append] at hj;omega)
   ·have e2:s'.size=(toL s').length:=by simp[toL]
    rw[e2,a2,List.length_take];simp only[List.length_append];omega
 have H2:Hid (∀ wx rb s' b',(Blk wx rb #[.string s',.bool b'] 245/\(b'=true->s'=⟨#[]⟩)/\TextBad (toL s')/\s'.size<=1000000000)->Calls Tryz.prog 244 #[.pointer (some ⟨rb,0,none⟩)] wx fun e w'=>e=.returned (.string ⟨#[]⟩)/\Hid (RdW w' rb/\Chg (fun k=>k=rb) wx w')):=fun wx rb s' b' hk=>by
  have h3:=hk.2.2.1
  unfold TextBad at h3
  rw[toL_len] at h3
  exact rText_bad wx rb s' b' hk.1 hk.2.1 h3 hk.2.2.2
 generalize (if j<(encG n).length then 0 else n:Nat)=m at *
 clear hus hin hL hLl hLs hLt hsz hen het ht hn hj
 generalize (⟨L.toArray⟩:ByteArray)=M at *
 go_enter Tryz.func242,Tryz.ntmps242
 go_wp2_with fail
 refine Calls.mono HU.out ?_
 rintro e w1 ⟨rfl,hb1⟩
 simp only[Option.isSome_some]
 have HB1:Hid (Below w.heap.size w w1):=hb1
 clear HU hb1
 go_wp2_with fail
 refine Calls.mono (NewReader_any _ _) ?_
 rintro e w2 ⟨rfl,rfl⟩
 go_wp2_with fail
 refine Calls.mono (H1.out _ _ (Blk.new _ _ _)) ?_
 rintro e w3 ⟨s3,b3,rfl,K3⟩
 clear H1
 go_wp2_with fail
 refine Calls.mono (H2.out _ _ s3 b3 ⟨K3.out.1,K3.out.2.1,K3.out.2.2.1,K3.out.2.2.2.1⟩) ?_
 rintro e w4 ⟨rfl,K4⟩
 clear H2
 go_wp2_with fail
 refine Calls.mono (AtEnd_bad _ _ K4.out.1) ?_
 rintro e w5 ⟨rfl,rfl⟩
 go_wp2
 have hz:=HB1.out.size
 exact bodyPost_ret (v:=.tuple #[.int .i64 (m:Int),.string ⟨#[]⟩,.bool false]) (by simp[results,Tryz.results242,go_sem]) rfl ⟨rfl,rb_bel (rb_bel (HB1.out.alloc hz _) K3.out.2.2.2.2 hz) K4.out.2 hz⟩

theorem opens_torn {q:ByteArray} {n k:Nat} {t:Thk.Bs} (hq:toL q=(slotL n t).take k) (hk:k<(slotL n t).length) (hn:n<268435456) (ht:t.length<=800000):∃ m,Opens q (m,[],false):=by
 have hen:=encG_len 3 n (by omega)
 have het:=encG_len 3 t.length (by omega)
 have hsl:(slotL n t).length=(encG n ++ (encG t.length ++ t)).length+4:=by unfold slotL;rw[sealL_len]
 have hql:(toL q).length=k:=by rw[hq,List.length_take];omega
 have hsz:q.size<=900000:=by
  rw[<- toL_len,hql]
  simp only[List.length_append] at hsl
  omega
 cases hu:unsealL (toL q) with
 | none =>
  refine ⟨0,fun wx=>?_⟩
  refine Calls.mono (opened_none wx q hu hsz) ?_
  rintro e w' ⟨rfl,hb⟩
  exact ⟨_,rfl,rfl,hb⟩
 | some l =>
  have h4:4<=(toL q).length/\l=(toL q).take ((toL q).length-4):=by
   unfold unsealL at hu
   split at hu
   ·rename_i h;cases hu;exact ⟨h.1,rfl⟩
   ·cases hu
  have hl:l=(encG n ++ (encG t.length ++ t)).take (k-4):=by
   rw[h4.2,hql,hq,List.take_take,Nat.min_eq_left (by omega)]
   unfold slotL sealL
   rw[List.take_append_of_le_length (by omega)]
  refine ⟨if k-4<(encG n).length then 0 else n,fun wx=>?_⟩
  refine Calls.mono (opened_cut wx q hsz n t hn ht (k-4) (by omega) (by rw[hu,hl])) ?_
  rintro e w' ⟨rfl,hb⟩
  exact ⟨_,rfl,rfl,hb⟩

theorem diskCut (w:World) (db n:Nat) (t:Thk.Bs) (k:Nat) (s:ByteArray) (h:DiskS w db n t true (k:Int)) (hn:n+1<268435456) (hs:s.size<=800000) :
  Calls Tryz.prog 152 #[.pointer (some ⟨db,0,none⟩),.string s] w fun e w'=>e=.returned (.bool false)/\((k<(slotL (n+1) (toL s)).length/\DiskS w' db n t false (k:Int))\/((slotL (n+1) (toL s)).length<=k/\DiskS w' db (n+1) (toL s) false (k:Int)))/\Chg (fun x=>x=db) w w':=by
 obtain ⟨sl,O,hd,hO,h1,h2⟩:=h
 have hb:=best_of h1 h2
 have hw:=dWrite_cut w db sl k O s hd hO (by rw[hb];exact hn) hs
 rw[hb] at hw
 refine Calls.mono hw ?_
 rintro e w' ⟨rfl,⟨q,hq,hdq⟩,hc⟩
 have ne:(n+1+1) % 2≠(n+1) % 2:=by omega
 have e2:(n+1+1) % 2=n % 2:=by omega
 have ne2:n % 2≠(n+1) % 2:=by omega
 refine ⟨rfl, ?_,hc⟩
 by_cases hk:k<(slotL (n+1) (toL s)).length
 ·obtain ⟨m,hm⟩:=opens_torn hq hk hn (by rw[toL_len];exact hs)
  refine Or.inl ⟨hk,_,fun i=>if i=(n+1) % 2 then (m,[],false) else O i,hdq,fun i hi=>?_, ?_,fun h9=>?_⟩
  ·unfold putS
   by_cases e:i=(n+1) % 2
   ·simp only[e,if_true];exact hm
   ·simp only[e,if_false];exact hO i hi
  ·simp only[ne2,if_false];exact h1
  ·simp only[if_true] at h9;cases h9
 ·refine Or.inr ⟨by omega,_,fun i=>if i=(n+1) % 2 then (n+1,toL s,true) else O i,hdq,fun i hi=>?_,by simp,fun _=>?_⟩
  ·unfold putS
   by_cases e:i=(n+1) % 2
   ·simp only[e,if_true]
    have hk2:(slotL (n+1) (toL s)).length<=k:=Nat.le_of_not_lt hk
    refine opens_whole ?_ hn (by rw[toL_len];exact hs)
    rw[show toL q=(slotL (n+1) (toL s)).take k from hq,List.take_of_length_le hk2]
   ·simp only[e,if_false];exact hO i hi
  ·simp only[ne,if_false]
   rw[e2,h1]
   exact Nat.lt_succ_self n
end Go.Proofs.YtfmmllpjgkgeaaaGreatDoor

