import Derived.Test.YtfmmllpjgkgeaaaGreatDoorPartV13
set_option linter.unusedVariables false
set_option linter.unusedSimpArgs false
set_option maxHeartbeats 16000000
set_option maxRecDepth 100000
namespace Go.Proofs.YtfmmllpjgkgeaaaGreatDoor
open Go.RowKit Go.Maps Go.WideMaps

theorem Glob.chg {M:Nat->Prop} {w w':World} (h:Glob w) (hc:Chg M w w') (hM:∀ k,M k->3<k):Glob w':=by
 have hb:Below 4 w w':=⟨hc.os,hc.tape,hc.output,hc.size,fun k hk=>hc.block k (by have:=h.size;omega) (fun hm=>by have:=hM k hm;omega)⟩
 obtain ⟨⟨m,h1⟩,⟨e1,h2,h2'⟩,⟨e2,h3,h3'⟩,h4,h5⟩:=h
 refine ⟨⟨m,(hb.cell (p:=⟨0,0,none⟩) (by decide)).trans h1⟩,⟨e1,(hb.cell (p:=⟨1,0,none⟩) (by decide)).trans h2,h2'⟩,⟨e2,(hb.cell (p:=⟨2,0,none⟩) (by decide)).trans h3,h3'⟩, ?_,Nat.lt_of_lt_of_le h5 hb.size⟩
 exact var?_below (g:=3) hb (by kernel_rfl) (by decide) h4

theorem NewReader_any (w:World) (s:ByteArray):Calls Tryz.prog 124 #[.string s] w fun e w'=>e=.returned (.pointer (some ⟨w.heap.size,0,none⟩))/\w'=w.alloc (.cells #[.string s,.bool false] 245):=by
 go_enter Tryz.func124,Tryz.ntmps124
 go_wp2
 go_ret
 exact ⟨rfl,rfl⟩
theorem AtEnd_any (w:World) (rb:Nat) (s:ByteArray) (h:RdP w rb s) (hs:toL s=[]):Calls Tryz.prog 168 #[.pointer (some ⟨rb,0,none⟩)] w fun e w'=>e=.returned (.bool true)/\w'=w:=by
 have hs':s=⟨#[]⟩:=toL_inj hs
 subst hs'
 have c0:=(h.cell 0).trans rfl
 have c1:=(h.cell 1).trans rfl
 clear h hs
 go_enter Tryz.func168,Tryz.ntmps168
 go_wp2
 go_ret
 exact ⟨rfl,rfl⟩

def okR (r:Nat × Nat):Prop:=(who r.1<=5/\1<=nth r.1/\nth r.1<=501)/\1<=r.2/\r.2<=505/\nth r.1+r.2<=502
def itsC (its:List (Nat × Thk.Bs)) (j:Nat):Nat->Option Value:=fun d=>((its.take j).reverse.find? (fun x=>x.1 == d)).bind (fun x=>match Thk.read x.2 with | .inr c=>some (chV c) | .inl _=>none)

end Go.Proofs.YtfmmllpjgkgeaaaGreatDoor
namespace Go.Proofs.YtfmmllpjgkgeaaaGreatDoor
open Go.RowKit Go.Maps Go.ChangeMaps Go.MapKept

theorem dotE_list:∀ l:List Value,(∀ v∈l,∃ n,v=dotE n)->∃ ns:List Nat,l=ns.map dotE
 | [],_=>⟨[],rfl⟩
 | v :: l,h=>by
  obtain ⟨n,rfl⟩:=h v (by simp)
  obtain ⟨ns,rfl⟩:=dotE_list l (fun v hv=>h v (by simp[hv]))
  exact ⟨n :: ns,rfl⟩
theorem im_count {w:World} {v:Value} {N:Nat} {It:Nat->Option Value} (h:MapO Tryz.prog 134 w v N (im It)):∃ ns:List Nat,ns.Nodup/\ns.length=N/\∀ n,n∈ns↔It n≠none:=by
 rcases h with ⟨rfl,rfl,h⟩ | ⟨b,rfl,h⟩
 ·exact ⟨[],List.nodup_nil,rfl,fun n=>⟨fun h=>(List.not_mem_nil h).elim,fun hn=>by rw[<- im_dot It n,h] at hn;exact absurd rfl hn⟩⟩
 ·obtain ⟨l,h1,h2,h3⟩:=h.count kDot
  obtain ⟨ns,rfl⟩:=dotE_list l (fun v hv=>by
   have:=(h3 v).1 hv
   cases e:im It v with
   | none=>exact absurd e this
   | some u=>obtain ⟨n,hn,_⟩:=im_shape e;exact ⟨n,hn⟩)
  refine ⟨ns, ?_,by simpa using h2,fun n=>?_⟩
  ·exact (List.nodup_iff_pairwise_ne.1 h1 |> List.pairwise_map.1).imp (fun h e=>h (by rw[e]))
  ·rw[<- im_dot It n,<- h3]
   constructor
   ·intro hn;exact List.mem_map_of_mem hn
   ·intro hn
    obtain ⟨k,hk,e⟩:=List.mem_map.1 hn
    rw[<- dotE_inj e];exact hk
theorem own_base {w:World} {B B':Nat} {e:TypeId} {size:Nat} {v:Value} {n:Nat} {xs:List Value} (h:w.ownsRow B e size v n xs) (hB:B'<=B):w.ownsRow B' e size v n xs:=by
 obtain ⟨hl,h⟩:=h
 refine ⟨hl,h.imp_right ?_⟩
 rintro ⟨g,cap,cur,h1,h2,h3⟩
 exact ⟨g,cap,cur,h1,Nat.le_trans hB h2,h3⟩

theorem sRuns_any (w:World) (io co lo:Option Nat) (c:Nat->Nat) (L:Nat->Bool) (h:CtxV w (.map co) (.map lo) c L) :
  Calls Tryz.prog 221 #[.agg #[.map io,.map co,.map lo]] w fun e w'=>∃ v ns rs,e=.returned v/\ns.Nodup/\(∀ d,d∈ns↔1<=nth d/\inK c L d)/\Runs ns ns.length rs/\w'.ownsRow w.heap.size 250 3 v rs.length (rcells rs)/\Below w.heap.size w w':=by
 have Hc:Hid (∀ ob,Calls Tryz.prog 268 #[.agg #[.map co,.map lo]] (w.alloc ob) fun e w'=>∃ v ns rs,e=.returned v/\ns.Nodup/\(∀ d,d∈ns↔1<=nth d/\inK c L d)/\Runs ns ns.length rs/\w'.ownsRow w.heap.size 250 3 v rs.length (rcells rs)/\Below w.heap.size w w'):=fun ob=>by
  have hb:Below w.heap.size w (w.alloc ob):=(Below.refl _ w).alloc (Nat.le_refl _) _
  refine Calls.mono (runs_any _ co lo c L (h.below hb)) ?_
  rintro e w' ⟨v,ns,rs,rfl,h1,h2,h3,h4,h5⟩
  exact ⟨v,ns,rs,rfl,h1,h2,h3,own_base h4 (by simp),hb.trans (h5.mono hb.size)⟩
 clear h
 go_enter Tryz.func221,Tryz.ntmps221
 go_wp2_with fail
 refine Calls.mono (Hc.out _) ?_
 rintro e w2 ⟨v,ns,rs,rfl,h1,h2,h3,h4,h5⟩
 have HH:Hid (_):=And.intro h1 (And.intro h2 (And.intro h3 (And.intro h4 h5)))
 clear h1 h2 h3 h4 h5
 go_wp2
 go_ret
 exact ⟨v,ns,rs,rfl,HH.out⟩

theorem sItems_any (w:World) (io co lo:Option Nat) (N:Nat) (m:Value->Option Value) (h:MapO Tryz.prog 134 w (.map io) N m) :
  Calls Tryz.prog 223 #[.agg #[.map io,.map co,.map lo]] w fun e w'=>e=.returned (.int .i64 (N:Int))/\Below w.heap.size w w':=by
 have HL:Hid (∀ ob ty,(Builtin.len_ #[96] ty #[.map io]).run Tryz.prog (w.alloc ob)=.ok (.int .i64 (N:Int)) (w.alloc ob)):=fun ob ty=>(h.below ((Below.refl _ w).alloc (Nat.le_refl _) _)).len Tryz.underlying96 ty
 have hb:∀ ob,Below w.heap.size w (w.alloc ob):=fun ob=>(Below.refl _ w).alloc (Nat.le_refl _) _
 clear h
 go_enter Tryz.func223,Tryz.ntmps223
 go_wp2_with fail
 rw[HL.out]
 go_wp2
 go_ret
 exact ⟨rfl,hb _⟩

end Go.Proofs.YtfmmllpjgkgeaaaGreatDoor
namespace Go.Proofs.YtfmmllpjgkgeaaaGreatDoor
open Go.RowKit Go.Maps

structure OutG (v:Value) (w:World) (v':Value) (w':World):Prop where
 chg:Chg (fun k=>v.ownBlock=some k) w w'
 loc:∀ g,v'.ownBlock=some g->v.ownBlock=some g\/w.heap.size<=g
theorem OutG.trans {v v1 v2:Value} {w w1 w2:World} (h:OutG v w v1 w1) (k:OutG v1 w1 v2 w2):OutG v w v2 w2:=by
 have hs:=h.chg.size
 refine ⟨⟨k.chg.os.trans h.chg.os,k.chg.tape.trans h.chg.tape,k.chg.output.trans h.chg.output,Nat.le_trans hs k.chg.size,fun j hj hn=>?_⟩,fun g hg=>?_⟩
 ·refine (k.chg.block j (by omega) (fun e=>?_)).trans (h.chg.block j hj hn)
  rcases h.loc j e with h1 | h1
  ·exact hn h1
  ·omega
 ·rcases k.loc g hg with h1 | h1
  ·exact h.loc g h1
  ·right;omega
theorem OutG.of_below {v:Value} {w w':World} (hb:Below w.heap.size w w'):OutG v w v w':=⟨Chg.of_below hb,fun _ h=>Or.inl h⟩
theorem OutG.heap {v:Value} {w w':World} (hx:w'.heap=w.heap) (ho:w'.os=w.os) (ht:w'.tape=w.tape) (hp:w'.output=w.output):OutG v w v w' :=
 ⟨⟨ho,ht,hp,by rw[hx];exact Nat.le_refl _,fun k _ _=>by rw[hx]⟩,fun _ h=>Or.inl h⟩
theorem OutG.app0 {v v':Value} {w w':World} (hg:w.grownBy w' v.ownBlock) (hl:v'.ownBlock=v.ownBlock\/v'.ownBlock=some w.heap.size):OutG v w v' w':=by
 refine ⟨(Chg.refl _ w).grown hg (fun k e=>Or.inl e),fun g h=>?_⟩
 rcases hl with e | e
 ·exact Or.inl (e ▸ h)
 ·rw[e] at h;cases h;exact Or.inr (Nat.le_refl _)
theorem OutG.app {v v':Value} {w w':World} {o:Obj} (hg:(w.alloc o).grownBy w' v.ownBlock) (hl:v'.ownBlock=v.ownBlock\/v'.ownBlock=some (w.alloc o).heap.size):OutG v w v' w' :=
 (OutG.of_below ((Below.refl _ w).alloc (Nat.le_refl _) o)).trans (OutG.app0 hg hl)
theorem OutG.blk {B:Nat} {v v':Value} {l:Thk.Bs} {w w':World} {b:Nat} {cs:Array Value} {t:TypeId} (h:OutG v w v' w') (ho:OutV B w v l) (k:Blk w b cs t) (ht:t≠5):Blk w' b cs t:=by
 refine k.chg h.chg (fun hm=>ownsRow_ne ho (fun cur fz e=>?_) hm)
 rw[show w.heap[b]? = _ from k] at e
 cases e
 exact ht rfl
theorem OutG.outF {B:Nat} {v v':Value} {l:Thk.Bs} {w w':World} (h:OutG v w v' w') (ho:OutV B w v l):OutF B w w':=by
 refine h.chg.mono (fun k hk e=>?_)
 rcases ho.2 with ⟨rfl,_⟩ | ⟨g,cap,cur,rfl,hB,hg,_⟩
 ·cases e
 ·cases e;exact ⟨hB,_,_,hg⟩

section
variable {P:Program} {w:World}
open Go.Lib in
theorem run_str_at (base:Nat) (t u ty e:TypeId) (i:TypeInfo) (ht:P.underlying t=some (.slice e)) (hu:P.underlying u=some .string) (hi:P.info? e=some i) (hz:i.zero=some (.int .u8 0))
  (hsize:i.size=1) (hby:i.bytes=1) (v:Value) (n:Nat) (xs:List Value) (hown:w.ownsRow base e 1 v n xs) (s:ByteArray) (h63:n+s.size<=maxLen) (hbytes:n+s.size<=140737488355328) (hbase:base<=w.heap.size) :
  ∃ v' w',(Builtin.append_ #[t,u] ty #[v,.string s]).run P w=.ok v' w'/\w'.ownsRow base e 1 v' (n+s.size) (xs ++ strCells s)/\w.grownBy w' v.ownBlock/\(v'.ownBlock=v.ownBlock\/v'.ownBlock=some w.heap.size):=by
 obtain ⟨v',w',hr,h2,h3,h4⟩:=run_append_own_string (P:=P) w base t u ty e i ht hu hi hz hsize hby v n xs hown s h63 hbytes hbase
 refine ⟨v',w',hr,h2,h3, ?_⟩
 have hsmall:n+s.size<=9223372036854775807:=by simp only[maxLen] at h63;omega
 have hxl:xs.length=n:=by simpa using hown.1
 rcases hown.2 with ⟨rfl,rfl⟩ | ⟨g,cap,cur,rfl,hbg,hg,hnc,hcm,hcs,htake⟩
 ·by_cases hm:s.size=0
  ·left;rw[h4.2 ⟨rfl,hm⟩]
  ·right
   have hr2:=run_append_nil_string (P:=P) w t u ty e i (.int .u8 0) ht hu hi hz s (by omega) (by omega) (by rw[hby];omega)
   rw[hr] at hr2
   injection hr2 with h5 h6
   rw[h5];(first | done | rfl)
 ·by_cases hroom:n+s.size<=cap
  ·left
   have hcs':cur.size=cap:=by simpa using hcs
   have hr2:=run_append_room_string (P:=P) w t u ty e i ht hu hi hsize g n cap cur hg s hroom (by omega)
   rw[hr] at hr2
   injection hr2 with h5 h6
   rw[h5];(first | done | rfl)
  ·right
   have holds:∀ j u,xs[j]? = some u->w.cell? ((⟨g,0,none⟩:Addr).add j)=some u:=hown.cells (g:=g) rfl
   have hr2:=run_append_grow_string (P:=P) w t u ty e i (.int .u8 0) ht hu hi hz ⟨g,0,none⟩ n cap xs (by rw[hsize];simpa using hxl) holds s (by omega) (by omega) (by rw[hby];exact growslice_fits (by omega) (by omega))
   rw[hr] at hr2
   injection hr2 with h5 h6
   rw[h5];(first | done | rfl)
theorem wpList_str_at {ops:Array Oper} {rest:List Oper} {o:Oper} {a:Act} {Q:Exit->Act->World->Prop} (hgd:o.guard=none) (sl x:Operand) (t u:TypeId)
  (ho:o.op=.call { callee:=.builtin .append,args:=#[sl,x],argTypes:=#[t,u] })
  (base:Nat) (e:TypeId) (i:TypeInfo) (ht:P.underlying t=some (.slice e)) (hu:P.underlying u=some .string) (hi:P.info? e=some i) (hz:i.zero=some (.int .u8 0)) (hsize:i.size=1) (hby:i.bytes=1)
  (v:Value) (n:Nat) (xs:List Value) (hs:a.eval sl=v) (hown:w.ownsRow base e 1 v n xs) (s:ByteArray) (hx:a.eval x=.string s) (h63:n+s.size<=maxLen) (hbytes:n+s.size<=140737488355328) (hbase:base<=w.heap.size)
  (h:∀ v' w',w'.ownsRow base e 1 v' (n+s.size) (xs ++ Lib.strCells s)->w.grownBy w' v.ownBlock->(v'.ownBlock=v.ownBlock\/v'.ownBlock=some w.heap.size)->wpList P ops Q rest (a.put o.dst v') w'):wpList P ops Q (o :: rest) a w:=by
 refine wpList_plain hgd fun K hK=>?_
 obtain ⟨v',w',hr,h2,h3,h4⟩:=run_str_at (P:=P) base t u o.type e i ht hu hi hz hsize hby v n xs hown s h63 hbytes hbase
 unfold Oper.wp execOp
 simp only[ho,resolve,invoke,builtin,Sem.run_bind,Sem.run_pure,Result.andThen_ok,List.map_toArray,List.map_cons,List.map_nil,hs,hx,hr]
 exact hK _ _ (h v' w' h2 h3 h4)
end

theorem Number_loc (B:Nat) (w:World) (v:Value) (l:Thk.Bs) (n:Nat) (h:OutV B w v l) (hB:B<=w.heap.size) (hl:l.length<=1000000) (hn:n<16384) :
  Calls Tryz.prog 220 #[v,.int .i64 (n:Int)] w fun e w'=>∃ v',e=.returned v'/\OutV B w' v' (l ++ encN n)/\OutG v w v' w':=by
 obtain ⟨i0,hi,hz0,hz1,hz2⟩:=info_parts Tryz.infoU8
 have H:Hid (OutV B w v l):=h
 have h63:l.length+1<=maxLen:=by unfold maxLen;omega
 have h64:(l.length+1)*1<=140737488355328:=by omega
 by_cases hs:n<128
 ·have hconv:IntKind.u8.wrap (n:Int)=n:=wrap_u8 n (by omega)
  have hgt:((n:Int) > 127)=False:=by simp;omega
  have He:Hid (bsV (l ++ encN n)=bsV l ++ [.int .u8 (n:Int)]):=by
   unfold Hid
   rw[encN_one hs,bsV_app]
   simp[bsV,UInt8.toNat_ofNat']
   omega
  clear h
  go_enter Tryz.func220,Tryz.ntmps220
  go_wp2_with fail
  go_loopg [0,1] 0 (fun g v0 v1 wx=>v0=v/\v1=.int .i64 (n:Int)/\wx=w)
  case atStart=>exact ⟨rfl,rfl,rfl⟩
  case round =>
   obtain ⟨rfl,rfl,rfl⟩:=hrel
   go_wp2_with (first | (at_builtin;refine wpList_append_own_at _ rfl (.tmp 16) (.tmp 19) 93 rfl B 5 i0 (.int .u8 0) 1 1 Tryz.underlying93 hi hz0 hz1 hz2 rfl (by decide) _ _ _ rfl (H.out.alloc _) ⟨wr.heap.size,0,none⟩ 1 1 [.int .u8 (n:Int)] rfl rfl (cell_one_new _ _ _) (by intro u hu;simp at hu;subst hu;rfl) h63 h64 (by simp;omega) ?_;intro v6 w6 ho6 hg6 hn6 hl6))
   go_ret
   refine ⟨_,rfl, ?_,OutG.app hg6 hl6⟩
   unfold OutV
   rw[He.out,List.length_append,encN_one hs]
   exact ho6
 ·have hb0:n % 128+128<256:=by omega
  obtain ⟨q,hq⟩:∃ q,n / 128=q:=⟨_,rfl⟩
  obtain ⟨r,hr⟩:∃ r,n % 128+128=r:=⟨_,rfl⟩
  have hlow:bits .and .i64 (n:Int) 127=(n:Int) % 128:=by rw[low_i64 n (by omega)];omega
  have hmore:bits .or .i64 ((n:Int) % 128) 128=(r:Int):=by
   have:=more_i64 (n % 128) (by omega)
   rw[<- hr,<- this]
   congr 1
  have hcv0:(r:Int) % 256=r:=by omega
  have hcv1:(q:Int) % 256=q:=by omega
  have hdiv:(n:Int) / 128=(q:Int):=by omega
  have hgt:(n:Int) > 127:=by omega
  have hd128:q<128:=by omega
  have He1:Hid (bsV (l ++ [UInt8.ofNat r])=bsV l ++ [.int .u8 (r:Int)]):=by
   unfold Hid
   rw[bsV_app]
   simp[bsV,UInt8.toNat_ofNat']
   omega
  have He2:Hid (bsV (l ++ encN n)=bsV (l ++ [UInt8.ofNat r]) ++ [.int .u8 (q:Int)]):=by
   unfold Hid
   rw[encN_two hs,hr,hq,bsV_app,bsV_app,List.append_assoc]
   simp[bsV,UInt8.toNat_ofNat']
   omega
  have h65:l.length+1+1<=maxLen:=by unfold maxLen;omega
  have h66:(l.length+1+1)*1<=140737488355328:=by omega
  clear hq hr hb0
  clear h
  go_enter Tryz.func220,Tryz.ntmps220
  go_wp2_with fail
  go_loopg [0,1] 1 (fun g v0 v1 wx=>(g=1/\v0=v/\v1=.int .i64 (n:Int)/\wx=w)\/(g=0/\v1=.int .i64 (q:Int)/\wx.ownsRow B 5 1 v0 (l.length+1) (bsV (l ++ [UInt8.ofNat r]))/\OutG v w v0 wx))
  case atStart=>exact Or.inl ⟨rfl,rfl,rfl,rfl⟩
  case round =>
   rcases hrel with ⟨hg,rfl,rfl,rfl⟩ | ⟨hg,rfl,hown,hF⟩
   ·go_wp2_with (first | (at_builtin;refine wpList_append_own_at _ rfl (.tmp 7) (.tmp 12) 93 rfl B 5 i0 (.int .u8 0) 1 1 Tryz.underlying93 hi hz0 hz1 hz2 rfl (by decide) _ _ _ rfl (H.out.alloc _) ⟨wr.heap.size,0,none⟩ 1 1 [.int .u8 (r:Int)] rfl rfl (cell_one_new _ _ _) (by intro u hu;simp at hu;subst hu;rfl) h63 h64 (by simp;omega) ?_;intro v6 w6 ho6 hg6 hn6 hl6;have HF6:=OutG.app hg6 hl6;clear hg6 hl6))
    go_roundg 0
    case measure=>omega
    case rel=>exact Or.inr ⟨rfl,rfl,by rw[He1.out];exact ho6,HF6⟩
   ·have HF:Hid (OutG v w u0 wr):=hF
    have HV:Hid (OutV B wr u0 (l ++ [UInt8.ofNat r])):=by unfold Hid OutV;rw[List.length_append];exact hown
    have hBr:B<=wr.heap.size:=Nat.le_trans hB hF.chg.size
    have hgt2:¬((q:Int) > 127):=by omega
    have HO:Hid (∀ o,(wr.alloc o).ownsRow B 5 1 u0 (l.length+1) (bsV (l ++ [UInt8.ofNat r]))):=fun o=>hown.alloc o
    clear hF hown
    go_wp2_with (first | (at_builtin;refine wpList_append_own_at _ rfl (.tmp 16) (.tmp 19) 93 rfl B 5 i0 (.int .u8 0) 1 1 Tryz.underlying93 hi hz0 hz1 hz2 rfl (by decide) _ _ _ rfl (HO.out _) ⟨wr.heap.size,0,none⟩ 1 1 [.int .u8 (q:Int)] rfl rfl (cell_one_new _ _ _) (by intro u hu;simp at hu;subst hu;rfl) h65 h66 (by simp;omega) ?_;intro v6 w6 ho6 hg6 hn6 hl6;have HF6:=OutG.app hg6 hl6;clear hg6 hl6))
    go_ret
    refine ⟨_,rfl, ?_,HF.out.trans HF6⟩
    unfold OutV
    rw[He2.out,List.length_append,encN_two hs]
    exact ho6
theorem wdot_loc (B:Nat) (w:World) (v:Value) (l:Thk.Bs) (d:Nat) (h:OutV B w v l) (hB:B<=w.heap.size) (hl:l.length<=900000) (hd:who d<=5) :
  Calls Tryz.prog 222 #[v,dotE d] w fun e w'=>∃ v',e=.returned v'/\OutV B w' v' (l ++ encD d)/\OutG v w v' w':=by
 have hn:=nth_lt d
 have He:Hid (l ++ encD d=l ++ encN (who d) ++ encN (nth d)):=by unfold Hid encD;rw[List.append_assoc]
 rw[He.out]
 unfold dotE
 generalize who d=a at *
 generalize nth d=n at *
 have hen:=encN_len a
 have H0:Hid (OutV B (w.alloc (.cells #[.int .i64 (a:Int),.int .i64 (n:Int)] 134)) v l):=World.ownsRow.alloc h _
 have kb:=Blk.new w #[.int .i64 (a:Int),.int .i64 (n:Int)] 134
 have HF0:Hid (OutG v w v (w.alloc (.cells #[.int .i64 (a:Int),.int .i64 (n:Int)] 134))):=OutG.of_below ((Below.refl _ w).alloc (Nat.le_refl _) _)
 clear h
 go_enter Tryz.func222,Tryz.ntmps222
 go_wp2_with fail
 generalize w.alloc (.cells #[.int .i64 (a:Int),.int .i64 (n:Int)] 134)=w0 at *
 have c0:w0.cell? ⟨w.heap.size,0,none⟩=some (.int .i64 (a:Int)):=(kb.cell 0).trans rfl
 have c1:w0.cell? ⟨w.heap.size,1,none⟩=some (.int .i64 (n:Int)):=(kb.cell 1).trans rfl
 have HN:∀ (m:Nat) (lu:Thk.Bs) wx w3 u,(OutV B w3 u lu/\OutG v w u w3/\Blk w3 w.heap.size #[.int .i64 (a:Int),.int .i64 (n:Int)] 134)->lu.length<=1000000->m<16384->wx.heap=w3.heap->wx.os=w3.os->wx.tape=w3.tape->wx.output=w3.output->Calls Tryz.prog 220 #[u,.int .i64 (m:Int)] wx fun e w'=>∃ v',e=.returned v'/\(OutV B w' v' (lu ++ encN m)/\OutG v w v' w'/\Blk w' w.heap.size #[.int .i64 (a:Int),.int .i64 (n:Int)] 134)/\w'.cell? ⟨w.heap.size,0,none⟩=some (.int .i64 (a:Int))/\w'.cell? ⟨w.heap.size,1,none⟩=some (.int .i64 (n:Int)):=fun m lu wx w3 u hall hlu hm hx ho ht hp=>by
  obtain ⟨hu,hF,hk⟩:=hall
  have hF':OutG v w u wx:=hF.trans (OutG.heap hx ho ht hp)
  have kx:Blk wx w.heap.size #[.int .i64 (a:Int),.int .i64 (n:Int)] 134:=by unfold Blk;rw[hx];exact hk
  refine Calls.mono (Number_loc B wx u _ m (hu.heap hx) (Nat.le_trans hB hF'.chg.size) hlu hm) ?_
  rintro e w' ⟨v',rfl,h1,h2⟩
  have kx':=h2.blk (hu.heap hx) kx (by decide)
  exact ⟨v',rfl,⟨h1,hF'.trans h2,kx'⟩,(kx'.cell 0).trans rfl,(kx'.cell 1).trans rfl⟩
 have HN1:Hid (∀ wx,wx.heap=w0.heap->wx.os=w0.os->wx.tape=w0.tape->wx.output=w0.output->Calls Tryz.prog 220 #[v,.int .i64 (a:Int)] wx _):=fun wx=>HN a l wx w0 v ⟨H0.out,HF0.out,kb⟩ (by omega) (by omega)
 have HN2:Hid (∀ wx w3 u,(OutV B w3 u (l ++ encN a)/\OutG v w u w3/\Blk w3 w.heap.size #[.int .i64 (a:Int),.int .i64 (n:Int)] 134)->wx.heap=w3.heap->wx.os=w3.os->wx.tape=w3.tape->wx.output=w3.output->Calls Tryz.prog 220 #[u,.int .i64 (n:Int)] wx _):=fun wx w3 u hall=>HN n _ wx w3 u hall (by simp;omega) (by omega)
 clear kb hen H0 HF0 HN
 go_region_held3 (fun w'=>w'.cell? ⟨w.heap.size,0,none⟩=some (.int .i64 (a:Int))/\w'.cell? ⟨w.heap.size,1,none⟩=some (.int .i64 (n:Int))) (refine ⟨?_, ?_⟩ <;> (first | assumption | exact c0 | exact c1)) (first | (go_at_call 220;refine Calls.mono (HN2.out _ w3 _ h3 rfl rfl rfl rfl) ?_;rintro e w4 ⟨v4,rfl,h4,f0,f1⟩) | (go_at_call 220;refine Calls.mono (HN1.out _ rfl rfl rfl rfl) ?_;rintro e w3 ⟨v3,rfl,h3,e0,e1⟩))
 go_wp2_with fail
 go_ret
 exact ⟨_,rfl,h4.1,h4.2.1⟩

theorem wText_loc (B:Nat) (w:World) (v:Value) (l:Thk.Bs) (s:ByteArray) (h:OutV B w v l) (hB:B<=w.heap.size) (hl:l.length<=900000) (hs:s.size<16384) :
  Calls Tryz.prog 224 #[v,.string s] w fun e w'=>∃ v',e=.returned v'/\OutV B w' v' (l ++ encN s.size ++ toL s)/\OutG v w v' w':=by
 obtain ⟨i0,hi,hz0,hz1,hz2⟩:=info_parts Tryz.infoU8
 have hen:=encN_len s.size
 have HN:Hid (_):=Number_loc B w v l s.size h hB (by omega) hs
 clear h
 go_enter Tryz.func224,Tryz.ntmps224
 go_wp2_with fail
 refine Calls.mono HN.out ?_
 rintro e w1 ⟨v1,rfl,h1,hF1⟩
 have hB1:B<=w1.heap.size:=Nat.le_trans hB hF1.chg.size
 have HV1:Hid (OutV B w1 v1 (l ++ encN s.size)):=h1
 have HF1:Hid (OutG v w v1 w1):=hF1
 have h63:(l ++ encN s.size).length+s.size<=maxLen:=by unfold maxLen;simp;omega
 have h64:(l ++ encN s.size).length+s.size<=140737488355328:=by simp;omega
 clear h1 hF1 HN
 go_wp2_with (first | (at_builtin;refine wpList_str_at rfl (.tmp 8) (.tmp 9) 93 9 rfl B 5 i0 Tryz.underlying93 Tryz.underlying9 hi hz0 hz1 hz2 _ _ _ rfl HV1.out s rfl h63 h64 hB1 ?_;intro v6 w6 ho6 hg6 hl6))
 go_ret
 refine ⟨_,rfl, ?_,HF1.out.trans (OutG.app0 hg6 hl6)⟩
 unfold OutV
 rw[bsV_app,<- strCells_bsV,List.length_append]
 exact ho6
end Go.Proofs.YtfmmllpjgkgeaaaGreatDoor

