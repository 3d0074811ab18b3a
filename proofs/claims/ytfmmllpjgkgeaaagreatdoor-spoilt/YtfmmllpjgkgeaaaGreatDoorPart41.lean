import Derived.Test.YtfmmllpjgkgeaaaGreatDoorPart38
set_option linter.unusedVariables false
set_option linter.unusedSimpArgs false
namespace Go.Proofs.YtfmmllpjgkgeaaaGreatDoor
theorem PlayTo.evs {n c:Nat} {s s':St} {a:ActD} (h:KOk n c s) (hc:c<=400) (hp:PlayTo n s a s'):s'.es.length=s.es.length+evMore a:=by
 have hi:=pickN_lt a.i (show 1<=n by have:=h.n2;omega)
 have hj:=pickN_lt a.j (show 1<=n by have:=h.n2;omega)
 have hfl:=h.fl
 unfold PlayTo at hp
 unfold evMore
 by_cases h3:pickN a.kd 8<3
 ·rw[if_pos h3] at hp ⊢
  obtain ⟨e,he,rfl⟩:=hp
  simp
 ·rw[if_neg h3] at hp ⊢
  split at hp
  ·split at hp
   ·rw[hp];(first | done | rfl)
   ·rw[hp.1];(first | done | rfl)
  ·split at hp
   ·split at hp
    ·rw[hp];(first | done | rfl)
    ·rw[hp.1];(first | done | rfl)
   ·rw[hp];(first | done | rfl)

theorem bits_sub {a b:List Bool} (h:∀ i,a.getD i false=true->b.getD i false=true):cnt a<=cnt b :=
 (cnt_lt_or a b (max a.length b.length) h (by omega) (by omega)).1
theorem bits_same {a b:List Bool} (h:∀ i,a.getD i false=b.getD i false):cnt a=cnt b :=
 Nat.le_antisymm (bits_sub fun i hi=>by rw[<- h i];exact hi) (bits_sub fun i hi=>by rw[h i];exact hi)
theorem delK_up (a b:List Bool):cnt a<=cnt (delK a b):=bits_sub fun i hi=>by rw[delK_getD,bothL_getD,hi];(first | done | rfl)
theorem delK_old {a b:List Bool} (h:∀ i,b.getD i false=true->a.getD i false=true):delK a b=a:=by
 have:cnt (bothL a b)=cnt a:=bits_same fun i=>by
  rw[bothL_getD]
  cases hb:b.getD i false
  ·simp
  ·rw[h i hb];(first | done | rfl)
 unfold delK
 rw[if_neg (by omega)]

theorem PlayTo.cnts {n c:Nat} {s s':St} {a:ActD} (h:KOk n c s) (hc:c<=400) (hp:PlayTo n s a s') (k:Nat) :
  cnt (s.kn.getD k [])+(if pickN a.kd 8<3/\k=pickN a.i n then 1 else 0)<=cnt (s'.kn.getD k [])/\(pickN a.kd 8≠5->pickN a.kd 8≠6->cnt (s'.kn.getD k [])=cnt (s.kn.getD k [])+(if pickN a.kd 8<3/\k=pickN a.i n then 1 else 0)):=by
 have hi:=pickN_lt a.i (show 1<=n by have:=h.n2;omega)
 have hj:=pickN_lt a.j (show 1<=n by have:=h.n2;omega)
 have hkd:=pickN_lt a.kd (show 1<=8 by omega)
 have hfl:=h.fl
 have hln:=h.len
 unfold PlayTo at hp
 split at hp
 ·rename_i h3
  obtain ⟨e,he,rfl⟩:=hp
  simp only
  rw[getD_set']
  by_cases e1:k=pickN a.i n
  ·rw[if_pos ⟨h3,e1⟩,if_pos ⟨e1.symm,by rw[h.len];exact hi⟩,cnt_more,e1]
   exact ⟨Nat.le_refl _,fun _ _=>rfl⟩
  ·rw[if_neg (fun h=>e1 h.2),if_neg (fun h=>e1 h.1.symm)]
   exact ⟨Nat.le_refl _,fun _ _=>rfl⟩
 ·rename_i h3
  have e0:¬(pickN a.kd 8<3/\k=pickN a.i n):=fun h=>h3 h.1
  rw[if_neg e0,Nat.add_zero]
  split at hp
  ·split at hp
   ·rw[hp];exact ⟨Nat.le_refl _,fun _ _=>rfl⟩
   ·rw[hp.2.1];exact ⟨Nat.le_refl _,fun _ _=>rfl⟩
  ·rename_i h5
   split at hp
   ·rename_i h7
    refine ⟨?_,fun h5' h6'=>by omega⟩
    split at hp
    ·rw[hp];exact Nat.le_refl _
    ·rename_i hne
     obtain ⟨g,hg,hf⟩:=frNo_pick (k:=a.k) hne
     by_cases ha:g.ack=0
     ·obtain ⟨h1,h2,b,_⟩:=hp.new hf ha (by omega)
      rw[h2,getD_set']
      split
      ·rename_i e1
       rw[<- e1.1];exact delK_up _ _
      ·exact Nat.le_refl _
     ·rw[hp.old hf (by omega)];exact Nat.le_refl _
   ·rw[hp];exact ⟨Nat.le_refl _,fun _ _=>rfl⟩
theorem knowsR_in {s:St} {k:Nat} (h:k<s.kn.length):knowsR s.kn (k:Int)=((cnt (s.kn.getD k []):Int),0):=by
 unfold knowsR;rw[if_pos ⟨by omega,by omega⟩,Int.toNat_natCast]
end Go.Proofs.YtfmmllpjgkgeaaaGreatDoor
namespace Go.Proofs.YtfmmllpjgkgeaaaGreatDoor
namespace Thk
theorem digs_ne (n:Nat):digs n≠[]:=by
 unfold digs;split <;> simp
theorem digs_dig:∀ n,(digs n).all isDig=true:=by
 intro n
 induction n using Nat.strongRecOn with
 | ind n ih =>
  by_cases h:n<10
  ·rw[digs_small n h]
   have:n=0\/n=1\/n=2\/n=3\/n=4\/n=5\/n=6\/n=7\/n=8\/n=9:=by omega
   rcases this with rfl | rfl | rfl | rfl | rfl | rfl | rfl | rfl | rfl | rfl <;> rfl
  ·rw[digs_big n h,List.all_append,ih (n / 10) (by omega)]
   have h9:n % 10<10:=Nat.mod_lt _ (by decide)
   generalize n % 10=m at *
   have:m=0\/m=1\/m=2\/m=3\/m=4\/m=5\/m=6\/m=7\/m=8\/m=9:=by omega
   rcases this with rfl | rfl | rfl | rfl | rfl | rfl | rfl | rfl | rfl | rfl <;> rfl
theorem dgt_of (m:Nat) (h:m<10):dgt (UInt8.ofNat (48+m))=m:=by
 have:m=0\/m=1\/m=2\/m=3\/m=4\/m=5\/m=6\/m=7\/m=8\/m=9:=by omega
 rcases this with rfl | rfl | rfl | rfl | rfl | rfl | rfl | rfl | rfl | rfl <;> rfl
theorem numv_digs:∀ n,numv (digs n)=n:=by
 intro n
 induction n using Nat.strongRecOn with
 | ind n ih =>
  by_cases h:n<10
  ·rw[digs_small n h]
   have:numv [UInt8.ofNat (48+n)]=10*0+dgt (UInt8.ofNat (48+n)):=rfl
   rw[this,dgt_of n h];omega
  ·rw[digs_big n h,numv_snoc,ih (n / 10) (by omega),dgt_of _ (Nat.mod_lt _ (by decide))];omega
theorem digs_length:∀ k n,n<10 ^ (k+1)->(digs n).length<=k+1:=by
 intro k
 induction k with
 | zero=>intro n h;rw[digs_small n (by omega)];simp
 | succ k ih =>
  intro n h
  by_cases h1:n<10
  ·rw[digs_small n h1];simp
  ·rw[digs_big n h1]
   have:=ih (n / 10) (by rw[Nat.pow_succ] at h;omega)
   simp;omega
theorem digs_head:∀ n,1<=n->(digs n).head?≠some 48:=by
 intro n
 induction n using Nat.strongRecOn with
 | ind n ih =>
  intro h1
  by_cases h:n<10
  ·rw[digs_small n h]
   have:n=1\/n=2\/n=3\/n=4\/n=5\/n=6\/n=7\/n=8\/n=9:=by omega
   rcases this with rfl | rfl | rfl | rfl | rfl | rfl | rfl | rfl | rfl <;> decide
  ·rw[digs_big n h]
   have:=ih (n / 10) (by omega) (by omega)
   cases hd:digs (n / 10) with
   | nil=>exact absurd hd (digs_ne _)
   | cons x r=>rw[hd] at this;exact this
theorem digs_h45 (n:Nat):(digs n).head?≠some 45:=by
 have:=digs_dig n
 cases hd:digs n with
 | nil=>simp
 | cons x r =>
  rw[hd] at this
  simp only[List.all_cons,Bool.and_eq_true] at this
  intro h
  simp only[List.head?_cons,Option.some.injEq] at h
  subst h
  exact absurd this.1 (by decide)
theorem numAbs_digs (neg:Bool) (n:Nat) (hn:n<=1000000000) (h0:neg=true->1<=n):numAbs neg (digs n)=some (if neg then -(n:Int) else (n:Int)):=by
 have hl:=digs_length 9 n (by omega)
 have hb:numBad neg (digs n)=false:=by
  unfold numBad
  have h1:decide ((digs n).length<1)=false:=by
   have:=List.length_pos_iff.2 (digs_ne n)
   simp;exact digs_ne n
  have h2:decide (10<(digs n).length)=false:=by simp;omega
  rw[h1,h2]
  by_cases hn1:1<=n
  ·have:((digs n).head? == some 48)=false:=beq_eq_false_iff_ne.2 (digs_head n hn1)
   rw[this];(first | done | rfl)
  ·have:n=0:=by omega
   subst this
   cases neg
   ·rw[digs_small 0 (by decide)];(first | done | rfl)
   ·exact absurd (h0 rfl) (by decide)
 unfold numAbs
 rw[hb,if_neg (by decide),digs_dig,numv_digs]
 simp only[Bool.true_and,decide_eq_true_eq]
 rw[if_pos hn]
theorem num_digits (v:Int) (h1:v<=1000000000) (h2:-1000000000<=v):num (digits v)=some v:=by
 unfold digits
 by_cases h:v<0
 ·rw[if_pos h]
  unfold num
  rw[if_pos (show (45 :: digs v.natAbs).head? = some 45 from rfl)]
  show numAbs true (digs v.natAbs)=_
  rw[numAbs_digs true v.natAbs (by omega) (by omega)]
  simp;omega
 ·rw[if_neg h]
  unfold num
  rw[if_neg (digs_h45 _),numAbs_digs false v.natAbs (by omega) (by intro h;cases h)]
  simp;omega
theorem read_cz (v:Int) (h1:v<=1000000000) (h2:-1000000000<=v):read ([99,122,62] ++ digits v)=.inr ⟨[99,122],62,digits v,v⟩:=by
 rw[read_some ([99,122,62] ++ digits v) 2 (by simp) (fun j hj hj2=>?_) (by rfl)]
 ·unfold readAt
  have e1:([99,122,62] ++ digits v).take 2=[99,122]:=rfl
  have e2:([99,122,62] ++ digits v).getD 2 0=62:=rfl
  have e3:([99,122,62] ++ digits v).drop (2+1)=digits v:=rfl
  rw[e1,e2,e3,if_neg (by decide),if_neg (by decide)]
  unfold operand
  rw[if_neg (by decide),if_pos (by decide),num_digits v h1 h2]
 ·obtain rfl | rfl:j=0\/j=1:=by omega
  ·rfl
  ·rfl
end Thk

structure CzOk (es:List Ev) (sum:Int):Prop where
 ex:∃ cs:List Ev,es=zE1 :: zE2 :: cs/\(∀ e∈cs,toL e.p=[99,122]/\e.a=62)/\sum=(cs.map (·.n)).sum
theorem CzOk.start:CzOk [zE1,zE2] 0:=⟨[],rfl,fun e he=>by simp at he,rfl⟩
theorem CzOk.more {es:List Ev} {sum:Int} (h:CzOk es sum) {e:Ev} (hp:toL e.p=[99,122]) (ha:e.a=62):CzOk (es ++ [e]) (sum+e.n):=by
 obtain ⟨cs,h1,h2,h3⟩:=h.ex
 refine ⟨cs ++ [e],by rw[h1];rfl,fun x hx=>?_,by rw[h3];simp⟩
 rcases List.mem_append.1 hx with hx | hx
 ·exact h2 x hx
 ·simp at hx;subst hx;exact ⟨hp,ha⟩

theorem covTo_no (es:List Ev) (known:List Bool) (k:Nat) (h:∀ d,k<d->covAt es known k d=false):∀ n,covTo es known k n=false
 | 0=>rfl
 | n+1=>by
  unfold covTo
  rw[covTo_no es known k h n,Bool.false_or]
  by_cases hk:k<n
  ·rw[h n hk,Bool.and_false]
  ·rw[show decide (k<n)=false by simpa using hk];(first | done | rfl)
theorem covB_cz (dp:Thk.Bs) (dv ep ev:Thk.Bs):covB dp 62 dv ep 62 ev=false:=by
 unfold covB;simp
theorem cz_alive {es:List Ev} {sum:Int} (h:CzOk es sum) (k:Nat) (hk:2<=k) (hl:k<es.length) (N:Nat) (hN:es.length<=N):alive es (List.replicate N true) k=true:=by
 obtain ⟨cs,h1,h2,_⟩:=h.ex
 have hget:∀ d,2<=d->∀ e,es[d]? = some e->toL e.p=[99,122]/\e.a=62:=fun d hd e he=>by
  obtain ⟨d,rfl⟩:∃ d',d=d'+2:=⟨d-2,by omega⟩
  rw[h1] at he
  simp only[List.getElem?_cons_succ] at he
  exact h2 e (List.mem_of_getElem? he)
 unfold alive
 rw[List.getElem?_eq_getElem hl]
 simp only
 have hy:=hget k hk es[k] (List.getElem?_eq_getElem hl)
 have hc:covTo es (List.replicate N true) k es.length=false:=covTo_no es _ k (fun d hd=>by
  unfold covAt
  cases hx:es[d]? with
  | none=>simp
  | some x =>
   rw[List.getElem?_eq_getElem hl]
   simp only
   rw[(hget d (by omega) x hx).2,hy.2,covB_cz,Bool.and_false]) es.length
 rw[hc,hy.2]
 have:(List.replicate N true).getD k false=true:=by
  rw[List.getD_eq_getElem?_getD,List.getElem?_replicate,if_pos (by omega)];(first | done | rfl)
 rw[this]
 rfl
def czN (es:List Ev) (j:Nat):Int:=match es[j]? with | some e=>if toL e.p == [99,122] then e.n else 0 | none=>0
theorem cz_fold (es:List Ev):∀ (al:List Nat) (st:TSt),(al.foldl (fun st j=>match es[j]? with | some e=>tstep 99 [99,122] st e | none=>st) st).sum=st.sum+(al.map (czN es)).sum
 | [],st=>by simp
 | j :: al,st=>by
  rw[List.foldl_cons,cz_fold es al,List.map_cons,List.sum_cons]
  have:(match es[j]? with | some e=>tstep 99 [99,122] st e | none=>st).sum=st.sum+czN es j:=by
   unfold czN
   cases es[j]? with
   | none=>simp
   | some e =>
    simp only
    unfold tstep
    rw[if_neg (by simp)]
    split <;> simp
  rw[this];omega
theorem cz_range (cs:List Ev) (hc:∀ e∈cs,toL e.p=[99,122]/\e.a=62) (al:Nat->Bool) (ha:∀ k,2<=k->k<cs.length+2->al k=true):∀ m,m<=cs.length->(((List.range (2+m)).filter al).map (czN (zE1 :: zE2 :: cs))).sum=((cs.take m).map (·.n)).sum
 | 0=>by
  intro _
  have z:∀ k,k<2->czN (zE1 :: zE2 :: cs) k=0:=fun k hk=>by
   obtain rfl | rfl:k=0\/k=1:=by omega
   ·rfl
   ·rfl
  have:∀ l:List Nat,(∀ k∈l,k<2)->(l.map (czN (zE1 :: zE2 :: cs))).sum=0:=fun l=>by
   induction l with
   | nil=>intro _;rfl
   | cons a r ih=>intro h;rw[List.map_cons,List.sum_cons,z a (h a (by simp)),ih (fun k hk=>h k (by simp[hk]))];(first | done | rfl)
  rw[this _ (fun k hk=>by have:=(List.mem_filter.1 hk).1;simpa using this)]
  simp
 | m+1=>by
  intro hm
  rw[show 2+(m+1)=(2+m)+1 by omega,List.range_succ,List.filter_append,List.map_append,List.sum_append,cz_range cs hc al ha m (by omega)]
  have h1:[2+m].filter al=[2+m]:=by simp[ha (2+m) (by omega) (by omega)]
  rw[h1,List.take_succ_eq_append_getElem (by omega),List.map_append,List.sum_append]
  congr 1
  have h2:(zE1 :: zE2 :: cs)[2+m]? = some cs[m]:=by
   rw[show 2+m=m+1+1 by omega,List.getElem?_cons_succ,List.getElem?_cons_succ,List.getElem?_eq_getElem (by omega)]
  have h3:=(hc cs[m] (List.getElem_mem _)).1
  simp only[List.map_cons,List.map_nil,List.sum_cons,List.sum_nil]
  unfold czN
  rw[h2]
  simp only
  rw[h3,if_pos (by rfl)]
theorem cz_ask {s:St} {sum:Int} (h:CzOk s.es sum) {i:Nat} (hi:i<s.kn.length) (hk:s.kn.getD i []=List.replicate s.es.length true):askR s.es s.kn (i:Int) [99,122]=(Thk.digits sum,0):=by
 unfold askR
 rw[if_pos ⟨by omega,by omega⟩,if_pos (by decide),Int.toNat_natCast,hk]
 have hk99:Thk.kindOf [99,122]=99:=by decide
 have hf:((aliveTo s.es (List.replicate s.es.length true) s.es.length).foldl (fun st j=>match s.es[j]? with | some e=>tstep 99 [99,122] st e | none=>st) ⟨[],0,false⟩).sum=sum:=by
  rw[cz_fold]
  obtain ⟨cs,h1,h2,h3⟩:=h.ex
  have hal:=fun k hk hl=>cz_alive h k hk hl s.es.length (Nat.le_refl _)
  have hl:s.es.length=2+cs.length:=by rw[h1];simp;omega
  unfold aliveTo
  have:=cz_range cs h2 (alive s.es (List.replicate s.es.length true)) (fun k h4 h5=>hal k h4 (by omega)) cs.length (Nat.le_refl _)
  rw[<- h1,<- hl,List.take_length,<- h3] at this
  rw[this];simp
 unfold tellR
 rw[hk99]
 generalize (aliveTo s.es (List.replicate s.es.length true) s.es.length).foldl (fun st j=>match s.es[j]? with | some e=>tstep 99 [99,122] st e | none=>st) ⟨[],0,false⟩=st at *
 have:tellB 99 st=Thk.digits st.sum:=by
  unfold tellB
  rw[if_neg (by decide),if_pos (by decide)]
 rw[this,hf]
end Go.Proofs.YtfmmllpjgkgeaaaGreatDoor
namespace Go.Proofs.YtfmmllpjgkgeaaaGreatDoor
def SentF (s:St) (f:Nat):Prop:=∃ g,frNo s (f:Int)=some g/\g.ack=0
def HadF (s:St) (f:Nat):Prop:=∃ g,frNo s (f:Int)=some g/\g.ack=0/\∀ m,g.known.getD m false=true->KK s g.dst m
theorem frNo_more {s s':St} {l:List FrD} (h:s'.fs=s.fs ++ l) {f:Int} {g:FrD} (hf:frNo s f=some g):frNo s' f=some g:=by
 unfold frNo at hf ⊢
 by_cases h1:1<=f/\f<=s.fs.length
 ·rw[if_pos h1] at hf
  rw[h,if_pos ⟨h1.1,by simp;omega⟩,List.getElem?_append_left (by omega)]
  exact hf
 ·rw[if_neg h1] at hf;cases hf
theorem SentF.more {s s':St} {l:List FrD} (h:s'.fs=s.fs ++ l) {f:Nat} (hf:SentF s f):SentF s' f:=by
 obtain ⟨g,h1,h2⟩:=hf
 exact ⟨g,frNo_more h h1,h2⟩
theorem PlayTo.frs {n c:Nat} {s s':St} {a:ActD} (h:KOk n c s) (hc:c<=400) (hp:PlayTo n s a s'):∃ l,s'.fs=s.fs ++ l:=by
 have hi:=pickN_lt a.i (show 1<=n by have:=h.n2;omega)
 have hj:=pickN_lt a.j (show 1<=n by have:=h.n2;omega)
 have hfl:=h.fl
 unfold PlayTo at hp
 split at hp
 ·obtain ⟨e,he,rfl⟩:=hp
  exact ⟨[],by simp⟩
 ·split at hp
  ·split at hp
   ·exact ⟨[],by rw[hp];simp⟩
   ·rename_i hne
    obtain ⟨h1,h2,h3⟩:=hp
    rw[sendR_ok (by rw[h.len];exact hi) (by rw[h.len];exact hj) hne (by omega),if_pos rfl] at h3
    obtain ⟨b,h3⟩:=h3
    exact ⟨_,h3⟩
  ·split at hp
   ·split at hp
    ·exact ⟨[],by rw[hp];simp⟩
    ·rename_i hne
     obtain ⟨g,hg,hf⟩:=frNo_pick (k:=a.k) hne
     by_cases ha:g.ack=0
     ·obtain ⟨h1,h2,b,h3⟩:=hp.new hf ha (by omega)
      exact ⟨_,h3⟩
     ·exact ⟨[],by rw[hp.old hf (by omega)];simp⟩
   ·exact ⟨[],by rw[hp];simp⟩
theorem PlayTo.sent {n c:Nat} {s s':St} {a:ActD} (h:KOk n c s) (hc:c<=400) (hp:PlayTo n s a s') (hk:pickN a.kd 8=3\/pickN a.kd 8=4) (hl:s.fs.length<s'.fs.length):SentF s' s'.fs.length:=by
 have hi:=pickN_lt a.i (show 1<=n by have:=h.n2;omega)
 have hj:=pickN_lt a.j (show 1<=n by have:=h.n2;omega)
 have hfl:=h.fl
 unfold PlayTo at hp
 rw[if_neg (by omega),if_pos (by omega)] at hp
 split at hp
 ·rw[hp] at hl;omega
 ·rename_i hne
  obtain ⟨h1,h2,h3⟩:=hp
  rw[sendR_ok (by rw[h.len];exact hi) (by rw[h.len];exact hj) hne (by omega),if_pos rfl] at h3
  obtain ⟨b,h3⟩:=h3
  have:=frNo_last s' _ s.fs h3
  rw[show (s.fs.length:Int)+1=((s'.fs.length:Nat):Int) by rw[h3];simp] at this
  exact ⟨_,this,rfl⟩
theorem frNo_mem {s:St} {f:Int} {g:FrD} (h:frNo s f=some g):g∈s.fs:=by
 unfold frNo at h
 split at h
 ·exact List.mem_of_getElem? h
 ·cases h
theorem KOk.del {n c:Nat} {s s':St} {f:Nat} (h:KOk n c s) (hc:c<=400) (hf:SentF s f) (hd:DelTo s (f:Int) s') :
  KOk n (c+1) s'/\s'.es=s.es/\(∃ l,s'.fs=s.fs ++ l)/\(∀ q m,KK s q m->KK s' q m)/\HadF s' f/\(HadF s f->s'.kn=s.kn):=by
 obtain ⟨g,h1,h2⟩:=hf
 have hfl:=h.fl
 obtain ⟨t1,t2,b,t3⟩:=hd.new h1 h2 (by omega)
 have hg:=frNo_mem h1
 have hfr:=h.fr g hg
 have hkk:=KK_set t2 (by rw[h.len];exact hfr.1)
 refine ⟨h.came hg t1 t2 t3,t1,⟨_,t3⟩,fun q m hq=>(hkk q m).2 (Or.inl hq),⟨g,frNo_more t3 h1,h2,fun m hm=>(hkk _ m).2 (Or.inr ⟨rfl,hm⟩)⟩, ?_⟩
 rintro ⟨g',h3,_,h4⟩
 have:g'=g:=Option.some.inj (h3.symm.trans h1)
 subst this
 rw[t2,delK_old h4]
 refine List.ext_getElem? fun k=>?_
 rw[List.getElem?_set]
 split
 ·rename_i e
  subst e
  split
  ·rename_i hl
   rw[List.getD_eq_getElem?_getD,List.getElem?_eq_getElem hl];(first | done | rfl)
  ·rename_i hl
   rw[List.getElem?_eq_none (by omega)]
 ·rfl
theorem HadF.more {s s':St} {l:List FrD} (h:s'.fs=s.fs ++ l) (hk:∀ q m,KK s q m->KK s' q m) {f:Nat} (hf:HadF s f):HadF s' f:=by
 obtain ⟨g,h1,h2,h3⟩:=hf
 exact ⟨g,frNo_more h h1,h2,fun m hm=>hk _ _ (h3 m hm)⟩
theorem delR_sent {n c:Nat} {s:St} {f:Nat} (h:KOk n c s) (hc:c<=400) (hf:SentF s f):delR s (f:Int)=((s.fs.length:Int)+1,0):=by
 obtain ⟨g,h1,h2⟩:=hf
 have:=h.fl
 exact delR_new h1 h2 (by omega)
end Go.Proofs.YtfmmllpjgkgeaaaGreatDoor

