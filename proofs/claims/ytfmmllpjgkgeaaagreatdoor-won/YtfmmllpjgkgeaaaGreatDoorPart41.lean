import Derived.Test.YtfmmllpjgkgeaaaGreatDoorPart40
set_option linter.unusedVariables false
set_option linter.unusedSimpArgs false
set_option maxHeartbeats 16000000
set_option maxRecDepth 100000
namespace Go.Proofs.YtfmmllpjgkgeaaaGreatDoor
def SubL (u v:Thk.Bs):Prop:=∃ a b,v=a ++ (u ++ b)
def comL (x:Thk.Bs):Thk.Bs:=44 :: (x ++ [44])
theorem joinTo_flat (l:List Thk.Bs):∀ k,k+1<=l.length->Thk.joinTo l (k+1) ++ [44]=(l.take (k+1)).flatMap (· ++ [44])
 | 0=>fun h=>by
  have e:l.take (0+1)=[l[0]'(by omega)]:=by rw[List.take_succ_eq_append_getElem (by omega)];(first | done | rfl)
  rw[e]
  unfold Thk.joinTo
  rw[if_pos rfl]
  unfold Thk.joinTo
  have:l.getD 0 []=l[0]'(by omega):=by rw[List.getD_eq_getElem?_getD,List.getElem?_eq_getElem (by omega)];(first | done | rfl)
  rw[this];simp
 | k+1=>fun h=>by
  have ih:=joinTo_flat l k (by omega)
  have e:l.take (k+1+1)=l.take (k+1) ++ [l[k+1]'(by omega)]:=List.take_succ_eq_append_getElem (by omega)
  rw[e,List.flatMap_append,<- ih]
  conv=>lhs;unfold Thk.joinTo
  rw[if_neg (by omega)]
  have:l.getD (k+1) []=l[k+1]'(by omega):=by rw[List.getD_eq_getElem?_getD,List.getElem?_eq_getElem (by omega)];(first | done | rfl)
  rw[this];simp
theorem comL_join {l:List Thk.Bs} (h:l≠[]):comL (Thk.joinTo l l.length)=44 :: l.flatMap (· ++ [44]):=by
 obtain ⟨k,hk⟩:∃ k,l.length=k+1:=⟨l.length-1,by have:=List.length_pos_iff.2 h;omega⟩
 have:=joinTo_flat l k (by omega)
 unfold comL
 rw[hk,this,<- hk,List.take_length]
theorem has_yes {l:List Thk.Bs} {x:Thk.Bs} (h:x∈l):SubL (comL x) (comL (Thk.joinTo l l.length)):=by
 rw[comL_join (List.ne_nil_of_mem h)]
 obtain ⟨p,q,rfl⟩:=List.append_of_mem h
 rw[List.flatMap_append,List.flatMap_cons]
 -- a comma stands ahead of x: the first one,or the one behind what is ahead
 have:∃ a,44 :: p.flatMap (· ++ [44])=a ++ [44]:=by
  rcases List.eq_nil_or_concat p with rfl | ⟨p',y,rfl⟩
  ·exact ⟨[],rfl⟩
  ·exact ⟨44 :: (p'.flatMap (· ++ [44]) ++ y),by simp⟩
 obtain ⟨a,ha⟩:=this
 refine ⟨a,q.flatMap (· ++ [44]), ?_⟩
 rw[<- List.cons_append,ha]
 unfold comL
 simp
theorem cut_eq {x y:Thk.Bs} {a b:Thk.Bs} (hx:44 ∉ x) (hy:44 ∉ y) (h:x ++ 44 :: a=y ++ 44 :: b):x=y/\a=b:=by
 induction x generalizing y with
 | nil =>
  cases y with
  | nil=>simpa using h
  | cons c y=>simp at h;exact absurd h.1 (fun e=>hy (by simp[e]))
 | cons c x ih =>
  cases y with
  | nil=>simp at h;exact absurd h.1.symm (fun e=>hx (by simp[e]))
  | cons d y =>
   simp only[List.cons_append,List.cons.injEq] at h
   have:=ih (fun e=>hx (by simp[e])) (fun e=>hy (by simp[e])) h.2
   exact ⟨by rw[h.1,this.1],this.2⟩
theorem sub_flat {w:Thk.Bs} (hw:44 ∉ w):∀ (l:List Thk.Bs),(∀ x∈l,44 ∉ x)->SubL (comL w) (44 :: l.flatMap (· ++ [44]))->w∈l
 | [],_,⟨a,b,h⟩=>by
  have:=congrArg List.length h
  simp[comL] at this;omega
 | x :: l,hl,⟨a,b,h⟩=>by
  have hx:=hl x (by simp)
  rw[List.flatMap_cons] at h
  cases a with
  | nil =>
   simp only[comL,List.nil_append,List.cons_append,List.cons.injEq,true_and,List.append_assoc] at h
   exact List.mem_cons.2 (Or.inl (cut_eq hx hw h).1.symm)
  | cons c a =>
   simp only[List.cons_append,List.cons.injEq] at h
   obtain ⟨rfl,h⟩:=h
   -- what stands ahead holds a comma: up to the first one it is x
   have key:∀ (x a:Thk.Bs),44 ∉ x->x ++ [44] ++ l.flatMap (· ++ [44])=a ++ (comL w ++ b)->∃ a',44 :: l.flatMap (· ++ [44])=a' ++ (comL w ++ b):=by
    intro x
    induction x with
    | nil=>intro a _ h;exact ⟨a,by simpa using h⟩
    | cons d x ih =>
     intro a hx h
     cases a with
     | nil=>simp[comL] at h;exact absurd h.1.symm (fun e=>hx (by simp[e]))
     | cons e a =>
      simp only[List.cons_append,List.cons.injEq] at h
      exact ih a (fun e=>hx (by simp[e])) (by simpa using h.2)
   obtain ⟨a',h'⟩:=key x a hx h
   exact List.mem_cons.2 (Or.inr (sub_flat hw l (fun y hy=>hl y (by simp[hy])) ⟨a',b,h'⟩))
theorem has_no {l:List Thk.Bs} {w:Thk.Bs} (hw:44 ∉ w) (h0:w≠[]) (hl:∀ x∈l,44 ∉ x) (h:w ∉ l):¬SubL (comL w) (comL (Thk.joinTo l l.length)):=by
 by_cases e:l=[]
 ·subst e
  rintro ⟨a,b,h2⟩
  have:=congrArg List.length h2
  have h3:=List.length_pos_iff.2 h0
  simp[comL,Thk.joinTo] at this;omega
 ·rw[comL_join e]
  exact fun h2=>h (sub_flat hw l hl h2)

theorem withStep_keep (s:Thk.Bs):∀ (l o:List Thk.Bs) (b:Bool),(∀ y∈o,y∈(l.foldl (withStep s) (o,b)).1)/\(∀ y∈l,y≠s->y∈(l.foldl (withStep s) (o,b)).1)/\((b=true->s∈o)->(l.foldl (withStep s) (o,b)).2=true->s∈(l.foldl (withStep s) (o,b)).1)
 | [],o,b=>⟨fun _ h=>h,fun _ h=>by simp at h,fun h1 h2=>h1 h2⟩
 | x :: l,o,b=>by
  rw[List.foldl_cons]
  have ih:=withStep_keep s l (withStep s (o,b) x).1 (withStep s (o,b) x).2
  have e:withStep s (o,b) x=((withStep s (o,b) x).1,(withStep s (o,b) x).2):=rfl
  rw[e]
  have ho:∀ y∈o,y∈(withStep s (o,b) x).1:=fun y hy=>by
   unfold withStep;simp only
   refine List.mem_append.2 (Or.inl ?_)
   split
   ·exact List.mem_append.2 (Or.inl hy)
   ·exact hy
  refine ⟨fun y hy=>ih.1 y (ho y hy),fun y hy hne=>?_,fun h1 h2=>ih.2.2 (fun h3=>?_) h2⟩
  ·rcases List.mem_cons.1 hy with rfl | hy
   ·refine ih.1 y ?_
    unfold withStep;simp only
    rw[if_neg hne]
    exact List.mem_append.2 (Or.inr (by simp))
   ·exact ih.2.1 y hy hne
  ·unfold withStep at h3 ⊢
   simp only at h3 ⊢
   cases hb:b with
   | true=>rw[if_neg (by simp)];exact List.mem_append.2 (Or.inl (h1 hb))
   | false =>
    rw[hb,Bool.false_or] at h3
    rw[if_pos ⟨rfl,h3⟩]
    exact List.mem_append.2 (Or.inl (by simp))
theorem withL_keep (l:List Thk.Bs) (s y:Thk.Bs) (h:y∈l\/y=s):y∈withL l s:=by
 have hk:=withStep_keep s l [] false
 unfold withL
 generalize l.foldl (withStep s) ([],false)=p at *
 by_cases hp:p.2=true
 ·rw[if_pos hp]
  by_cases e:y=s
  ·rw[e];exact hk.2.2 (by simp) hp
  ·exact hk.2.1 y (h.resolve_right e) e
 ·rw[if_neg hp]
  by_cases e:y=s
  ·rw[e];simp
  ·exact List.mem_append.2 (Or.inl (hk.2.1 y (h.resolve_right e) e))

theorem tfold_has (es:List Ev) {k:UInt8} (hk:((k.toNat:Int) == 109)=false) (path:Thk.Bs):∀ (al:List Nat) (st:TSt),
  (∀ y∈st.l,y∈(al.foldl (fun st j=>match es[j]? with | some e=>tstep k path st e | none=>st) st).l)/\(st.some=true->(al.foldl (fun st j=>match es[j]? with | some e=>tstep k path st e | none=>st) st).some=true) /\
  ∀ j∈al,∀ e,es[j]? = some e->toL e.p=path->toL e.v∈(al.foldl (fun st j=>match es[j]? with | some e=>tstep k path st e | none=>st) st).l/\(al.foldl (fun st j=>match es[j]? with | some e=>tstep k path st e | none=>st) st).some=true
 | [],st=>⟨fun _ h=>h,fun h=>h,fun j hj=>by simp at hj⟩
 | a :: al,st=>by
  rw[List.foldl_cons]
  have ih:=tfold_has es hk path al (match es[a]? with | some e=>tstep k path st e | none=>st)
  have h1:(∀ y∈st.l,y∈(match es[a]? with | some e=>tstep k path st e | none=>st).l)/\(st.some=true->(match es[a]? with | some e=>tstep k path st e | none=>st).some=true)/\∀ e,es[a]? = some e->toL e.p=path->toL e.v∈(match es[a]? with | some e=>tstep k path st e | none=>st).l/\(match es[a]? with | some e=>tstep k path st e | none=>st).some=true:=by
   cases he:es[a]? with
   | none=>exact ⟨fun _ h=>h,fun h=>h,fun e h=>by cases h⟩
   | some e =>
    simp only
    unfold tstep
    rw[hk]
    simp only[Bool.false_and,Bool.false_eq_true,if_false]
    refine ⟨fun y hy=>?_,fun h=>?_,fun e' h2 h3=>?_⟩
    ·split
     ·exact withL_keep _ _ _ (Or.inl hy)
     ·exact hy
    ·split
     ·rfl
     ·exact h
    ·cases h2
     rw[if_pos (by rw[h3];exact beq_self_eq_true _)]
     exact ⟨withL_keep _ _ _ (Or.inr rfl),rfl⟩
  refine ⟨fun y hy=>ih.1 y (h1.1 y hy),fun h=>ih.2.1 (h1.2.1 h),fun j hj e he hp=>?_⟩
  rcases List.mem_cons.1 hj with rfl | hj
  ·have:=h1.2.2 e he hp
   exact ⟨ih.1 _ this.1,ih.2.1 this.2⟩
  ·exact ih.2.2 j hj e he hp
theorem tfold_only (es:List Ev) {k:UInt8} (hk:((k.toNat:Int) == 109)=false) (path:Thk.Bs) (wb:∀ l s,∀ y∈withL l s,y∈l\/y=s):∀ (al:List Nat) (st:TSt) (y:Thk.Bs),y∈(al.foldl (fun st j=>match es[j]? with | some e=>tstep k path st e | none=>st) st).l->y∈st.l\/∃ j∈al,∃ e,es[j]? = some e/\toL e.p=path/\y=toL e.v
 | [],st,y=>fun h=>Or.inl h
 | a :: al,st,y=>fun h=>by
  rw[List.foldl_cons] at h
  rcases tfold_only es hk path wb al _ y h with h | ⟨j,hj,e,h1⟩
  ·cases he:es[a]? with
   | none=>rw[he] at h;exact Or.inl h
   | some e =>
    rw[he] at h
    simp only at h
    unfold tstep at h
    rw[hk] at h
    simp only[Bool.false_and,Bool.false_eq_true,if_false] at h
    split at h
    ·rename_i hp
     rcases wb _ _ y h with h | h
     ·exact Or.inl h
     ·exact Or.inr ⟨a,by simp,e,he,by simpa using hp,h⟩
    ·exact Or.inl h
  ·exact Or.inr ⟨j,by simp[hj],e,h1⟩
end Go.Proofs.YtfmmllpjgkgeaaaGreatDoor
namespace Go.Proofs.YtfmmllpjgkgeaaaGreatDoor
def mkEv (c:Thk.Ch) (saw:List Bool):Ev:=⟨⟨c.path.toArray⟩,c.act,⟨c.val.toArray⟩,c.n,saw⟩
theorem mkEv_p (c:Thk.Ch) (saw:List Bool):toL (mkEv c saw).p=c.path:=by unfold mkEv toL;simp
theorem mkEv_v (c:Thk.Ch) (saw:List Bool):toL (mkEv c saw).v=c.val:=by unfold mkEv toL;simp
theorem covB_mk (c d:Thk.Ch) (a b:List Bool):covB (toL (mkEv c a).p) (mkEv c a).a (toL (mkEv c a).v) (toL (mkEv d b).p) (mkEv d b).a (toL (mkEv d b).v)=covB c.path c.act c.val d.path d.act d.val:=by
 rw[mkEv_p,mkEv_p,mkEv_v,mkEv_v];(first | done | rfl)
def doE (s:St) (i:Nat) (c:Thk.Ch):St:=⟨s.es ++ [mkEv c (s.kn.getD i [])],s.kn.set i (moreOf (s.kn.getD i []) s.es.length),s.fs⟩
theorem doE_out {s:St} {i:Nat} {c:Thk.Ch} {t:Thk.Bs} (hi:i<s.kn.length) (hr:Thk.read t=.inr c) (hl:s.es.length<500):DoOut s.es s.kn (i:Int) t 0 (doE s i c).es (doE s i c).kn:=by
 refine Or.inr (Or.inr (Or.inr ⟨c,mkEv c (s.kn.getD i []),⟨by omega,by omega⟩,hr,hl,mkEv_p _ _,rfl,mkEv_v _ _,rfl, ?_,rfl, ?_, ?_⟩))
 ·rw[Int.toNat_natCast];(first | done | rfl)
 ·rfl
 ·rw[Int.toNat_natCast];(first | done | rfl)
def chSmall (c:Thk.Ch):Prop:=c.path.length<=20/\c.val.length<=20/\c.n<=1000000000/\-1000000000<=c.n
theorem KOk.doE {n k:Nat} {s:St} (h:KOk n k s) (hk:k<=400) {i:Nat} (hi:i<n) {c:Thk.Ch} (hc:chSmall c):KOk n (k+1) (doE s i c):=by
 have hl:=kl_get h.kl i
 have:=h.ev
 exact h.did hi ⟨by show c.path.toArray.size<=20;simpa using hc.1,by show c.val.toArray.size<=20;simpa using hc.2.1,hc.2.2.1,hc.2.2.2,by show (s.kn.getD i []).length<=1000;omega⟩

def EvRd (e:Ev):Prop:=Thk.fits (Thk.kindOf (toL e.p)) e.a=true/\44 ∉ toL e.v
def rdOk (c:Thk.Ch):Bool:=Thk.fits (Thk.kindOf c.path) c.act && !c.val.contains 44
theorem EvRd.mk {c:Thk.Ch} (h:rdOk c=true) (saw:List Bool):EvRd (mkEv c saw):=by
 unfold rdOk at h
 simp only[Bool.and_eq_true,Bool.not_eq_true'] at h
 unfold EvRd
 rw[mkEv_p,mkEv_v]
 refine ⟨h.1, ?_⟩
 have:=h.2
 intro h2
 have h3:c.val.contains 44=true:=List.contains_iff_mem.2 h2
 rw[this] at h3;cases h3
def chRd (a b:Nat):Bool:=match Thk.read (changeL a b) with
 | .inl _=>false
 | .inr c=>rdOk c
theorem chRd_all:∀ a,a<12->∀ b,b<40->chRd a b=true:=by decide +kernel
theorem EvFor.rd {s:St} {i a b:Nat} (ha:a<12) (hb:b<40) {e:Ev} (h:EvFor s i a b e):EvRd e:=by
 obtain ⟨c,h0,h1,h2,h3,h4⟩:=h.ex
 have h5:=chRd_all a ha b hb
 unfold chRd at h5
 rw[h0] at h5
 unfold rdOk at h5
 simp only[Bool.and_eq_true,Bool.not_eq_true'] at h5
 unfold EvRd
 rw[h1,h2,h3]
 refine ⟨h5.1,fun h6=>?_⟩
 have h7:c.val.contains 44=true:=List.contains_iff_mem.2 h6
 rw[h5.2] at h7;cases h7
theorem PlayTo.rd {n c:Nat} {s s':St} {a:ActD} (h:KOk n c s) (hc:c<=400) (hp:PlayTo n s a s') (hr:∀ e∈s.es,EvRd e):∀ e∈s'.es,EvRd e:=by
 unfold PlayTo at hp
 split at hp
 ·obtain ⟨e,he,rfl⟩:=hp
  intro e' he'
  rcases List.mem_append.1 he' with h1 | h1
  ·exact hr e' h1
  ·simp at h1;subst h1;exact he.rd (pickN_lt _ (by omega)) (pickN_lt _ (by omega))
 ·split at hp
  ·split at hp
   ·rw[hp];exact hr
   ·rw[hp.1];exact hr
  ·split at hp
   ·split at hp
    ·rw[hp];exact hr
    ·rw[hp.1];exact hr
   ·rw[hp];exact hr
theorem zS_rd (n:Nat):∀ e∈(zS n).es,EvRd e:=by
 intro e he
 unfold zS at he
 simp at he
 rcases he with rfl | rfl
 ·exact ⟨by decide +kernel,by decide +kernel⟩
 ·exact ⟨by decide +kernel,by decide +kernel⟩

def chA:Thk.Ch:=⟨[109,97,47,115,97],43,[119,105,110],0⟩
def chB:Thk.Ch:=⟨[109,97,47,109,98,47,102,97],94,[],0⟩
def chC:Thk.Ch:=⟨[109,97,47,109,98,47,114,97],61,[111,110,101],0⟩
def chD:Thk.Ch:=⟨[109,97],33,[],0⟩
def chG:Thk.Ch:=⟨[109,97,47,115,97],45,[119,105,110],0⟩
def chE:Thk.Ch:=⟨[109,97,47,109,98,47,102,97],95,[],0⟩
def chF:Thk.Ch:=⟨[109,97,47,109,98,47,114,97],61,[116,119,111],0⟩
def chH:Thk.Ch:=⟨[109,97,47,109,98,47,114,97],61,[116,104,114,101,101],0⟩
def s3 (s:St):St:=doE (doE (doE s 0 chA) 0 chB) 0 chC
def s5 (above:Bool) (s:St):St:=if above then doE (s3 s) 1 chD else doE (doE (s3 s) 1 chG) 1 chE
def s6 (above:Bool) (s:St):St:=doE (s5 above s) 1 chF

theorem getD_ne {l:List (List Bool)} {i j:Nat} {v:List Bool} (h:i≠j):(l.set i v).getD j []=l.getD j []:=by
 rw[getD_set',if_neg (fun e=>h e.1)]
theorem getD_eq {l:List (List Bool)} {i:Nat} {v:List Bool} (h:i<l.length):(l.set i v).getD i []=v:=by
 rw[getD_set',if_pos ⟨rfl,h⟩]
structure WonEs (s:St) (es:List Ev):Prop where
 ex:∃ (a0 a1 a2:List Bool) (L:List Ev) (z:List Bool),es=s.es ++ ([mkEv chA a0,mkEv chB a1,mkEv chC a2] ++ (L ++ [mkEv chF z]))/\L.length<=2/\(∀ e∈L,EvRd e) /\
  (∀ e∈L ++ [mkEv chF z],∀ j,j<3->e.saw.getD (s.es.length+j) false=false)
theorem won_es {n k:Nat} {s:St} (h:KOk n k s) (above:Bool):WonEs s (s6 above s).es:=by
 have hl1:=kl_get h.kl 1
 have hlen:s.kn.length=n:=h.len
 have h2:=h.n2
 have b0:∀ j,(s.kn.getD 1 []).getD (s.es.length+j) false=false:=fun j=>getD_len (by omega)
 have k1:(s3 s).kn.getD 1 []=s.kn.getD 1 []:=by
  unfold s3 doE
  simp only
  rw[getD_ne (by decide),getD_ne (by decide),getD_ne (by decide)]
 have kl:(s3 s).kn.length=n:=by unfold s3 doE;simp[hlen]
 have el:(s3 s).es.length=s.es.length+3:=by unfold s3 doE;simp
 have e3:∃ a0 a1 a2,(s3 s).es=s.es ++ [mkEv chA a0,mkEv chB a1,mkEv chC a2]:=⟨_,_,_,by unfold s3 doE;simp only[List.append_assoc];rfl⟩
 obtain ⟨a0,a1,a2,e3⟩:=e3
 have b1:∀ j,j<3->(moreOf (s.kn.getD 1 []) (s.es.length+3)).getD (s.es.length+j) false=false:=fun j hj=>by
  rw[moreOf_getD _ _ (by omega),b0 j];simp;omega
 have l1:(moreOf (s.kn.getD 1 []) (s.es.length+3)).length=s.es.length+4:=moreOf_length _ _ (by omega)
 have b2:∀ j,j<3->(moreOf (moreOf (s.kn.getD 1 []) (s.es.length+3)) (s.es.length+4)).getD (s.es.length+j) false=false:=fun j hj=>by
  rw[moreOf_getD _ _ (by omega),b1 j hj];simp;omega
 cases above with
 | true =>
  refine ⟨a0,a1,a2,[mkEv chD (s.kn.getD 1 [])],moreOf (s.kn.getD 1 []) (s.es.length+3), ?_,by simp, ?_, ?_⟩
  ·unfold s6 s5
   rw[if_pos rfl]
   unfold doE
   simp only
   rw[getD_eq (by omega),k1,e3]
   have:(s.es ++ [mkEv chA a0,mkEv chB a1,mkEv chC a2]).length=s.es.length+3:=by simp
   rw[this]
   simp
  ·intro e he
   simp at he;subst he
   exact EvRd.mk (by decide +kernel) _
  ·intro e he j hj
   simp at he
   rcases he with rfl | rfl
   ·exact b0 j
   ·exact b1 j hj
 | false =>
  refine ⟨a0,a1,a2,[mkEv chG (s.kn.getD 1 []),mkEv chE (moreOf (s.kn.getD 1 []) (s.es.length+3))],moreOf (moreOf (s.kn.getD 1 []) (s.es.length+3)) (s.es.length+4), ?_,by simp, ?_, ?_⟩
  ·unfold s6 s5
   rw[if_neg (by decide)]
   unfold doE
   simp only
   rw[getD_eq (by omega),getD_eq (by rw[List.length_set];omega),k1,e3]
   have e4:(s.es ++ [mkEv chA a0,mkEv chB a1,mkEv chC a2]).length=s.es.length+3:=by simp
   rw[e4]
   have e5:(s.es ++ [mkEv chA a0,mkEv chB a1,mkEv chC a2] ++ [mkEv chG (s.kn.getD 1 [])]).length=s.es.length+4:=by simp
   rw[e5]
   simp
  ·intro e he
   simp at he
   rcases he with rfl | rfl
   ·exact EvRd.mk (by decide +kernel) _
   ·exact EvRd.mk (by decide +kernel) _
  ·intro e he j hj
   simp at he
   rcases he with rfl | rfl | rfl
   ·exact b0 j
   ·exact b1 j hj
   ·exact b2 j hj
theorem rep_getD {N k:Nat} (h:k<N):(List.replicate N true).getD k false=true:=by
 rw[List.getD_eq_getElem?_getD,List.getElem?_replicate,if_pos h];(first | done | rfl)
theorem alive_if {es:List Ev} {N k:Nat} {y:Ev} (hN:es.length<=N) (hy:es[k]? = some y) (he:effB y.a=true) (hc:∀ d x,k<d->es[d]? = some x->x.saw.getD k false=false\/covB (toL x.p) x.a (toL x.v) (toL y.p) y.a (toL y.v)=false):alive es (List.replicate N true) k=true:=by
 have hl:=(List.getElem?_eq_some_iff.1 hy).1
 unfold alive
 rw[hy]
 simp only
 rw[he,rep_getD (by omega),covTo_no es _ k (fun d hd=>?_)]
 ·rfl
 ·unfold covAt
  cases hx:es[d]? with
  | none=>rfl
  | some x =>
   rw[hy]
   simp only
   rcases hc d x hd hx with h | h
   ·rw[h];simp
   ·rw[h];simp
theorem mem_alive {es:List Ev} {kn:List Bool} {k:Nat} (h:alive es kn k=true):k∈aliveTo es kn es.length:=by
 unfold aliveTo
 refine List.mem_filter.2 ⟨?_,h⟩
 unfold alive at h
 cases hy:es[k]? with
 | none=>rw[hy] at h;cases h
 | some y=>exact List.mem_range.2 (List.getElem?_eq_some_iff.1 hy).1
theorem ask_set {s:St} {i:Nat} (hi:i<s.kn.length) {kn:List Bool} (hk:s.kn.getD i []=kn) {path:Thk.Bs} (hp:Thk.path path=true) (h1:((Thk.kindOf path).toNat:Int)≠102) (h2:((Thk.kindOf path).toNat:Int)≠99) :
  askR s.es s.kn (i:Int) path=(Thk.joinTo (tfold s.es (Thk.kindOf path) path (aliveTo s.es kn s.es.length)).l (tfold s.es (Thk.kindOf path) path (aliveTo s.es kn s.es.length)).l.length,0):=by
 have c:0<=(i:Int)/\(i:Int)<s.kn.length:=⟨by omega,by omega⟩
 unfold askR
 rw[if_pos c,if_pos hp,Int.toNat_natCast,hk]
 unfold tellR tellB
 rw[if_neg h1,if_neg h2]
 rfl
theorem ask_flag {s:St} {i:Nat} (hi:i<s.kn.length) {kn:List Bool} (hk:s.kn.getD i []=kn) {path:Thk.Bs} (hp:Thk.path path=true) (h1:((Thk.kindOf path).toNat:Int)=102) :
  askR s.es s.kn (i:Int) path=(if (tfold s.es (Thk.kindOf path) path (aliveTo s.es kn s.es.length)).some then [49] else [48],0):=by
 have c:0<=(i:Int)/\(i:Int)<s.kn.length:=⟨by omega,by omega⟩
 unfold askR
 rw[if_pos c,if_pos hp,Int.toNat_natCast,hk]
 unfold tellR tellB
 rw[if_pos h1]
 rfl
theorem rest_get {s:St} {es:List Ev} (h:WonEs s es):∃ (a0 a1 a2 z:List Bool) (N:Nat),es.length=N+1/\s.es.length+3<=N/\es[s.es.length]? = some (mkEv chA a0)/\es[s.es.length+1]? = some (mkEv chB a1)/\es[s.es.length+2]? = some (mkEv chC a2)/\es[N]? = some (mkEv chF z) /\
  ∀ d x,s.es.length+3<=d->es[d]? = some x->∀ j,j<3->x.saw.getD (s.es.length+j) false=false:=by
 obtain ⟨a0,a1,a2,L,z,rfl,h1,h2,h3⟩:=h.ex
 refine ⟨a0,a1,a2,z,s.es.length+3+L.length,by simp;omega,by omega, ?_, ?_, ?_, ?_,fun d x hd hx j hj=>?_⟩
 ·rw[List.getElem?_append_right (by omega)];simp
 ·rw[List.getElem?_append_right (by omega)];simp
 ·rw[List.getElem?_append_right (by omega)];simp
 ·rw[List.getElem?_append_right (by omega),List.getElem?_append_right (by simp;omega),List.getElem?_append_right (by simp;omega)]
  simp
  rw[show s.es.length+3+L.length-s.es.length-3-L.length=0 by omega]
  rfl
 ·rw[List.getElem?_append_right (by omega),List.getElem?_append_right (by simp;omega)] at hx
  exact h3 x (List.mem_of_getElem? hx) j hj
theorem won_all {s t:St} (h:WonEs s t.es) {i:Nat} (hi:i<t.kn.length) (hk:t.kn.getD i []=List.replicate t.es.length true) :
  (∃ l,askR t.es t.kn (i:Int) chA.path=(Thk.joinTo l l.length,0)/\chA.val∈l)/\askR t.es t.kn (i:Int) chB.path=([49],0)/\(∃ l,askR t.es t.kn (i:Int) chC.path=(Thk.joinTo l l.length,0)/\chC.val∈l/\chF.val∈l):=by
 obtain ⟨a0,a1,a2,z,N,hN,hN3,g0,g1,g2,gN,hs⟩:=rest_get h
 have later:∀ k,s.es.length<=k->∀ d x,k<d->t.es[d]? = some x->d=s.es.length+1\/d=s.es.length+2\/s.es.length+3<=d:=fun k hk d x hd _=>by omega
 have l0:alive t.es (List.replicate t.es.length true) s.es.length=true:=alive_if (Nat.le_refl _) g0 rfl (fun d x hd hx=>by
  rcases later _ (Nat.le_refl _) d x hd hx with rfl | rfl | h3
  ·rw[g1] at hx;cases hx;exact Or.inr (by rw[covB_mk];decide +kernel)
  ·rw[g2] at hx;cases hx;exact Or.inr (by rw[covB_mk];decide +kernel)
  ·exact Or.inl (hs d x h3 hx 0 (by decide)))
 have l1:alive t.es (List.replicate t.es.length true) (s.es.length+1)=true:=alive_if (Nat.le_refl _) g1 rfl (fun d x hd hx=>by
  rcases later _ (by omega) d x hd hx with rfl | rfl | h3
  ·omega
  ·rw[g2] at hx;cases hx;exact Or.inr (by rw[covB_mk];decide +kernel)
  ·exact Or.inl (hs d x h3 hx 1 (by decide)))
 have l2:alive t.es (List.replicate t.es.length true) (s.es.length+2)=true:=alive_if (Nat.le_refl _) g2 rfl (fun d x hd hx=>by
  rcases later _ (by omega) d x hd hx with rfl | rfl | h3
  ·omega
  ·omega
  ·exact Or.inl (hs d x h3 hx 2 (by decide)))
 have lN:alive t.es (List.replicate t.es.length true) N=true:=alive_if (Nat.le_refl _) gN rfl (fun d x hd hx=>by
  have:=(List.getElem?_eq_some_iff.1 hx).1
  omega)
 have f0:=(tfold_has t.es (k:=Thk.kindOf chA.path) (by decide +kernel) chA.path (aliveTo t.es (List.replicate t.es.length true) t.es.length) ⟨[],0,false⟩).2.2 _ (mem_alive l0) _ g0 (mkEv_p _ _)
 have f1:=(tfold_has t.es (k:=Thk.kindOf chB.path) (by decide +kernel) chB.path (aliveTo t.es (List.replicate t.es.length true) t.es.length) ⟨[],0,false⟩).2.2 _ (mem_alive l1) _ g1 (mkEv_p _ _)
 have f2:=(tfold_has t.es (k:=Thk.kindOf chC.path) (by decide +kernel) chC.path (aliveTo t.es (List.replicate t.es.length true) t.es.length) ⟨[],0,false⟩).2.2 _ (mem_alive l2) _ g2 (mkEv_p _ _)
 have fN:=(tfold_has t.es (k:=Thk.kindOf chC.path) (by decide +kernel) chC.path (aliveTo t.es (List.replicate t.es.length true) t.es.length) ⟨[],0,false⟩).2.2 _ (mem_alive lN) _ gN (mkEv_p _ _)
 refine ⟨⟨_,ask_set hi hk (by decide +kernel) (by decide +kernel) (by decide +kernel), ?_⟩, ?_,⟨_,ask_set hi hk (by decide +kernel) (by decide +kernel) (by decide +kernel), ?_, ?_⟩⟩
 ·rw[<- mkEv_v chA a0];exact f0.1
 ·rw[ask_flag hi hk (by decide +kernel) (by decide +kernel)]
  have:(tfold t.es (Thk.kindOf chB.path) chB.path (aliveTo t.es (List.replicate t.es.length true) t.es.length)).some=true:=f1.2
  rw[this];(first | done | rfl)
 ·rw[<- mkEv_v chC a2];exact f2.1
 ·rw[<- mkEv_v chF z];exact fN.1
end Go.Proofs.YtfmmllpjgkgeaaaGreatDoor
namespace Go.Proofs.YtfmmllpjgkgeaaaGreatDoor
theorem moreOf_rep (M:Nat):moreOf (List.replicate M true) M=List.replicate (M+1) true:=by
 unfold moreOf
 rw[List.length_replicate,Nat.sub_self]
 simp[List.replicate_succ']
theorem covTo_yes {es:List Ev} {kn:List Bool} {k d:Nat} (hk:k<d) (h:covAt es kn k d=true):∀ n,d<n->covTo es kn k n=true
 | 0=>fun h=>by omega
 | n+1=>fun hd=>by
  unfold covTo
  by_cases e:d=n
  ·subst e
   rw[h,show decide (k<d)=true by simpa using hk];simp
  ·rw[covTo_yes hk h n (by omega)];(first | done | rfl)
structure WonEnd (t u:St) (i:Nat):Prop where
 es:u.es=t.es ++ [mkEv chG (List.replicate t.es.length true),mkEv chH (List.replicate (t.es.length+1) true)]
 kn:u.kn.getD i []=List.replicate (t.es.length+2) true
 len:i<u.kn.length
theorem won_end {t:St} {i:Nat} (hi:i<t.kn.length) (hk:t.kn.getD i []=List.replicate t.es.length true):WonEnd t (doE (doE t i chG) i chH) i:=by
 have e1:(doE t i chG).kn.getD i []=List.replicate (t.es.length+1) true:=by
  unfold doE;simp only;rw[getD_eq hi,hk,moreOf_rep]
 have e2:(doE t i chG).es.length=t.es.length+1:=by unfold doE;simp
 have e3:(doE t i chG).kn.length=t.kn.length:=by unfold doE;simp
 have h1:(doE (doE t i chG) i chH).es=(doE t i chG).es ++ [mkEv chH ((doE t i chG).kn.getD i [])]:=rfl
 have h2:(doE (doE t i chG) i chH).kn=(doE t i chG).kn.set i (moreOf ((doE t i chG).kn.getD i []) (doE t i chG).es.length):=rfl
 refine ⟨?_, ?_, ?_⟩
 ·rw[h1,e1]
  show t.es ++ [mkEv chG (t.kn.getD i [])] ++ _=_
  rw[hk];simp
 ·rw[h2,getD_eq (by rw[e3];exact hi),e1,e2,moreOf_rep]
 ·rw[h2,List.length_set,e3];exact hi
theorem end_get {t u:St} {i:Nat} (h:WonEnd t u i) {j:Nat} {y:Ev} (hy:u.es[j]? = some y):(j<t.es.length/\t.es[j]? = some y)\/(j=t.es.length/\y=mkEv chG (List.replicate t.es.length true))\/(j=t.es.length+1/\y=mkEv chH (List.replicate (t.es.length+1) true)):=by
 rw[h.es] at hy
 by_cases h1:j<t.es.length
 ·rw[List.getElem?_append_left h1] at hy;exact Or.inl ⟨h1,hy⟩
 ·rw[List.getElem?_append_right (by omega)] at hy
  have h2:=(List.getElem?_eq_some_iff.1 hy).1
  simp at h2
  by_cases h3:j=t.es.length
  ·subst h3;simp at hy;exact Or.inr (Or.inl ⟨rfl,hy.symm⟩)
  ·obtain rfl:j=t.es.length+1:=by omega
   rw[show t.es.length+1-t.es.length=1 by omega] at hy
   simp at hy
   exact Or.inr (Or.inr ⟨rfl,hy.symm⟩)
theorem end_G {t u:St} {i:Nat} (h:WonEnd t u i):u.es[t.es.length]? = some (mkEv chG (List.replicate t.es.length true)):=by
 rw[h.es,List.getElem?_append_right (Nat.le_refl _)];simp
theorem end_H {t u:St} {i:Nat} (h:WonEnd t u i):u.es[t.es.length+1]? = some (mkEv chH (List.replicate (t.es.length+1) true)):=by
 rw[h.es,List.getElem?_append_right (by omega),show t.es.length+1-t.es.length=1 by omega];(first | done | rfl)
theorem end_len {t u:St} {i:Nat} (h:WonEnd t u i):u.es.length=t.es.length+2:=by rw[h.es];simp
theorem alive_parts {es:List Ev} {kn:List Bool} {k:Nat} (h:alive es kn k=true):∃ y,es[k]? = some y/\effB y.a=true/\covTo es kn k es.length=false:=by
 unfold alive at h
 cases hy:es[k]? with
 | none=>rw[hy] at h;cases h
 | some y =>
  rw[hy] at h
  simp only[Bool.and_eq_true,Bool.not_eq_true'] at h
  exact ⟨y,rfl,h.1.1,h.2⟩
theorem act_s (a:UInt8) (h1:Thk.fits 115 a=true) (h2:effB a=true):a=43:=by
 unfold Thk.fits at h1
 rw[if_pos (by decide)] at h1
 unfold effB at h2
 simp only[Bool.or_eq_true,beq_iff_eq] at h1 h2
 exact UInt8.toNat_inj.1 (by show a.toNat=43;omega)
theorem act_r (a:UInt8) (h1:Thk.fits 114 a=true) (h2:effB a=true):a=61:=by
 unfold Thk.fits at h1
 rw[if_neg (by decide),if_neg (by decide),if_pos (by decide)] at h1
 unfold effB at h2
 simp only[Bool.or_eq_true,beq_iff_eq] at h1 h2
 exact UInt8.toNat_inj.1 (by show a.toNat=61;omega)
theorem kA:Thk.kindOf chA.path=115:=by decide +kernel
theorem kC:Thk.kindOf chC.path=114:=by decide +kernel
theorem end_A {t u:St} {i:Nat} (h:WonEnd t u i) (hr:∀ e∈t.es,EvRd e) (wb:∀ l s,∀ y∈withL l s,y∈l\/y=s):∃ l,askR u.es u.kn (i:Int) chA.path=(Thk.joinTo l l.length,0)/\chA.val ∉ l/\∀ x∈l,44 ∉ x:=by
 have key:∀ x∈(tfold u.es (Thk.kindOf chA.path) chA.path (aliveTo u.es (List.replicate (t.es.length+2) true) u.es.length)).l,x≠chA.val/\44 ∉ x:=fun x hx=>by
  rcases tfold_only u.es (by decide +kernel) chA.path wb _ _ x hx with hx | ⟨j,hj,e,he,hp,rfl⟩
  ·simp at hx
  ·obtain ⟨y,hy,h1,h2⟩:=alive_parts (List.mem_filter.1 hj).2
   rw[he] at hy;cases hy
   rcases end_get h he with ⟨h3,h4⟩ | ⟨rfl,rfl⟩ | ⟨rfl,rfl⟩
   ·have hre:=hr e (List.mem_of_getElem? h4)
    refine ⟨fun hv=>?_,hre.2⟩
    have ha:e.a=43:=act_s _ (by have:=hre.1;rw[hp,kA] at this;exact this) h1
    have hcov:covAt u.es (List.replicate (t.es.length+2) true) j t.es.length=true:=by
     unfold covAt
     rw[end_G h,he]
     simp only
     rw[rep_getD (by omega),mkEv_p,mkEv_v,hp,hv,ha]
     have:(mkEv chG (List.replicate t.es.length true)).saw=List.replicate t.es.length true:=rfl
     rw[this,rep_getD h3]
     show covB chG.path 45 chG.val chA.path 43 chA.val=true
     decide +kernel
    rw[covTo_yes h3 hcov _ (by rw[end_len h];omega)] at h2
    cases h2
   ·exact absurd h1 (by show ¬effB 45=true;decide)
   ·rw[mkEv_p] at hp;exact absurd hp (by decide)
 refine ⟨_,ask_set h.len h.kn (by decide +kernel) (by decide +kernel) (by decide +kernel),fun hm=>(key _ hm).1 rfl,fun x hx=>(key x hx).2⟩
theorem end_C {t u:St} {i:Nat} (h:WonEnd t u i) (hr:∀ e∈t.es,EvRd e):askR u.es u.kn (i:Int) chC.path=(chH.val,0):=by
 rw[ask_set h.len h.kn (by decide +kernel) (by decide +kernel) (by decide +kernel)]
 have hl:(tfold u.es (Thk.kindOf chC.path) chC.path (aliveTo u.es (List.replicate (t.es.length+2) true) u.es.length))=⟨[chH.val],0,true⟩:=by
  have hlen:u.es.length=(t.es.length+1)+1:=end_len h
  have hal:alive u.es (List.replicate (t.es.length+2) true) (t.es.length+1)=true:=alive_if (by omega) (end_H h) rfl (fun d x hd hx=>by
   have:=(List.getElem?_eq_some_iff.1 hx).1;omega)
  unfold tfold aliveTo
  rw[hlen,List.range_succ,List.filter_append,List.foldl_append]
  have e1:[t.es.length+1].filter (alive u.es (List.replicate (t.es.length+2) true))=[t.es.length+1]:=by simp[hal]
  rw[e1,List.foldl_cons,List.foldl_nil,end_H h]
  have e2:∀ (al:List Nat),(∀ j∈al,j<t.es.length+1/\alive u.es (List.replicate (t.es.length+2) true) j=true)->∀ st:TSt,al.foldl (fun st j=>match u.es[j]? with | some e=>tstep (Thk.kindOf chC.path) chC.path st e | none=>st) st=st:=fun al=>by
   induction al with
   | nil=>intro _ st;rfl
   | cons j al ih =>
    intro hj st
    rw[List.foldl_cons,ih (fun k hk=>hj k (by simp[hk]))]
    obtain ⟨h0,h9⟩:=hj j (by simp)
    obtain ⟨y,hy,h1,h2⟩:=alive_parts h9
    rw[hy]
    simp only
    have hp:toL y.p≠chC.path:=fun hp=>by
     rcases end_get h hy with ⟨h3,h4⟩ | ⟨rfl,rfl⟩ | ⟨rfl,rfl⟩
     ·have hre:=hr y (List.mem_of_getElem? h4)
      have ha:y.a=61:=act_r _ (by have:=hre.1;rw[hp,kC] at this;exact this) h1
      have hcov:covAt u.es (List.replicate (t.es.length+2) true) j (t.es.length+1)=true:=by
       unfold covAt
       rw[end_H h,hy]
       simp only
       rw[rep_getD (by omega),mkEv_p,mkEv_v,hp,ha]
       have:(mkEv chH (List.replicate (t.es.length+1) true)).saw=List.replicate (t.es.length+1) true:=rfl
       rw[this,rep_getD (by omega)]
       show covB chH.path 61 chH.val chC.path 61 (toL y.v)=true
       unfold covB
       rw[if_neg (by decide),if_neg (by decide),if_neg (by decide),if_neg (by decide),if_pos (by decide)]
       decide
      rw[covTo_yes (by omega) hcov _ (by rw[end_len h];omega)] at h2
      cases h2
     ·rw[mkEv_p] at hp;exact absurd hp (by decide)
     ·omega
    unfold tstep
    rw[kC,if_neg (by simp),if_neg (by simpa using hp)]
  have e3:tfold u.es (Thk.kindOf chC.path) chC.path ((List.range (t.es.length+1)).filter (alive u.es (List.replicate (t.es.length+2) true)))=⟨[],0,false⟩:=e2 _ (fun j hj=>by
   have:=List.mem_filter.1 hj
   exact ⟨by simpa using this.1,this.2⟩) _
  show tstep (Thk.kindOf chC.path) chC.path (tfold u.es (Thk.kindOf chC.path) chC.path ((List.range (t.es.length+1)).filter (alive u.es (List.replicate (t.es.length+2) true)))) (mkEv chH (List.replicate (t.es.length+1) true))=_
  rw[e3]
  unfold tstep
  rw[mkEv_p,mkEv_v,kC,if_neg (by simp),if_pos (by decide)]
  have e5:withL [] chH.val=[chH.val]:=by decide +kernel
  show TSt.mk (withL [] chH.val) (0+0) true=_
  rw[e5];(first | done | rfl)
 rw[hl]
 decide +kernel
end Go.Proofs.YtfmmllpjgkgeaaaGreatDoor

