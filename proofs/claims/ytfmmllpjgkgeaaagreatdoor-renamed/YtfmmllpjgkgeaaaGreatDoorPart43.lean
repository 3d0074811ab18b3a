import Derived.Test.YtfmmllpjgkgeaaaGreatDoorPart41
set_option linter.unusedVariables false
set_option linter.unusedSimpArgs false
namespace Go.Proofs.YtfmmllpjgkgeaaaGreatDoor
def piN (m:Nat):Nat:=if m<2 then m+2 else if m<4 then m-2 else m
theorem piN_hi {m:Nat} (h:4<=m):piN m=m:=by unfold piN;rw[if_neg (by omega),if_neg (by omega)]
theorem piN_eq {m N:Nat} (h:4<=N):piN m=N↔m=N:=by unfold piN;split <;> (try split) <;> omega
structure RenE (x y:Ev):Prop where
 p:toL y.p=toL x.p
 a:y.a=x.a
 v:toL y.v=toL x.v
 n:y.n=x.n
 saw:∀ k,y.saw.getD (piN k) false=x.saw.getD k false
structure RenF (n:Nat) (g h:FrD):Prop where
 src:h.src=n-1-g.src
 dst:h.dst=n-1-g.dst
 ack:h.ack=g.ack
 known:∀ m,h.known.getD (piN m) false=g.known.getD m false
structure Ren (n:Nat) (sx sy:St):Prop where
 len:sy.es.length=sx.es.length
 l4:4<=sx.es.length
 ev:∀ m x y,sx.es[m]? = some x->sy.es[piN m]? = some y->RenE x y
 lowx:∀ m x,m<4->sx.es[m]? = some x->toL x.p=[115,122,122]
 lowy:∀ m x,m<4->sy.es[m]? = some x->toL x.p=[115,122,122]
 kn:∀ i,i<n->∀ m,(sy.kn.getD (n-1-i) []).getD (piN m) false=(sx.kn.getD i []).getD m false
 fl:sy.fs.length=sx.fs.length
 fr:∀ (k:Nat) g h,sx.fs[k]? = some g->sy.fs[k]? = some h->RenF n g h

theorem cnt_pi {a b:List Bool} (h:∀ m,b.getD (piN m) false=a.getD m false):cnt b=cnt a:=by
 have ha:=cnt_range a (4+max a.length b.length) (by omega)
 have hb:=cnt_range b (4+max a.length b.length) (by omega)
 rw[<- ha,<- hb,List.range_add,List.filter_append,List.filter_append,List.length_append,List.length_append]
 have h1:((List.range 4).filter fun k=>b.getD k false).length=((List.range 4).filter fun k=>a.getD k false).length:=by
  have e0:b.getD 2 false=a.getD 0 false:=h 0
  have e1:b.getD 3 false=a.getD 1 false:=h 1
  have e2:b.getD 0 false=a.getD 2 false:=h 2
  have e3:b.getD 1 false=a.getD 3 false:=h 3
  have hr:List.range 4=[0,1,2,3]:=rfl
  rw[hr]
  simp only[List.filter_cons,List.filter_nil,e0,e1,e2,e3]
  cases a.getD 0 false <;> cases a.getD 1 false <;> cases a.getD 2 false <;> cases a.getD 3 false <;> rfl
 have h2:(((List.range (max a.length b.length)).map (4 + ·)).filter fun k=>b.getD k false)=(((List.range (max a.length b.length)).map (4 + ·)).filter fun k=>a.getD k false):=by
  refine List.filter_congr fun k hk=>?_
  obtain ⟨j,_,rfl⟩:=List.mem_map.1 hk
  rw[<- h (4+j),piN_hi (by omega)]
 rw[h1,h2]

theorem covTo_same {es es':List Ev} {kn kn':List Bool} {k:Nat} (h:∀ d,k<d->covAt es' kn' k d=covAt es kn k d):∀ m,covTo es' kn' k m=covTo es kn k m
 | 0=>rfl
 | m+1=>by
  unfold covTo
  rw[covTo_same h m]
  by_cases hk:k<m
  ·rw[h m hk]
  ·rw[show decide (k<m)=false by simpa using hk];(first | done | rfl)
theorem Ren.get {n:Nat} {sx sy:St} (h:Ren n sx sy) {m:Nat} (hm:4<=m) {x:Ev} (hx:sx.es[m]? = some x):∃ y,sy.es[m]? = some y/\RenE x y:=by
 have hl:m<sx.es.length:=(List.getElem?_eq_some_iff.1 hx).1
 have h2:sy.es[m]? = some (sy.es[m]'(by rw[h.len];exact hl)):=List.getElem?_eq_getElem _
 exact ⟨_,h2,h.ev m x _ hx (by rw[piN_hi hm];exact h2)⟩
theorem Ren.none {n:Nat} {sx sy:St} (h:Ren n sx sy) {m:Nat} (hx:sx.es[m]? = none):sy.es[m]? = none:=by
 rw[List.getElem?_eq_none_iff] at hx ⊢
 rw[h.len];exact hx
theorem ren_cov {n:Nat} {sx sy:St} (h:Ren n sx sy) {i:Nat} (hi:i<n) {k d:Nat} (hk:4<=k) (hd:k<d):covAt sy.es (sy.kn.getD (n-1-i) []) k d=covAt sx.es (sx.kn.getD i []) k d:=by
 unfold covAt
 cases hx:sx.es[d]? with
 | none=>rw[h.none hx]
 | some x =>
  obtain ⟨x',hx',e1⟩:=h.get (by omega) hx
  rw[hx']
  cases hy:sx.es[k]? with
  | none=>rw[h.none hy]
  | some y =>
   obtain ⟨y',hy',e2⟩:=h.get hk hy
   rw[hy']
   simp only
   have e3:=h.kn i hi d
   rw[piN_hi (by omega)] at e3
   have e4:=e1.saw k
   rw[piN_hi hk] at e4
   rw[e3,e4,e1.p,e1.a,e1.v,e2.p,e2.a,e2.v]
theorem ren_alive {n:Nat} {sx sy:St} (h:Ren n sx sy) {i:Nat} (hi:i<n) {k:Nat} (hk:4<=k):alive sy.es (sy.kn.getD (n-1-i) []) k=alive sx.es (sx.kn.getD i []) k:=by
 unfold alive
 cases hy:sx.es[k]? with
 | none=>rw[h.none hy]
 | some y =>
  obtain ⟨y',hy',e2⟩:=h.get hk hy
  rw[hy']
  simp only
  have e3:=h.kn i hi k
  rw[piN_hi hk] at e3
  rw[e3,e2.a,h.len,covTo_same (fun d hd=>ren_cov h hi hk hd)]
theorem szz_out:∀ a,a<12->(Thk.begins [115,122,122] (toL (placeB a)) || ([115,122,122] == toL (placeB a)))=false:=by decide +kernel
theorem tstep_szz (a:Nat) (ha:a<12) (k:UInt8) (st:TSt) (e:Ev) (he:toL e.p=[115,122,122]):tstep k (toL (placeB a)) st e=st:=by
 have h:=szz_out a ha
 rw[Bool.or_eq_false_iff] at h
 unfold tstep
 rw[he,h.1,h.2]
 simp
theorem foldl_same {α β : Type} {f g:β->α->β} : ∀ (l:List α),(∀ a∈l,∀ b,f b a=g b a)->∀ b,l.foldl f b=l.foldl g b
 | [],_,_=>rfl
 | a :: l,h,b=>by
  rw[List.foldl_cons,List.foldl_cons,h a (by simp) b]
  exact foldl_same l (fun x hx=>h x (by simp[hx])) _
theorem ren_ask {n:Nat} {sx sy:St} (h:Ren n sx sy) (hx:sx.kn.length=n) (hy:sy.kn.length=n) {i:Nat} (hi:i<n) (a:Nat) (ha:a<12):askR sy.es sy.kn ((n-1-i:Nat):Int) (toL (placeB a))=askR sx.es sx.kn (i:Int) (toL (placeB a)):=by
 have c1:0<=((n-1-i:Nat):Int)/\((n-1-i:Nat):Int)<sy.kn.length:=⟨by omega,by omega⟩
 have c2:0<=(i:Int)/\(i:Int)<sx.kn.length:=⟨by omega,by omega⟩
 unfold askR
 rw[if_pos c1,if_pos c2,Int.toNat_natCast,Int.toNat_natCast]
 have:tellR sy.es (aliveTo sy.es (sy.kn.getD (n-1-i) []) sy.es.length) (toL (placeB a))=tellR sx.es (aliveTo sx.es (sx.kn.getD i []) sx.es.length) (toL (placeB a)):=by
  unfold tellR aliveTo
  congr 1
  rw[List.foldl_filter,List.foldl_filter,h.len]
  refine foldl_same _ (fun k hk st=>?_) _
  by_cases h4:4<=k
  ·rw[ren_alive h hi h4]
   cases hx:sx.es[k]? with
   | none=>rw[h.none hx]
   | some x =>
    obtain ⟨x',hx',e1⟩:=h.get h4 hx
    rw[hx']
    simp only
    have:tstep (Thk.kindOf (toL (placeB a))) (toL (placeB a)) st x'=tstep (Thk.kindOf (toL (placeB a))) (toL (placeB a)) st x:=by
     unfold tstep;rw[e1.p,e1.v,e1.n]
    rw[this]
  ·have e1:∀ b:Bool,(if b=true then (match sx.es[k]? with | some e=>tstep (Thk.kindOf (toL (placeB a))) (toL (placeB a)) st e | none=>st) else st)=st:=fun b=>by
    cases b
    ·rfl
    ·cases hx:sx.es[k]? with
     | none=>rfl
     | some x=>exact tstep_szz a ha _ st x (h.lowx k x (by omega) hx)
   have e2:∀ b:Bool,(if b=true then (match sy.es[k]? with | some e=>tstep (Thk.kindOf (toL (placeB a))) (toL (placeB a)) st e | none=>st) else st)=st:=fun b=>by
    cases b
    ·rfl
    ·cases hx:sy.es[k]? with
     | none=>rfl
     | some x=>exact tstep_szz a ha _ st x (h.lowy k x (by omega) hx)
   exact (e2 _).trans (e1 _).symm
 rw[this]
theorem ren_tells {n:Nat} {sx sy:St} (h:Ren n sx sy) (hx:sx.kn.length=n) (hy:sy.kn.length=n) {i:Nat} (hi:i<n):tellsL sy ((n-1-i:Nat):Int)=tellsL sx (i:Int):=by
 have ht:∀ k,k<=12->tellsTo sy ((n-1-i:Nat):Int) k=tellsTo sx (i:Int) k:=fun k=>by
  induction k with
  | zero=>intro _;rfl
  | succ k ih=>intro hk;unfold tellsTo;rw[ih (by omega)];unfold tellOne;rw[ren_ask h hx hy hi k (by omega)]
 have hk:knowsR sy.kn ((n-1-i:Nat):Int)=knowsR sx.kn (i:Int):=by
  have c1:0<=((n-1-i:Nat):Int)/\((n-1-i:Nat):Int)<sy.kn.length:=⟨by omega,by omega⟩
  have c2:0<=(i:Int)/\(i:Int)<sx.kn.length:=⟨by omega,by omega⟩
  unfold knowsR
  rw[if_pos c1,if_pos c2,Int.toNat_natCast,Int.toNat_natCast,cnt_pi (h.kn i hi)]
 unfold tellsL
 rw[ht 12 (Nat.le_refl _),hk]

structure RenA (n:Nat) (a b:ActD):Prop where
 kd:b.kd=a.kd
 i:pickN b.i n=n-1-pickN a.i n
 j:pickN b.j n=n-1-pickN a.j n
 k:b.k=a.k
 v:b.v=a.v
theorem ren_rev {n i j:Nat} (hi:i<n) (hj:j<n):n-1-i=n-1-j↔i=j:=by omega
theorem app_one {α : Type} {l:List α} {a:α} {m:Nat} {x:α} (h:(l ++ [a])[m]? = some x):l[m]? = some x\/(m=l.length/\x=a):=by
 by_cases hm:m<l.length
 ·rw[List.getElem?_append_left hm] at h;exact Or.inl h
 ·rw[List.getElem?_append_right (by omega)] at h
  by_cases e:m=l.length
  ·subst e;simp at h;exact Or.inr ⟨rfl,h.symm⟩
  ·rw[List.getElem?_eq_none (by simp;omega)] at h;cases h
theorem Ren.did {n:Nat} {sx sy:St} (h:Ren n sx sy) {c c':Nat} (hx:KOk n c sx) (hy:KOk n c' sy) {i:Nat} (hi:i<n) {x y:Ev} (hxy:toL y.p=toL x.p/\y.a=x.a/\toL y.v=toL x.v/\y.n=x.n) (h1:x.saw=sx.kn.getD i []) (h2:y.saw=sy.kn.getD (n-1-i) []) :
  Ren n ⟨sx.es ++ [x],sx.kn.set i (moreOf (sx.kn.getD i []) sx.es.length),sx.fs⟩ ⟨sy.es ++ [y],sy.kn.set (n-1-i) (moreOf (sy.kn.getD (n-1-i) []) sy.es.length),sy.fs⟩:=by
 have hl:=h.len
 have hl4:=h.l4
 have hkx:=kl_get hx.kl i
 have hky:=kl_get hy.kl (n-1-i)
 have hlx:=hx.len
 have hly:=hy.len
 refine ⟨by simp[hl],by simp only[List.length_append];omega,fun m u v hu hv=>?_,fun m u hm hu=>?_,fun m u hm hu=>?_,fun q hq m=>?_,h.fl,h.fr⟩
 ·simp only at hu hv
  rcases app_one hu with hu | ⟨rfl,rfl⟩
  ·rcases app_one hv with hv | ⟨e,rfl⟩
   ·exact h.ev m u v hu hv
   ·have hm:=(List.getElem?_eq_some_iff.1 hu).1
    rw[hl,piN_eq hl4] at e;omega
  ·rcases app_one hv with hv | ⟨e,rfl⟩
   ·have hm:=(List.getElem?_eq_some_iff.1 hv).1
    rw[piN_hi hl4] at hm;omega
   ·exact ⟨hxy.1,hxy.2.1,hxy.2.2.1,hxy.2.2.2,fun k=>by rw[h1,h2];exact h.kn i hi k⟩
 ·simp only at hu
  rw[List.getElem?_append_left (by omega)] at hu
  exact h.lowx m u hm hu
 ·simp only at hu
  rw[List.getElem?_append_left (by omega)] at hu
  exact h.lowy m u hm hu
 ·simp only
  rw[getD_set',getD_set']
  by_cases e:i=q
  ·subst e
   rw[if_pos ⟨rfl,by omega⟩,if_pos ⟨rfl,by omega⟩,moreOf_getD _ _ hkx,moreOf_getD _ _ hky,h.kn i hi m,hl]
   congr 1
   exact decide_eq_decide.2 (piN_eq hl4)
  ·rw[if_neg (fun h=>e ((ren_rev hi hq).1 h.1)),if_neg (fun h=>e h.1)]
   exact h.kn q hq m
theorem Ren.sent {n:Nat} {sx sy sx' sy':St} (h:Ren n sx sy) {i j:Nat} (hi:i<n) {b b':ByteArray} (h1:sx'.es=sx.es) (h2:sx'.kn=sx.kn) (h3:sx'.fs=sx.fs ++ [⟨i,j,0,sx.kn.getD i [],b⟩]) (k1:sy'.es=sy.es) (k2:sy'.kn=sy.kn) (k3:sy'.fs=sy.fs ++ [⟨n-1-i,n-1-j,0,sy.kn.getD (n-1-i) [],b'⟩]):Ren n sx' sy':=by
 refine ⟨by rw[h1,k1];exact h.len,by rw[h1];exact h.l4,by rw[h1,k1];exact h.ev,by rw[h1];exact h.lowx,by rw[k1];exact h.lowy,by rw[h2,k2];exact h.kn,by rw[h3,k3];simp[h.fl], ?_⟩
 rw[h3,k3]
 intro k g g' hg hg'
 rcases app_one hg with hg | ⟨rfl,rfl⟩
 ·rcases app_one hg' with hg' | ⟨e,rfl⟩
  ·exact h.fr k g g' hg hg'
  ·have:=(List.getElem?_eq_some_iff.1 hg).1
   have:=h.fl;omega
 ·rcases app_one hg' with hg' | ⟨e,rfl⟩
  ·have:=(List.getElem?_eq_some_iff.1 hg').1
   have:=h.fl;omega
  ·exact ⟨rfl,rfl,rfl,h.kn i hi⟩
theorem Ren.came {n:Nat} {sx sy sx' sy':St} (h:Ren n sx sy) (hlx:sx.kn.length=n) (hly:sy.kn.length=n) {f:Nat} {g g':FrD} (hg:RenF n g g') (hd:g.dst<n) {b b':ByteArray} (h1:sx'.es=sx.es) (h2:sx'.kn=sx.kn.set g.dst (delK (sx.kn.getD g.dst []) g.known)) (h3:sx'.fs=sx.fs ++ [⟨g.dst,g.src,f,[],b⟩]) (k1:sy'.es=sy.es) (k2:sy'.kn=sy.kn.set g'.dst (delK (sy.kn.getD g'.dst []) g'.known)) (k3:sy'.fs=sy.fs ++ [⟨g'.dst,g'.src,f,[],b'⟩]):Ren n sx' sy':=by
 refine ⟨by rw[h1,k1];exact h.len,by rw[h1];exact h.l4,by rw[h1,k1];exact h.ev,by rw[h1];exact h.lowx,by rw[k1];exact h.lowy,fun q hq m=>?_,by rw[h3,k3];simp[h.fl], ?_⟩
 ·rw[h2,k2,getD_set',getD_set',hg.dst]
  by_cases e:g.dst=q
  ·rw[if_pos ⟨by omega,by omega⟩,if_pos ⟨e,by omega⟩,delK_getD,delK_getD,bothL_getD,bothL_getD,h.kn _ hd m,hg.known m]
  ·rw[if_neg (fun h=>e ((ren_rev hd hq).1 h.1)),if_neg (fun h=>e h.1)]
   exact h.kn q hq m
 ·rw[h3,k3]
  intro k u u' hu hu'
  rcases app_one hu with hu | ⟨rfl,rfl⟩
  ·rcases app_one hu' with hu' | ⟨e,rfl⟩
   ·exact h.fr k u u' hu hu'
   ·have:=(List.getElem?_eq_some_iff.1 hu).1
    have:=h.fl;omega
  ·rcases app_one hu' with hu' | ⟨e,rfl⟩
   ·have:=(List.getElem?_eq_some_iff.1 hu').1
    have:=h.fl;omega
   ·exact ⟨hg.dst,hg.src,rfl,fun m=>by simp⟩
theorem EvFor.same {s s':St} {i j a b:Nat} {x y:Ev} (hx:EvFor s i a b x) (hy:EvFor s' j a b y):toL y.p=toL x.p/\y.a=x.a/\toL y.v=toL x.v/\y.n=x.n:=by
 obtain ⟨c,h0,h1,h2,h3,h4⟩:=hx.ex
 obtain ⟨d,g0,g1,g2,g3,g4⟩:=hy.ex
 have:d=c:=Sum.inr.inj (g0.symm.trans h0)
 subst this
 exact ⟨g1.trans h1.symm,g2.trans h2.symm,g3.trans h3.symm,g4.trans h4.symm⟩
theorem Ren.play {n c c':Nat} {sx sy sx' sy':St} {a b:ActD} (h:Ren n sx sy) (hx:KOk n c sx) (hy:KOk n c' sy) (hc:c<=400) (hc':c'<=400) (hab:RenA n a b) (hp:PlayTo n sx a sx') (hq:PlayTo n sy b sy'):Ren n sx' sy':=by
 have hi:=pickN_lt a.i (show 1<=n by have:=hx.n2;omega)
 have hj:=pickN_lt a.j (show 1<=n by have:=hx.n2;omega)
 have hfx:=hx.fl
 have hfy:=hy.fl
 have hlx:=hx.len
 have hly:=hy.len
 unfold PlayTo at hp hq
 rw[hab.kd,hab.i,hab.j,hab.k,hab.v,h.fl] at hq
 by_cases h3:pickN a.kd 8<3
 ·rw[if_pos h3] at hp hq
  obtain ⟨x,ex,rfl⟩:=hp
  obtain ⟨y,ey,rfl⟩:=hq
  exact h.did hx hy hi (ex.same ey) ex.saw ey.saw
 ·rw[if_neg h3] at hp hq
  by_cases h5:pickN a.kd 8<5
  ·rw[if_pos h5] at hp hq
   by_cases hij:pickN a.i n=pickN a.j n
   ·rw[if_pos hij] at hp
    rw[if_pos (by rw[hij])] at hq
    rw[hp,hq];exact h
   ·rw[if_neg hij] at hp
    have hij':¬n-1-pickN a.i n=n-1-pickN a.j n:=fun e=>hij ((ren_rev hi hj).1 e)
    rw[if_neg hij'] at hq
    obtain ⟨h1,h2,h3⟩:=hp
    obtain ⟨k1,k2,k3⟩:=hq
    rw[sendR_ok (by omega) (by omega) hij (by omega),if_pos rfl,Int.toNat_natCast,Int.toNat_natCast] at h3
    rw[sendR_ok (by omega) (by omega) hij' (by omega),if_pos rfl,Int.toNat_natCast,Int.toNat_natCast] at k3
    obtain ⟨b1,h3⟩:=h3
    obtain ⟨b2,k3⟩:=k3
    exact h.sent hi h1 h2 h3 k1 k2 k3
  ·rw[if_neg h5] at hp hq
   by_cases h7:pickN a.kd 8<7
   ·rw[if_pos h7] at hp hq
    by_cases h0:sx.fs.length=0
    ·rw[if_pos h0] at hp hq
     rw[hp,hq];exact h
    ·rw[if_neg h0] at hp hq
     obtain ⟨g,hg,hf⟩:=frNo_pick (k:=a.k) h0
     obtain ⟨g',hg',hf'⟩:=frNo_pick (s:=sy) (k:=a.k) (by rw[h.fl];exact h0)
     rw[h.fl] at hf'
     have hgg:RenF n g g':=by
      have hl:=pickN_lt a.k (show 1<=sx.fs.length by omega)
      have hfl:=h.fl
      unfold frNo at hf hf'
      rw[if_pos ⟨by omega,by omega⟩] at hf hf'
      exact h.fr _ g g' hf hf'
     by_cases ha:g.ack=0
     ·have ha':g'.ack=0:=by rw[hgg.ack];exact ha
      obtain ⟨h1,h2,b1,h3⟩:=hp.new hf ha (by omega)
      obtain ⟨k1,k2,b2,k3⟩:=hq.new hf' ha' (by omega)
      exact h.came hlx hly hgg (hx.fr g hg).1 h1 h2 h3 k1 k2 k3
     ·have ha':g'.ack≠0:=by rw[hgg.ack];exact ha
      rw[hp.old hf (by omega),hq.old hf' (by omega)]
      exact h
   ·rw[if_neg h7] at hp hq
    rw[hp,hq];exact h
def zE3:Ev:=⟨⟨#[115,122,122]⟩,43,⟨#[113]⟩,0,[]⟩
def zE4:Ev:=⟨⟨#[115,122,122]⟩,45,⟨#[113]⟩,0,[false,false,true]⟩
def zT (n:Nat):St:=⟨[zE1,zE2,zE3,zE4],[true,true] :: (List.replicate (n-2) [] ++ [[false,false,true,true]]),[]⟩
theorem Ren.start (n:Nat) (h:2<=n/\n<=4):Ren n (zT n) (zT n):=by
 refine ⟨rfl,Nat.le_refl 4,fun m x y hx hy=>?_,fun m x hm hx=>?_,fun m x hm hx=>?_,fun i hi m=>?_,rfl,fun k g g' hg=>by simp[zT] at hg⟩
 ·unfold zT at hx hy
  have hm:=(List.getElem?_eq_some_iff.1 hx).1
  simp at hm
  obtain rfl | rfl | rfl | rfl:m=0\/m=1\/m=2\/m=3:=by omega
  all_goals
   simp[piN] at hx hy
   subst hx hy
   refine ⟨rfl,rfl,rfl,rfl,fun k=>?_⟩
   by_cases hk:k<4
   ·obtain rfl | rfl | rfl | rfl:k=0\/k=1\/k=2\/k=3:=by omega
    all_goals rfl
   ·rw[piN_hi (by omega),getD_len (by simp[zE1,zE2,zE3,zE4];try omega),getD_len (by simp[zE1,zE2,zE3,zE4];try omega)]
 ·unfold zT at hx
  obtain rfl | rfl | rfl | rfl:m=0\/m=1\/m=2\/m=3:=by omega
  all_goals
   simp at hx
   subst hx
   rfl
 ·unfold zT at hx
  obtain rfl | rfl | rfl | rfl:m=0\/m=1\/m=2\/m=3:=by omega
  all_goals
   simp at hx
   subst hx
   rfl
 ·unfold zT
  have hl:∀ q,(([true,true] :: (List.replicate (n-2) [] ++ [[false,false,true,true]])).getD q []).length<=4:=fun q=>by
   rw[List.getD_eq_getElem?_getD]
   cases hq:([true,true] :: (List.replicate (n-2) [] ++ [[false,false,true,true]]))[q]? with
   | none=>simp
   | some l =>
    have:=List.mem_of_getElem? hq
    simp at this
    rcases this with rfl | ⟨_,rfl⟩ | rfl <;> simp
  by_cases hm:m<4
  ·obtain rfl | rfl | rfl:n=2\/n=3\/n=4:=by omega
   all_goals
    obtain rfl | rfl | rfl | rfl:m=0\/m=1\/m=2\/m=3:=by omega
    all_goals
     obtain rfl | rfl | rfl | rfl:i=0\/i=1\/i=2\/i=3:=by omega
     all_goals first | rfl | omega
  ·rw[piN_hi (by omega)]
   simp only
   rw[getD_len (by have:=hl (n-1-i);omega),getD_len (by have:=hl i;omega)]
end Go.Proofs.YtfmmllpjgkgeaaaGreatDoor

