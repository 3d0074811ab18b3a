import Derived.Test.YtfmmllpjgkgeaaaGreatDoorPart40
import Derived.Test.YtfmmllpjgkgeaaaGreatDoorPart45
set_option linter.unusedVariables false
set_option linter.unusedSimpArgs false
set_option maxHeartbeats 16000000
set_option maxRecDepth 100000
namespace Go.Proofs.YtfmmllpjgkgeaaaGreatDoor
open Go.RowKit Go.Maps Go.WideMaps

def r50 (k:Nat):Prop:=k=50
def ProgH (A:Nat->Nat->Prop) (Z:Nat->Prop) (w:World) (x:Nat) (S:Nat->Prop) (s:St):Prop :=
 ∃ q cap fv ds bs D P,CluF r50 w x S s q cap fv ds bs D P/\(∀ i (h:i<ds.length) j,j<ds.length->A i j->sizeK ds[i].K<=ds[i].A j)/\∀ i (h:i<ds.length),Z i->ds[i].ps=[]
def ProgL (k:Nat) (w:World) (x:Nat) (S:Nat->Prop) (s:St):Prop :=
 ∃ q cap fv ds bs D P,CluF r50 w x S s q cap fv ds bs D P/\∃ h0:1<ds.length,ds[0].dr<=ds[0].A 1/\ds[0].ps.length=k/\∃ ns:List Nat,ns.length<=k/\∀ p∈ds[0].ps,∀ d,p.st.It d≠none->d∈ns

theorem tick_all {nb:List Nat} {A:Nat->Nat} {m:Nat} (hA:∀ j∈nb,m<=A j):∀ {ps:List PcD},(∀ p∈ps,p.mark<=m)->tickP nb A ps=[]
 | [],_=>rfl
 | p :: ps,h=>by
  unfold tickP
  rw[if_pos ((all_dec nb A p.mark).2 (fun j hj=>Nat.le_trans (h p (by simp)) (hA j hj)))]
  exact tick_all hA (fun q hq=>h q (by simp[hq]))
theorem nodup_sum {α : Type} [DecidableEq α] (f:α->Thk.Bs):∀ {l m:List α},l.Nodup->(∀ x∈l,x∈m)->(l.flatMap f).length<=(m.flatMap f).length
 | [],_,_,_=>by simp
 | x :: l,m,hn,hm=>by
  obtain ⟨m1,m2,rfl⟩:=List.append_of_mem (hm x (by simp))
  have hn':=List.nodup_cons.1 hn
  have ih:=nodup_sum f (l:=l) (m:=m1 ++ m2) hn'.2 (fun y hy=>by
   have h1:=hm y (by simp[hy])
   have hne:y≠x:=fun e=>hn'.1 (e ▸ hy)
   simp only[List.mem_append,List.mem_cons] at h1 ⊢
   rcases h1 with h1 | h1 | h1
   ·exact Or.inl h1
   ·exact absurd h1 hne
   ·exact Or.inr h1)
  simp only[List.flatMap_cons,List.flatMap_append,List.length_append] at ih ⊢
  omega
theorem encN_1 {n:Nat} (h:n<128):(encN n).length=1:=by rw[encN_one h];(first | done | rfl)
theorem runs_short {S:Nat->Prop} {C:Nat->Option Thk.Ch} {rs:List (Nat × Nat)} {its:List (Nat × Thk.Bs)} (h:EncOf S C rs its) (hS:∀ d,1<=nth d->S d->nth d<=120):(rs.flatMap encR).length<=rs.length*3:=by
 refine flatMap_le' encR 3 rs (fun r hr=>?_)
 have ho:=h.ro r hr
 obtain ⟨⟨o1,o2,o3⟩,o4,o5,o6⟩:=ho
 have hn:nth (r.1+(r.2-1))=nth r.1+(r.2-1):=nth_add (by omega)
 have hm:r.1+(r.2-1)∈flatR rs:=List.mem_flatMap.2 ⟨r,hr,List.mem_map.2 ⟨r.2-1,List.mem_range.2 (by omega),rfl⟩⟩
 have hS2:=hS _ (by omega) ((h.dots _ (by omega)).1 (Or.inr hm))
 unfold encR encD
 rw[List.length_append,List.length_append,encN_1 (by omega),encN_1 (by omega),encN_1 (by omega)]
 decide
theorem chOK_len {c:Thk.Ch} (h:ChOK c):(txtC c).length<=29:=by
 obtain ⟨p1,p2,_⟩:=Thk.read_ok _ _ h.2.1
 have:=(txt_read h.2.1 h.2.2).2
 omega
theorem enc_sz (a m:Nat) (rs:List (Nat × Nat)) (its:List (Nat × Thk.Bs)):(sealL (encFm a m rs its)).length=4+((encN 0).length+(encN a).length+(encN m).length+((encN rs.length).length+(rs.flatMap encR).length+(encN its.length).length+(its.flatMap encI).length)):=by
 unfold encFm encS
 rw[sealL_len]
 simp only[List.length_append]
 omega
theorem items_short {S:Nat->Prop} {C:Nat->Option Thk.Ch} {rs:List (Nat × Nat)} {its:List (Nat × Thk.Bs)} (h:EncOf S C rs its) (hB:StoB S C):(its.flatMap encI).length<=its.length*35:=by
 refine flatMap_le' encI 35 its (fun x hx=>?_)
 unfold encI encD
 have:=encN_len (who x.1);have:=encN_len (nth x.1);have:=encN_len x.2.length
 obtain ⟨c,hc,e⟩:=h.tx x hx
 have:=chOK_len (hB.all _ c hc)
 rw[<- e] at this
 simp only[List.length_append];omega
theorem items_same {S:Nat->Prop} {C:Nat->Option Thk.Ch} {rs rs':List (Nat × Nat)} {its its':List (Nat × Thk.Bs)} (h:EncOf S C rs its) (h':EncOf S C rs' its'):(its.flatMap encI).length<=(its'.flatMap encI).length:=by
 have hnd:its.Nodup:=(List.pairwise_map.1 h.nd).imp (fun h e=>h (congrArg _ e))
 refine nodup_sum encI hnd (fun x hx=>?_)
 obtain ⟨c,hc,e⟩:=h.tx x hx
 have hne:itsC its' its'.length x.1≠none:=by rw[h'.it];exact itOf_none.2 (by rw[hc];simp)
 unfold itsC at hne
 rw[List.take_length] at hne
 cases hf:its'.reverse.find? (fun y=>y.1 == x.1) with
 | none=>rw[hf] at hne;exact absurd rfl hne
 | some y =>
  have h1:y.1=x.1:=by simpa using List.find?_some hf
  have h2:=List.mem_reverse.1 (List.mem_of_find?_eq_some hf)
  obtain ⟨c',hc',e'⟩:=h'.tx y h2
  rw[h1,hc] at hc'
  cases hc'
  have:y=x:=Prod.ext h1 (by rw[e,e'])
  rw[<- this];exact h2
section
variable {es:List Ev} {D:List Nat} {n:Nat} {kn:List Bool} {r:RD}
theorem dots_low (hK:Kn es D kn r.K r.C) (hE:EvD es D n) (h12:es.length<=120):∀ d,1<=nth d->fst r.K d->nth d<=120:=fun d h1 h2=>by
 have:=hK.dle hE (who d)
 unfold fst at h2
 omega
theorem runs_le {S:Nat->Prop} {C:Nat->Option Thk.Ch} {rs:List (Nat × Nat)} {its:List (Nat × Thk.Bs)} (h:EncOf S C rs its) (hK:Kn es D kn r.K r.C) (hE:EvD es D n) (hS:∀ d,1<=nth d->S d->fst r.K d):rs.length<=es.length:=by
 obtain ⟨n1,a1,a2,a3⟩:=h.rl
 have c1:=nodup_le a1 (m:=D) (fun d hd=>hK.mem (a2 d hd).1 (hS d (a2 d hd).1 (a2 d hd).2))
 rw[hE.len] at c1
 omega
theorem slim_S (hP:PcOK r) {j:Nat} {S:Nat->Prop} {C:Nat->Option Thk.Ch} (h:SlimS r j S C):∀ d,1<=nth d->S d->fst r.K d:=fun d h1 h2=>by
 obtain ⟨_,rfl,_⟩:=h
 obtain ⟨s,hs,h3⟩:=h2
 obtain ⟨p,hp,rfl,_⟩:=lackL_mem hs
 exact hP.s p hp d h1 h3
theorem slim_its {j k:Nat} {S:Nat->Prop} {C:Nat->Option Thk.Ch} {rs:List (Nat × Nat)} {its:List (Nat × Thk.Bs)} (hs:SlimS r j S C) (h:EncOf S C rs its) {ns:List Nat} (hn:ns.length<=k) (hit:∀ p∈r.ps,∀ d,p.st.It d≠none->d∈ns):its.length<=k:=by
 obtain ⟨n2,b1,b2,b3⟩:=h.il
 have:=nodup_le b1 (m:=ns) (fun d hd=>by
  have h1:=b2 d hd
  cases hc:C d with
  | none=>exact absurd hc h1
  | some c =>
   obtain ⟨s,hs2,h3⟩:=(hs.2.2.1 d (chV c) (by unfold itOf;rw[hc];rfl)).1
   obtain ⟨p,hp,rfl,_⟩:=lackL_mem hs2
   exact hit p hp d (by rw[h3];simp))
 omega
theorem send_bound (hK:Kn es D kn r.K r.C) (hE:EvD es D n) (h12:es.length<=120) (hP:PcOK r) (ha:r.a<=5) {k:Nat} {b:ByteArray} (hb:FrBy b r 1) (hdr:r.dr<=r.A 1) {ns:List Nat} (hn:ns.length<=k) (hit:∀ p∈r.ps,∀ d,p.st.It d≠none->d∈ns) (hk:r.ps.length=k):b.size<=80+80*k+8*es.length/\(k=0->b.size<=80):=by
 obtain ⟨S,C,rs,its,hs,hB,hby,he,_⟩:=hb
 have hlow:=dots_low hK hE h12
 have hsz:=toL_length b
 rw[hby,enc_sz] at hsz
 have q0:=encN_len 0
 have q1:=encN_len r.a
 have q2:=encN_len (sizeK r.K)
 have q3:=encN_len rs.length
 have q4:=encN_len its.length
 have w0:(encN 0).length=1:=encN_1 (by omega)
 have none0:∀ {S:Nat->Prop} {C:Nat->Option Thk.Ch} {rs:List (Nat × Nat)} {its:List (Nat × Thk.Bs)},k=0->SlimS r 1 S C->EncOf S C rs its->rs.length=0/\its.length=0:=fun {S C rs its} e hs he=>by
  have h1:=slim_its hs he hn hit
  obtain ⟨n1,a1,a2,a3⟩:=he.rl
  have hp:r.ps=[]:=List.eq_nil_of_length_eq_zero (by omega)
  cases n1 with
  | nil=>exact ⟨Nat.le_zero.1 a3,by omega⟩
  | cons d l =>
   have:=(a2 d (by simp)).2
   obtain ⟨_,rfl,_⟩:=hs
   obtain ⟨s,hs2,_⟩:=this
   rw[hp] at hs2
   simp[lackL] at hs2
 rcases hs with ⟨rfl,rfl,hsh⟩ | hs
 ·obtain ⟨S',C',s1,s2,z1,⟨zB,rs1,its1,z2,z3⟩,⟨_,rs2,its2,z4,z5⟩,z6⟩:=hsh hdr
  have hz1:=toL_length s1
  rw[z2,enc_sz] at hz1
  have hz2:=toL_length s2
  rw[z4,enc_sz] at hz2
  have e1:=slim_its z1 z3 hn hit
  have e2:=runs_le z3 hK hE (slim_S hP z1)
  have e3:=runs_short z3 (fun d h1 h2=>hlow d h1 (slim_S hP z1 d h1 h2))
  have e4:=items_short z3 zB
  have e5:=runs_short he hlow
  have e6:=runs_le he hK hE (fun d _ h=>h)
  have e7:=items_same he z5
  have u1:=encN_len rs1.length
  have u2:=encN_len its1.length
  have u3:=encN_len rs2.length
  have u4:=encN_len its2.length
  refine ⟨by omega,fun h0=>?_⟩
  obtain ⟨g1,g2⟩:=none0 h0 z1 z3
  have w1:(encN rs1.length).length=1:=by rw[g1];exact w0
  have w2:(encN its1.length).length=1:=by rw[g2];exact w0
  rw[g1] at e3
  rw[g2] at e4
  omega
 ·have e1:=slim_its hs he hn hit
  have e2:=runs_le he hK hE (slim_S hP hs)
  have e3:=runs_short he (fun d h1 h2=>hlow d h1 (slim_S hP hs d h1 h2))
  have e4:=items_short he hB
  refine ⟨by omega,fun h0=>?_⟩
  obtain ⟨g1,g2⟩:=none0 h0 hs he
  rw[g1] at e3
  rw[g2] at e4
  omega
end

section
variable {ρ : Nat->Prop} {w:World} {x:Nat} {S:Nat->Prop} {s:St} {q cap:Nat} {fv:Value} {ds:List RepD} {bs:List (Nat × ByteArray)} {D:List Nat} {P:Nat->Hs->Prop}
theorem CluF.past (h:CluF ρ w x S s q cap fv ds bs D P) {i:Nat} (hi:i<ds.length) {y:Hs} (hy:P i y):cnt y.kn<=sizeK ds[i].K:=by
 have h1:=Hs.cnt_le ((h.hist i hi).ok y hy) ((h.hist i hi).ok _ (h.hist i hi).now) ((h.hist i hi).top y hy)
 rw[curs_at s ds i hi] at h1
 rw[<- h.size i hi];exact h1
theorem CluF.marks (h:CluF ρ w x S s q cap fv ds bs D P) {i:Nat} (hi:i<ds.length):(∀ p∈ds[i].ps,p.mark<=sizeK ds[i].K)/\ds[i].dr<=sizeK ds[i].K:=by
 obtain ⟨s0,d1,d2,d3⟩:=(h.hist i hi).dr
 refine ⟨fun p hp=>?_,by rw[<- d2];exact h.past hi d1⟩
 obtain ⟨a,b,ha,hb⟩:=d3.mem d1 p hp
 rw[hb.mark];exact h.past hi hb.pb
theorem CluF.frm (h:CluF ρ w x S s q cap fv ds bs D P) (f:Int) :
  Calls Tryz.prog 28 #[.pointer (some ⟨x,0,none⟩),.int .i64 f] w fun e w'=>e=.returned (.tuple #[.string (frameR s f).1,.int .i64 (frameR s f).2])/\CluP w' x q cap fv 0 ds bs/\Chg (fun k=>k=x) w w':=by
 refine Calls.mono (CFrame_any w x q cap fv ds bs h.clu h.bsz f) ?_
 rintro e w' ⟨rfl,hC,hc⟩
 have hbl:=h.blen
 have fin:frameD bs f=frameR s f:=by
  unfold frameD frameR frNo
  by_cases hf:1<=f/\f<=bs.length
  ·rw[if_pos hf,if_pos (by rw[<- hbl];exact hf)]
   have h1:f.toNat-1<bs.length:=by omega
   have h2:f.toNat-1<s.fs.length:=by omega
   obtain ⟨_,f2,_⟩:=h.frs _ h1 h2
   rw[List.getElem?_eq_getElem h1,List.getElem?_eq_getElem h2]
   simp only[Option.map_some,Option.getD_some]
   rw[f2]
  ·rw[if_neg hf,if_neg (by rw[<- hbl];exact hf)]
 exact ⟨by rw[fin],hC,hc⟩
theorem CluF.wts (h:CluF ρ w x S s q cap fv ds bs D P) {i:Nat} (hi:i<ds.length) :
  Calls Tryz.prog 37 #[.pointer (some ⟨x,0,none⟩),.int .i64 (i:Int)] w fun e w'=>e=.returned (.tuple #[.int .i64 (ds[i].ps.length:Int),.int .i64 0])/\CluP w' x q cap fv 0 ds bs/\Chg (fun k=>k=x) w w':=by
 refine Calls.mono (CWaiting_any w x q cap fv ds bs h.clu i) ?_
 rintro e w' ⟨rfl,hC,hc⟩
 have e1:waitD ds (i:Int)=((ds[i].ps.length:Int),0):=by
  unfold waitD
  rw[if_pos (by omega)]
  simp[hi]
 exact ⟨by rw[e1],hC,hc⟩
theorem CluF.one (h:CluF ρ w x S s q cap fv ds bs D P) {i:Nat} (hi:i<ds.length) {c:Thk.Ch} {K:Nat->Nat} {n d:Nat} (hd:newC ds[i] K (stepC ds[i].C c n) d≠none):d=n:=by
 refine Classical.byContradiction fun hne=>hd ?_
 unfold newC
 refine if_neg fun hn=>?_
 have hst:stepC ds[i].C c n d≠none:=fun e=>hd (by unfold newC;rw[e];simp)
 unfold stepC at hst
 rw[if_neg hne] at hst
 have hc:ds[i].C d≠none:=fun e=>by rw[e] at hst;exact hst rfl
 refine hn.2 ⟨((h.tie i hi).alv h.evd hc).2.2,fun e=>?_,fun e=>absurd e hc⟩
 unfold stepC at e
 rw[if_neg hne] at e
 exact absurd e hst
end
theorem prog_slim:ProgSlim (ProgF r50) ProgH ProgL:={
 inn:=by
  rintro w x S s ⟨q,cap,fv,ds,bs,D,P,h⟩
  exact ⟨q,cap,fv,ds,bs,D,P,h,fun _ _ _ _ h=>h.elim,fun _ _ h=>h.elim⟩
 mono:=by
  rintro A A' Z Z' w x S s ⟨q,cap,fv,ds,bs,D,P,h,a,z⟩ hA hZ
  exact ⟨q,cap,fv,ds,bs,D,P,h,fun i hi j hj h2=>a i hi j hj (hA _ _ h2),fun i hi h2=>z i hi (hZ _ h2)⟩
 sends:=by
  rintro A Z w x S s i j hG ⟨q,cap,fv,ds,bs,D,P,h,a,z⟩
  refine Calls.mono (h.sends hG i j) ?_
  rintro e w' ⟨rfl,S',s',fv',bs',h1,h2,_,h3,h4⟩
  exact ⟨rfl,S',s',h1,⟨q,cap,fv',ds,bs',D,P,h2,a,z⟩,h3,h4⟩
 data:=by
  rintro A Z w x S s f hG ⟨q,cap,fv,ds,bs,D,P,h,a,z⟩
  refine Calls.mono (h.dels hG f) ?_
  rintro e w' ⟨rfl,S',s',fv',ds',bs',P',h1,h2,h5,_,h3,h4⟩
  refine ⟨rfl,S',s',h1,fun hk=>?_,h3,h4⟩
  obtain ⟨l,kp⟩:=h5 hk
  refine ⟨q,cap,fv',ds',bs',D,P',h2,fun i hi j hj hA=>?_,fun i hi hz=>?_⟩
  ·obtain ⟨e1,_,_,_,e5⟩:=kp i (by omega) hi
   rw[e1];exact Nat.le_trans (a i (by omega) j (by omega) hA) (e5 j)
  ·obtain ⟨_,e2,_⟩:=kp i (by omega) hi
   rw[e2];exact z i (by omega) hz
 ackd:=by
  rintro A Z w x S s f g g0 hG ⟨q,cap,fv,ds,bs,D,P,h,a,z⟩ hg ha hg0 hcn
  refine Calls.mono (h.dels hG f) ?_
  have e1:delR s f=(0,0):=by unfold delR;rw[hg];exact if_pos ha
  rw[e1]
  rintro e w' ⟨rfl,S',s',fv',ds',bs',P',⟨t1,t2⟩,h2,h5,h6,h3,h4⟩
  rw[hg] at t2
  dsimp only at t2
  rw[if_pos (Or.inl ha)] at t2
  obtain ⟨t2,t3⟩:=t2
  have hs:s'=s:=by
   obtain ⟨a1,a2,a3⟩:=s'
   obtain ⟨b1,b2,b3⟩:=s
   simp only at t1 t2 t3
   rw[t1,t2,t3]
  subst hs
  obtain ⟨l,kp⟩:=h5 rfl
  refine ⟨rfl,S',⟨q,cap,fv',ds',bs',D,P',h2,fun i hi j hj hA=>?_,fun i hi hz=>?_⟩,h3,h4⟩
  ·rcases hA with hA | ⟨rfl,rfl⟩
   ·obtain ⟨e1,_,_,_,e5⟩:=kp i (by omega) hi
    rw[e1];exact Nat.le_trans (a i (by omega) j (by omega) hA) (e5 j)
   ·have:=h6 g g0 hg ha hg0 hi
    rw[hcn,h2.size _ hi] at this
    exact this
  ·obtain ⟨_,e2,_⟩:=kp i (by omega) hi
   rw[e2];exact z i (by omega) hz
 tick:=by
  rintro A Z w x S s i hG ⟨q,cap,fv,ds,bs,D,P,h,a,z⟩ hi hA
  have hle:=h.len
  refine Calls.mono (CTick_any w hG x q cap fv ds bs h.clu i) ?_
  rintro e w' ⟨ds',rfl,hL,hC,hc⟩
  have e0:namedR ds.length (i:Int)=0:=by unfold namedR;exact if_pos (by omega)
  rw[e0]
  rcases hL with ⟨hn,_⟩ | ⟨k,hk,r',hik,hr,hq,rfl⟩
  ·exact absurd (by omega) hn
  ·have hik':i=k:=by omega
   subst hik'
   obtain ⟨pv,rfl⟩:=hq
   have hF:=h.same hk ⟨hr.cut.trans (h.cut i hk).1,(h.cut i hk).2⟩ rfl rfl ((h.hist i hk).ticked ⟨pv,rfl⟩) hC
   have hnil:tickP ds[i].nb ds[i].A ds[i].ps=[]:=tick_all (m:=sizeK ds[i].K) (fun j hj=>by
    have:=((h.clu.ra i hk).2 j).1 hj
    exact a i hk j this.1 (hA j (by omega) this.2)) (h.marks hk).1
   refine ⟨rfl,_,⟨q,cap,fv,_,bs,D,P,hF,fun i2 h2 j hj hA2=>?_,fun i2 h2 hz=>?_⟩,h.ownR hk hr.r0 (fun g hg=>Or.inl hg),h.sc hc⟩
   ·rw[List.length_set] at h2 hj
    rw[List.getElem_set]
    by_cases e:i=i2
    ·subst e
     rw[if_pos rfl]
     exact a i hk j hj hA2
    ·rw[if_neg e];exact a i2 h2 j hj hA2
   ·rw[List.length_set] at h2
    rw[List.getElem_set]
    by_cases e:i=i2
    ·rw[if_pos e];exact hnil
    ·rw[if_neg e];exact z i2 h2 (hz.resolve_right (fun e2=>e e2.symm))
 waits:=by
  rintro A Z w x S s i ⟨q,cap,fv,ds,bs,D,P,h,a,z⟩ hi hz
  have hi':i<ds.length:=by rw[<- h.len];exact hi
  refine Calls.mono (h.wts hi') ?_
  rintro e w' ⟨rfl,hC,hc⟩
  rw[z i hi' hz]
  exact ⟨rfl,S,⟨q,cap,fv,ds,bs,D,P,h.keep hC,a,z⟩,fun k hk=>Or.inl hk,h.sx hc⟩
 toLL:=by
  rintro A Z w x S s ⟨q,cap,fv,ds,bs,D,P,h,a,z⟩ hA hZ h2
  have hl:=h.len
  have h0:0<ds.length:=by omega
  have hp:=z 0 h0 hZ
  exact ⟨q,cap,fv,ds,bs,D,P,h,by omega,Nat.le_trans (h.marks h0).2 (a 0 h0 1 (by omega) hA),by rw[hp];rfl,[],by simp,fun p hp2=>by rw[hp] at hp2;simp at hp2⟩
 sendL:=by
  rintro k w x S s hG ⟨q,cap,fv,ds,bs,D,P,h,h0,hdr,hps,ns,hn,hit⟩ h2 hf h12 hk
  have h00:0<ds.length:=by omega
  have e1:sendR s 0 1=((s.fs.length:Int)+1,0):=sendR_ok (s:=s) (i:=0) (j:=1) (by omega) (by omega) (by omega) hf
  refine Calls.mono (h.sends hG 0 1) ?_
  rintro e w' ⟨rfl,S',s',fv',bs',⟨t1,t2,t3⟩,hF,hb,h3,h4⟩
  rw[e1,if_pos rfl] at t3
  obtain ⟨b,t3⟩:=t3
  have hB:=send_bound (h.tie 0 h00) h.evd h12 ((h.hist 0 h00).pcOK h.evd h.clu.len h.e500 h.src) (h.clu.rep 0 h00).a5 (hb 0 1 b t3 h00) hdr hn hit hps
  exact ⟨by rw[e1],S',s',b,t1,t2,t3,hB.1,hB.2,⟨q,cap,fv',ds,bs',D,P,hF,h0,hdr,hps,ns,hn,hit⟩,h3,h4⟩
 frameL:=by
  rintro k w x S s f hG ⟨q,cap,fv,ds,bs,D,P,h,hx⟩
  refine Calls.mono (h.frm f) ?_
  rintro e w' ⟨rfl,hC,hc⟩
  exact ⟨rfl,S,⟨q,cap,fv,ds,bs,D,P,h.keep hC,hx⟩,fun k hk=>Or.inl hk,h.sx hc⟩
 doL:=by
  rintro k w x S s t es' kn' hG ⟨q,cap,fv,ds,bs,D,P,h,h0,hdr,hps,ns,hn,hit⟩ hk50 hs hd
  have h00:0<ds.length:=by omega
  have hle:=h.len
  have hsm:=h.sum
  refine Calls.mono (CDo_any w hG x q cap fv ds bs h.clu (fun k hk=>(h.cut k hk).1) 0 t hs (fun k hk c hr hl=>(h.doB hr hk (by rw[<- h.sum];exact hl)).2.2.1)) ?_
  rintro e w' ⟨r',ds',rfl,hD,hC,hc⟩
  have hcS:Chg S w w':=h.sc hc
  obtain ⟨c',e',h3,h4,h5,b1,b2,b3,b4,b5,rfl,rfl⟩:∃ (c:Thk.Ch) (e:Ev),(0<=(0:Int)/\(0:Int)<s.kn.length)/\Thk.read (toL t)=.inr c/\s.es.length<500/\toL e.p=c.path/\e.a=c.act/\toL e.v=c.val/\e.n=c.n/\e.saw=s.kn.getD 0 []/\es'=s.es ++ [e]/\kn'=s.kn.set 0 (moreOf (s.kn.getD 0 []) s.es.length):=by
   rcases hd with ⟨_,h9,_⟩ | ⟨m,_,h8,h9,_⟩ | ⟨c',_,_,_,h9,_⟩ | ⟨c',e',h3,h4,h5,b1,b2,b3,b4,b5,_,rfl,rfl⟩
   ·exact absurd h9 (by decide)
   ·have:=(Thk.read_err _ _ h8).1
    omega
   ·exact absurd h9 (by decide)
   ·exact ⟨c',e',h3,h4,h5,b1,b2,b3,b4,b5,rfl,rfl⟩
  rcases hD with ⟨hi,_⟩ | ⟨m,hi,hr,_⟩ | ⟨c,hi,hr,hl,_⟩ | ⟨c,k',hk,r2,hk0,hr,hl,hM,rfl,rfl⟩
  ·exact absurd (by omega) hi
  ·rw[hr] at h4;cases h4
  ·omega
  ·have hk0':k'=0:=by omega
   subst hk0'
   rw[hr] at h4
   cases h4
   obtain ⟨S',D',P',h6,h7⟩:=h.done hr hk h5 b1 b2 b3 b4 b5 hM hC
   refine ⟨rfl,S',⟨q,cap,fv,_,bs,D',P',h6,by rw[List.length_set];exact h0, ?_⟩,h7,hcS⟩
   have e9:(ds.set 0 r2)[0]'(by rw[List.length_set];exact h00)=r2:=by rw[List.getElem_set,if_pos rfl]
   obtain ⟨io,co,lo,st,pv,rfl,hS,hI,_⟩:=hM
   have hrm:ds[0].room=50:=(h.cut 0 hk).2
   have q1:addD ds[0].room ds[0].dr ds[0].ps ⟨sizeK (inc ds[0].K 0),0,st⟩=ds[0].dr:=by unfold addD;exact if_neg (by omega)
   have q2:addP ds[0].room ds[0].ps ⟨sizeK (inc ds[0].K 0),0,st⟩=ds[0].ps ++ [⟨sizeK (inc ds[0].K 0),0,st⟩]:=by unfold addP;exact if_neg (by omega)
   rw[e9]
   refine ⟨?_, ?_,mkD 0 (ds[0].K 0+1) :: ns,by simp;omega, ?_⟩
   ·show addD ds[0].room ds[0].dr ds[0].ps ⟨sizeK (inc ds[0].K 0),0,st⟩<=ds[0].A 1
    rw[q1];exact hdr
   ·show (addP ds[0].room ds[0].ps ⟨sizeK (inc ds[0].K 0),0,st⟩).length=k+1
    rw[q2];simp;omega
   ·show ∀ p∈addP ds[0].room ds[0].ps ⟨sizeK (inc ds[0].K 0),0,st⟩,∀ d,p.st.It d≠none->d∈mkD 0 (ds[0].K 0+1) :: ns
    rw[q2]
    intro p hp d hd
    rcases List.mem_append.1 hp with hp | hp
    ·exact List.mem_cons_of_mem _ (hit p hp d hd)
    ·rw[List.mem_singleton] at hp
     subst hp
     have hd':st.It d≠none:=hd
     rw[hI] at hd'
     rw[h.one hk (itOf_none.1 hd')]
     simp
 waitL:=by
  rintro k w x S s ⟨q,cap,fv,ds,bs,D,P,h,h0,hdr,hps,hx⟩ _
  refine Calls.mono (h.wts (i:=0) (by omega)) ?_
  rintro e w' ⟨rfl,hC,hc⟩
  exact ⟨by rw[hps],S,⟨q,cap,fv,ds,bs,D,P,h.keep hC,h0,hdr,hps,hx⟩,fun k hk=>Or.inl hk,h.sx hc⟩
 stL:=by
  rintro k M w w' x S s ⟨q,cap,fv,ds,bs,D,P,h,hx⟩ hc hm
  exact ⟨q,cap,fv,ds,bs,D,P,h.chg hc hm,hx⟩ }
end Go.Proofs.YtfmmllpjgkgeaaaGreatDoor

