import Derived.Test.YtfmmllpjgkgeaaaGreatDoorPartS05
set_option linter.unusedVariables false
set_option linter.unusedSimpArgs false
set_option maxHeartbeats 16000000
set_option maxRecDepth 100000
namespace Go.Proofs.YtfmmllpjgkgeaaaGreatDoor
section
open Go.Proofs.Tryz Go.RowKit
theorem RefDo_any(w:World)(c rb:Nat)(d C:Value)(B:Nat->Value)(y:Nat)(es:List Ev)(n:Ld)(xH:∀k,(n.ls k).made+1<=1000/\(n.ls k).lost+1<=1000)(knowns:List (List Bool))(h:RefL w c rb d C B y es es.length n knowns)(i:Int)(s:ByteArray)(hs:s.size<=1048576):Calls prog 116 #[.pointer (some (z c)),.int .i64 i,.string s] w λe w' => ∃(r:Int)(ck:Value)(es':List Ev)(Gp:List (List Bool))(I':Nat->Prop),e=.returned (.int .i64 r)/\DoOut es knowns i (toL s) r es' Gp/\(∀g,I' g->n.I g\/w.heap.size<=g)/\(∀g,n.I g->I' g)/\RefL w' c rb ck C B y es' es'.length ⟨I',if r=0 then updN n.ls i.toNat ((n.ls i.toNat).write y)else n.ls⟩ Gp /\ Chg (λx=>x=c\/x=rb\/d.ownBlock=some x) w w'/\(ck.ownBlock=d.ownBlock\/∃ci,ck.ownBlock=some ci/\w.heap.size<=ci):=by
 have H:J<|RefL w c rb d C B y es es.length n knowns:=h;clear h;by_cases Y:0<=i/\i<knowns.length
 .obtain⟨k,rfl⟩:=Int.eq_ofNat_of_zero_le Y.1;have Z:k<knowns.length:=V
  go_enter func116,ntmps116;go_wp2_with fail;refine(UpL_any w c rb d C B y es _ _ knowns H.o (k:Int)).mono ?_;rintro e D⟨rfl,al⟩;subst al;rw[show upR knowns (k:Int)=0 from ώ Y];go_wp2_with fail;refine(KF s _ hs).mono ?_;rintro e f⟨N,M⟩;have A:J<|RefL f c rb d C B y es es.length n knowns:=H.o.below M;cases hr:Thk.read (toL s) with
  | inl m =>
   rw[hr]at N;have bv:e=.returned (.tuple #[iU,.int .i64 m]):=N;subst bv;have ba:J<|0<m/\m<=6:=Thk.read_err _ _ hr;have cd:=ba.o.1;have ce:=ba.o.2;have cf:((m:Int) !=0)=true:=by rw[bne_iff_ne];omega
   have Hr:J<|_:=hr;clear hr N;go_wp2;go_ret;refine⟨m,d,es,knowns,n.I,rfl,.bad m Y Hr.o,λg h=>τ h,λ_ h=>h, ?_, ?_,τ rfl⟩
   .rw[ύ V];exact A.o.below ((φ _ _).alloc (χ _) _)
   .exact Chg.of_below (M.trans (((φ _ _).alloc (χ _) _).mono M.size))
  | inr ch =>
   rw[hr]at N;obtain⟨p,v,rfl,hp,hv⟩:=N;have Hr:J<|_:=hr;have bl:J<|_:=Thk.read_ok _ _ hr;have Hp:J<|_:=hp;have Hv:J<|_:=hv;clear hr hp hv;have f3:=A.o.f3;obtain⟨bo,f1,cb⟩:=A.o.f1;have cg:=A.o.n500;have h6:=A.o.n6;have a6:=A.o.tc.lt;have aj:=A.o.trb.lt;have YP:∀q,(f.alloc q).cell? (O c 3)=some (.int .i64 es.length):=λq=>(((φ _ f).alloc (χ _) q).cell (p:=(O c 3)) a6).trans f3;have YQ:∀q,(f.alloc q).cell? (O c 1)=some (.slice (some (z rb)) knowns.length bo):=λq=>(((φ _ f).alloc (χ _) q).cell (p:=(O c 1)) a6).trans f1;by_cases bz:500<=es.length
   .go_wp2;go_ret;refine⟨7,d,es,knowns,n.I,rfl,.full ch Y Hr.o bz,λg h=>τ h,λ_ h=>h, ?_, ?_,τ rfl⟩
    .rw[ύ V];exact A.o.below ((φ _ _).alloc (χ _) _)
    .exact Chg.of_below (M.trans (((φ _ _).alloc (χ _) _).mono M.size))
   .go_upto_region 10 with fail
    have aa:J<|ϑ f (f.alloc (.cells #[.string p,.int .u8 (ch.act.toNat:Int),.string v,.int .i64 ch.n,.slice none 0 0] 239)):=(φ _ _).alloc (χ _) _;have G:J<|RefL (f.alloc (.cells #[.string p,.int .u8 (ch.act.toNat:Int),.string v,.int .i64 ch.n,.slice none 0 0] 239)) c rb d C B y es es.length n knowns:=A.o.below aa.o;have X:J<|Blk5 f.heap.size (.string p) (.int .u8 (ch.act.toNat:Int)) (.string v) (.int .i64 ch.n) (.slice none 0 0) (f.alloc (.cells #[.string p,.int .u8 (ch.act.toNat:Int),.string v,.int .i64 ch.n,.slice none 0 0] 239)):=blk5 (φ (f.heap.size+1) _) V;have L:J<|Tagged (f.alloc (.cells #[.string p,.int .u8 (ch.act.toNat:Int),.string v,.int .i64 ch.n,.slice none 0 0] 239)) f.heap.size 239:=⟨_,heap_alloc_new f _⟩;have a1:f.heap.size<(f.alloc (.cells #[.string p,.int .u8 (ch.act.toNat:Int),.string v,.int .i64 ch.n,.slice none 0 0] 239)).heap.size:=Ω
    have O6:J<|Chg (λx=>x=c\/x=rb\/d.ownBlock=some x) D (f.alloc (.cells #[.string p,.int .u8 (ch.act.toNat:Int),.string v,.int .i64 ch.n,.slice none 0 0] 239)):=Chg.of_below (M.trans (aa.o.mono M.size));have Vo:J<|∀ci,d.ownBlock=some ci->ci<f.heap.size:=λci hg=>(A.o.evLt ci hg).1;have YR:J<|D.heap.size<=(f.alloc (.cells #[.string p,.int .u8 (ch.act.toNat:Int),.string v,.int .i64 ch.n,.slice none 0 0] 239)).heap.size:=O6.o.size;have YS:J<|D.heap.size<=f.heap.size:=M.size;clear f3 f1 YP YQ a6 aj A aa M;generalize f.alloc (.cells #[.string p,.int .u8 (ch.act.toNat:Int),.string v,.int .i64 ch.n,.slice none 0 0] 239)=cj at *;generalize f.heap.size=e0 at *;obtain⟨⟨kv,a0,b0⟩,_⟩:=G.o.reps k Z;have aq:J<|knowns.getD k []=knowns[k]:=ω<|by simp[σ Z]
    have b9:=G.o.kn _ (κ Z);generalize hkn:knowns[k]=b at *;obtain⟨i4,a7,RU,O7,RV⟩:=info_parts Tryz.info4;have b4:(bools b).length=b.length:=by simp[bools]
    have ac:=X.o.f;have bh:=G.o.trb.lt;have YT:=G.o.tc.lt;have bn:∀q,(cj.alloc q).cell? (O rb (k*13))=some kv:=λq=>(((φ _ cj).alloc (χ _) q).cell (p:=(O rb (k*13))) bh).trans a0;have bp:∀q,(cj.alloc q).cell? (O e0 4)=some (.slice none 0 0):=λq=>(((φ _ cj).alloc (χ _) q).cell (p:=(O e0 4)) a1).trans X.o.c4;have bq:∀q j,(cj.alloc q).frozen? (O e0 j)=false:=λq j=>(((φ _ cj).alloc (χ _) q).frozen (p:=(O e0 j)) a1).trans (ac j);go_cut []from 37 to 43 (λt=>∃Q P,Blk5 e0 (.string p) (.int .u8 (ch.act.toNat:Int)) (.string v) (.int .i64 ch.n) (.slice Q b.length P) t/\Chg (λx=>x=e0) cj t/\SliceT 4 t (.slice Q b.length P) (bools b))
    case first =>
     rcases b0 with⟨rfl,c4⟩|⟨E,F,pc,rfl,c5,ai,jS⟩
     .have YU:b=[]:=by simpa[bools]using c4
      subst YU;have e4:=X.o.c4;go_wp2_with (at_builtin;refine wpList_append_own_none rfl (.tmp 37) (.tmp 41) 163 rfl cj.heap.size 4 i4 1 underlying163 a7 (.slice (some (z _)) 0 0) 0 [] rfl (dw _ _ rfl (χ _)) rfl ?_);go_meet;rw[<- World.setCell_alloc_past _ e0 4 _ a1];have b3:ϑ cj (cj.alloc (.cells #[] 4)):=(φ _ _).alloc (χ _) _;obtain⟨z1,z2⟩:=Vj X.o L.o b3 (.slice (some (z cj.heap.size)) 0 0);exact⟨_,_,z1,z2,SliceT.chgT (s:=239) (own_sliceT (dw (e:=4) (base:=0) cj _ rfl (Nat.zero_le _))) ((Chg.refl (λx=>x=e0) _).setCell (p:=(O e0 4)) rfl _) (L.o.below b3) Ψ⟩
     .have ak:J<|∀t,ϑ cj t->∀j u,(bools b)[j]?=some u->t.cell? (((O E F):Addr).add j)=some u:=by
       intro t ao j u l;have a3:j<(bools b).length:=by
        rcases Nat.lt_or_ge j (bools b).length with h|h
        .exact h
        .rw[List.getElem?_eq_none h]at l;cases l
       have N:((O E F):Addr).add j=(O E (F+j)):=by unfold Addr.add;split<;>simp_all
       rw[N,ao.cell (p:=(O E (F+j))) ai.lt,jS j a3];rw[σ a3]at l;exact l
      have ag:J<|∀u∈bools b,u.oneCell'=true:=by intro u T;simp[bools]at T;rcases T with⟨_,rfl⟩|⟨_,rfl⟩<;>rfl
      clear jS;rw[b4]at *;go_wp2_with (at_builtin;go_loud (refine wpList_append_own _ rfl (.tmp 37) (.tmp 41) 163 rfl cj.heap.size 4 i4 (.bool false) 1 1 underlying163 a7 RU O7 RV rfl Ψ (.slice (some (z _)) 0 0) 0 [] rfl (dw _ _ rfl (χ _)) (O E F) b.length pc (bools b) rfl (by simp[bools]) (ak.o _ ((φ _ _).alloc (χ _) _)) ag.o (by unfold maxLen;omega) V Ω ?_;intro v5 w5 bf c0 _;have a5:ϑ cj w5:=((φ _ _).alloc (χ _) _).grown c0 Ω (λkk ae=>by simp[Value.ownBlock]at ae;omega);obtain⟨X0,X3,rfl,_⟩:=(own_sliceT bf).shape;have ca:=(a5.cell (p:=(O e0 4)) a1).trans X.o.c4;have f45:=λj=>(a5.frozen (p:=(O e0 j)) a1).trans (ac j)));go_meet;have a8:SliceT 4 w5 (.slice X0 (bools b).length X3) (bools b):=by have:=own_sliceT bf;simpa using this
      have e:(bools b).length=b.length:=by simp[bools]
      obtain⟨z1,z2⟩:=Vj X.o L.o a5 (.slice X0 (bools b).length X3);have z3:=SliceT.chgT (s:=239) a8 ((Chg.refl (λx=>x=e0) _).setCell (p:=(O e0 4)) rfl (.slice X0 (bools b).length X3)) (L.o.below a5) Ψ;rw[e]at z1 z2 z3⊢;exact⟨X0,X3,z1,z2,z3⟩
    case rest =>
    obtain⟨Q,P,az,ab,a8⟩:=hcut;have bb:∀ci,d.ownBlock=some ci->ci≠e0:=λci hg=>Nat.ne_of_lt (Vo.o ci hg);have bu:c≠e0:=G.o.tc.ne L.o Ψ;have c7:rb≠e0:=G.o.trb.ne L.o Ψ;have H5:J<|RefL wc c rb d C B y es es.length n knowns:=G.o.chg ab bu c7 bb (λg hb=>hb.ne L.o Ψ) (λg hb=>(G.o.ib g hb).ne L.o Ψ);have YV:J<|Blk5 e0 (.string p) (.int .u8 (ch.act.toNat:Int)) (.string v) (.int .i64 ch.n) (.slice Q b.length P) wc:=az;have Vp:J<|SliceT 4 wc (.slice Q b.length P) (bools b):=a8;have an:J<|Chg (λx=>x=c\/x=rb\/d.ownBlock=some x) D wc:=O6.o.trans' ab (λx hx h=>by subst h;have:=YS.o;omega);have Vq:J<|D.heap.size<=wc.heap.size:=an.o.size;clear X L a1 O6 YR G a0 b0 ac bh YT bn bp bq ab a8 bb b4;generalize wc=U at *;obtain⟨a2,c8,be,bi⟩:=H5.o.evs;have Vr:J<|∀j(h:j<a2.length)(h':j<es.length),SliceT 4 U a2[j] (bools es[j].saw):=bi;have ar:J<|U.ownsRow 0 239 5 d es.length (evCells es a2):=be;have g2:=H5.o.f2;obtain⟨d0,d1,d2,d3,d4,df⟩:=az;have a9:=H5.o.tc;have b5:=a9.frozen;have RX:=a9.lt;have Eu:J<|∀x,d.ownBlock=some x->x≠c:=λx hx=>(H5.o.evLt x hx).2.ne a9 Ψ;obtain⟨iE,b8,Vs,Vt,Vu⟩:=info_parts Tryz.infoEv;have QH:J<|∀u∈[Value.string p,.int .u8 (ch.act.toNat:Int),.string v,.int .i64 ch.n,.slice Q b.length P],u.oneCell'=true:=by intro u T;simp at T;rcases T with rfl|rfl|rfl|rfl|rfl<;>rfl
    have m1:J<|es.length+1<=maxLen:=by unfold J maxLen;omega
    have m2:J<|(es.length+1)*72<=140737488355328:=ω V
    clear bi be a9;go_wp2_with fail;go_cut []from 44 to 53 (λt=>∃w6 ck,t=w6.setCell (O c 2) ck/\Chg (λx=>d.ownBlock=some x) U w6/\w6.ownsRow 0 239 5 ck (es.length+1) (evCells es a2++[.string p,.int .u8 (ch.act.toNat:Int),.string v,.int .i64 ch.n,.slice Q b.length P])/\(ck.ownBlock=d.ownBlock\/∃ci,ck.ownBlock=some ci/\U.heap.size<=ci))
    case first =>
     go_region_law (refine dD rfl (.tmp 48) (.tmp 50) 167 rfl 239 iE iU 5 72 underlying167 b8 Vs Vt Vu rfl Ψ d es.length (evCells es a2) rfl ?_ _ 1 1 [.string p,.int .u8 (ch.act.toNat:Int),.string v,.int .i64 ch.n,.slice Q b.length P] rfl rfl ?_ QH.o m1.o m2.o (Nat.succ_pos _) ?_;(exact ar.o.alloc _);(intro j u l;match j,l with|0,l=>(cases l;simp[Addr.add])|1,l=>(cases l;simp[Addr.add])|2,l=>(cases l;simp[Addr.add])|3,l=>(cases l;simp[Addr.add])|4,l=>(cases l;simp[Addr.add]));intro K R w6 a4 c1 kZ;have W:Chg (λx=>d.ownBlock=some x) U w6:=Chg.grown (Chg.of_below Γ) c1 (λk Z=>τ Z);have k2:=(η (w:=U) (a:=(O c 2)) (W.block c RX (λh=>Eu.o c h rfl))).trans g2;have kf:∀j,w6.frozen? (O c j)=false:=λj=>(World.frozen?_of_block (w:=U) (a:=(O c j)) (W.block c RX (λh=>Eu.o c h rfl))).trans (b5 j))
     all_goals
      go_wp2_with fail;go_meet;refine⟨_,_,rfl,W,a4, ?_⟩;rcases kZ with h|h
      .exact τ h.symm
      .refine υ ⟨K,rfl, ?_⟩;simp at h;omega
    case rest =>
    obtain⟨w6,ck,rfl,W,a4,bc⟩:=hcut;obtain⟨K,R,rfl⟩:=own_some a4 V;have bd:EvOk ⟨p,ch.act,v,ch.n,b⟩:=by
     have ho:=bl.o;have S:p.size=ch.path.length:=by rw[<- toL_length,Hp.o]
     have h2:v.size=ch.val.length:=by rw[<- toL_length,Hv.o]
     exact⟨by simp only[];omega,by simp only[];omega,ho.2.2.1,ho.2.2.2.1,by simp only[];omega⟩
    have H7:J<|RefL (w6.setCell (O c 2) (.slice (some (z K)) (es.length+1) R)) c rb (.slice (some (z K)) (es.length+1) R) C B y (es++[⟨p,ch.act,v,ch.n,b⟩]) es.length n knowns:=H5.o.more W ⟨p,ch.act,v,ch.n,b⟩ bd (.slice Q b.length P) Vp.o a2 c8 Vr.o V a4;have c9:J<|Chg (λx=>x=c\/x=rb\/d.ownBlock=some x) D (w6.setCell (O c 2) (.slice (some (z K)) (es.length+1) R)):=(an.o.trans' W (λx _ hx=>υ (υ hx))).setCell (p:=(O c 2)) (τ rfl) _;have Vw:J<|(Value.slice (some (z K)) (es.length+1) R).ownBlock=d.ownBlock\/∃ci,(Value.slice (some (z K)) (es.length+1) R).ownBlock=some ci/\D.heap.size<=ci:=by
     rcases bc with h|⟨ci,S,h2⟩
     .exact τ h
     .exact υ ⟨ci,S,ς Vq.o h2⟩
    clear W a4 bc bd H5 YV Vp an Vq Vr ar g2 d0 d1 d2 d3 d4 df b5 RX Eu QH m1 m2 b8 Vs Vt Vu;generalize w6.setCell (O c 2) (.slice (some (z K)) (es.length+1) R)=o at *;have q2:=H7.o.f2;obtain⟨⟨kv,a0,b0⟩,_⟩:=H7.o.reps k Z;rw[hkn]at b0;have aj:=H7.o.trb.lt;have a6:=H7.o.tc.lt;have aw:∀t,ϑ o t->t.cell? (O rb (k*13))=some kv:=λt hx=>(hx.cell (p:=(O rb (k*13))) aj).trans a0;have bj:J<|_:=aw;have bk:J<|SliceT 4 o kv (bools b):=b0;obtain⟨ko,kc,rfl,cc⟩:=b0.shape;clear aw;have YW:(bools b).length=b.length:=by simp[bools]
    have ak:J<|∀t,ϑ o t->0<(bools b).length->∃ad,ko=some ad/\∀j u,(bools b)[j]?=some u->t.cell? (ad.add j)=some u:=by
     intro t ao bg;rcases bk.o with⟨S,h2⟩|⟨E,F,pc,S,c5,ai,jS⟩
     .rw[h2]at bg;simp at bg
     .simp only[Value.slice.injEq]at S;refine⟨(O E F),S.1,λj u l=>?_⟩;have a3:j<(bools b).length:=by
       rcases Nat.lt_or_ge j (bools b).length with h|h
       .exact h
       .rw[List.getElem?_eq_none h]at l;cases l
      have N:((O E F):Addr).add j=(O E (F+j)):=by unfold Addr.add;split<;>simp_all
      rw[N,ao.cell (p:=(O E (F+j))) ai.lt,jS j a3];rw[σ a3]at l;exact l
    have ag:J<|∀u∈bools b,u.oneCell'=true:=by intro u T;simp[bools]at T;rcases T with⟨_,rfl⟩|⟨_,rfl⟩<;>rfl
    have c3:J<|(bools b).length=Nat.min b.length (es.length+1):=YW.trans (Nat.min_eq_left V).symm;have RY:J<|(prog.info? 4).map (·.size)=some 1:=ω<|by rw[a7];simp[O7]
    have bs:J<|i4.bytes*(es.length+1)<=281474976710656:=ω<|by rw[RV];omega
    have c2:J<|es.length+1<=maxLen:=by unfold J maxLen;omega
    have bx:J<|0+(bools b).length<=(List.replicate (es.length+1) (Value.bool false)).length:=ω<|Θ
    go_upto_region 13 with(at_make;(refine wpList_make_full _ rfl (.tmp 58) (.tmp 58) 163 rfl o.heap.size 4 i4 (.bool false) 1 underlying163 a7 RU O7 .i64 .i64 _ _ (es.length+1) rfl rfl (by first|rfl|omega) (by first|rfl|omega) bs.o c2.o (χ _) ?_;intro w8 QI b6;have RZ:ϑ o w8:=(φ _ _).grown b6 (χ _) (λkk ae=>by cases ae);have bm:=bj.o _ RZ;have b7:J<|w8.heap[o.heap.size]?=some (.cells (List.replicate (es.length+1) (Value.bool false)).toArray 4 (0,0)):=(by have:=KG QI;rw[xC,Nat.mul_one]at this;exact this)))
    go_wp2_with (refine wpList_copy_splice rfl (.tmp 60) (.tmp 64) 163 163 rfl 4 underlying163 RY.o _ _ _ _ _ _ rfl rfl o.heap.size 0 (List.replicate (es.length+1) (Value.bool false)) 4 b7.o (bools b) c3.o (λhp=>⟨rfl,ak.o _ RZ hp⟩) bx.o ag.o o.heap.size o RZ (χ _) ?_;intro w9 O8 ax;have af:=Es b9 O8.out;have bt:=af.2;have br:J<|Tagged w9 o.heap.size 4:=⟨_,O8.out⟩;have bw:=br.o.frozen);have Si:ϑ o (w9.setCell (O o.heap.size es.length) (.bool true)):=ax.setCell (p:=(O o.heap.size es.length)) (χ _) _;have ap:=H7.o.below Si;have HW:=write_any _ c rb _ C B y _ _ _ knowns ap k Z _ (moreOf b es.length) af.1 (by rw[fF _ _ b9];simp) (xH k) true;have Sj:J<|Chg (λx=>x=c\/x=rb\/d.ownBlock=some x) D (w9.setCell (O o.heap.size es.length) (.bool true)):=c9.o.below Si;clear af bt bw ax O8 ap b7 RZ bm a0 q2 b6 QI;generalize w9.setCell (O o.heap.size es.length) (.bool true)=jk at *;refine ψ HW ?_;clear HW;rintro e D5⟨rfl,⟨I',b1,b2,X4⟩,Vx⟩;have HI:J<|(∀g,I' g->n.I g\/D.heap.size<=g)/\(∀g,n.I g->I' g):=⟨λg hb=>(b1 g hb).imp id (λh=>ς Sj.o.size h),b2⟩;clear b1 b2;have r3:=X4.f3;have rf:=X4.tc.frozen;have hA:J<|RefL (D5.setCell (O c 3) (.int .i64 ((es.length+1:Nat):Int))) c rb (.slice (some (z K)) (es.length+1) R) C B y (es++[⟨p,ch.act,v,ch.n,b⟩]) (es.length+1) ⟨I',updN n.ls k ((n.ls k).write y)⟩ (knowns.set k (moreOf b es.length)):=X4.accept (es.length+1) V;have YX:J<|Chg (λx=>x=c\/x=rb\/d.ownBlock=some x) D D5:=Sj.o.trans' Vx (λx _ h=>υ (τ h));clear Vx X4 Sj Si;go_wp2;go_ret;refine⟨0,_,es++[⟨p,ch.act,v,ch.n,b⟩],knowns.set k (moreOf b es.length),I',rfl, ?_,HI.o.1,HI.o.2, ?_, ?_,Vw.o⟩
    .have hd:=DoOut.done (es:=es) (knowns:=knowns) (i:=(k:Int)) (s:=toL s) ch ⟨p,ch.act,v,ch.n,b⟩ Y Hr.o V Hp.o rfl Hv.o rfl (by simp only[Int.toNat_natCast];exact aq.o.symm);simp only[Int.toNat_natCast]at hd;rw[aq.o]at hd;exact hd
    .have S:(es++[(⟨p,ch.act,v,ch.n,b⟩:Ev)]).length=es.length+1:=Ω
     rw[S,ώ rfl];exact hA.o
    .exact YX.o.setCell (p:=(O c 3)) (τ rfl) _
 .go_enter func116,ntmps116;go_wp2_with fail;refine(UpL_any w c rb d C B y es _ _ knowns H.o i).mono ?_;rintro e D⟨rfl,al⟩;subst al;rw[show upR knowns i=2 from ύ Y];go_wp2;go_ret;exact⟨2,d,es,knowns,n.I,rfl,.rep Y,λg h=>τ h,λ_ h=>h,by rw[ύ Ψ];exact H.o,Chg.refl _ _,τ rfl⟩
end
section
open Go.Proofs.Tryz Go.RowKit Go.Deep
def AvL(w:World)(r B:Nat)(v:Value):Prop:=∃b,v=.slice (some (z b)) r r/\B<=b/\SliceT 3 w v (ints (natsI (List.replicate r 0)))
def AvsL(w:World)(r B:Nat)(avs:List Value):Prop:=∀a∈avs,AvL w r B a
theorem AvL.chg{M:Nat->Prop}{w a:World}{r B:Nat}{v:Value}(h:AvL w r B v)(g:Chg M w a)(f:∀b,Tagged w b 3->¬M b):AvL a r B v:=by obtain⟨b,c,d,e⟩:=h;exact⟨b,c,d,e.chg g f⟩
theorem AvL.new(w:World)(r:Nat)(o:Obj):AvL ((w.alloc (.cells (madeCells #[.int .i64 0] r) 3)).alloc o) r w.heap.size (.slice (some (z w.heap.size)) r r):=by
 have d:(madeCells #[.int .i64 0] r).toList=List.replicate r (.int .i64 0):=by
  apply List.ext_getElem
  .simp[madeCells]
  .intro i e f;simp[madeCells,Nat.mod_one]
 have a:((w.alloc (.cells (madeCells #[.int .i64 0] r) 3)).alloc o).heap[w.heap.size]?=some (.cells (madeCells #[.int .i64 0] r) 3 (0,0)):=(((φ (w.alloc (.cells (madeCells #[.int .i64 0] r) 3)).heap.size _).alloc (χ _) o).block w.heap.size Ω).trans (heap_alloc_new w _);refine⟨w.heap.size,rfl,χ _,υ ⟨w.heap.size,0,r,by simp[ints,natsI],by simp[ints,natsI],⟨_,a⟩,λj b=>?_⟩⟩;have c:j<r:=by simpa[ints,natsI]using b
 simp only[World.cell?,a,Nat.zero_add];show(madeCells #[.int .i64 0] r)[j]?=_;rw[<- Array.getElem?_toList,d];simp[ints,natsI,c]
theorem fresh_refL{w:World}{c rb k r g:Nat}{d:List Value}(e:Blk5 c (.int .i64 k) (.slice (some (z rb)) r g) (.slice none 0 0) (.int .i64 0) (.slice none 0 0) w)(A:Tagged w c 170)(base:Nat)(m:w.ownsRow base 165 13 (.slice (some (z rb)) r g) r (repFlat d))(D:d.length=r)(y:r<=6)(s:k<=50):RefL w c rb (.slice none 0 0) (.slice none 0 0) (λi=>d.getD i .nilFunc) k [] 0 ⟨λ_=>False,λ_=>⟨0,0,[],λ_=>0⟩⟩ (List.replicate r []):=by
 have a:∀i,i<r->∀j,j<13->w.cell? (O rb (i*13+j))=(repCells (d.getD i .nilFunc))[j]?:=by intro i f j v;rw[m.cellAt _ V,repFlat_get d i V j v];congr 2;rw[ξ,σ V];(first|done|rfl)
 obtain⟨E,⟨q,_⟩|⟨C,B,o,n,_,u,t,_⟩⟩:=m
 .cases q
 .simp only[Value.slice.injEq,Option.some.injEq,Addr.mk.injEq,true_and,and_true]at n;obtain⟨rfl,rfl⟩:=n;refine⟨A,⟨o,u⟩,s,by simpa using y,Ω,e.c0,⟨g,by simpa using e.c1,by simpa using t⟩,e.c2,by simpa using e.c3,V,λi=>⟨Ω,Ω,Ω⟩,⟨[],rfl,World.ownsRow_nil _ _ _ _,λj h=>by simp at h⟩,Ω, ?_, ?_, ?_, ?_,λ_ h=>h.elim⟩
  .intro i f;have b:i<r:=by simpa using f
   rw[List.getElem_replicate];have l:=a i b 0 V;rw[Nat.add_zero]at l;exact⟨⟨_,l,τ ⟨rfl,rfl⟩⟩,a i b 1 V,a i b 7 V,a i b 9 V,⟨_,a i b 10 V,τ ⟨rfl,rfl⟩,λ_ _ _ _ p=>(by cases p)⟩,a i b 12 V,⟨a i b 2 V,a i b 3 V,a i b 4 V,a i b 5 V,a i b 6 V,a i b 8 V⟩⟩
  .intro F x;have:=List.eq_of_mem_replicate x;rw[this];simp
  .exact e.c4
  .intro i f;exact a i (by simpa using f) 11 V
theorem Fresh_goodL(r u:Nat)(w:World)(ar:1<=r)(h6:r<=6)(a5:u<=50):Calls prog 107 #[.int .i64 r,.int .i64 u] w λe T=>∃rb c,e=.returned (.pointer (some (z w.heap.size)))/\RefL T w.heap.size rb (.slice none 0 0) (.slice none 0 0) (λi=>c.getD i .nilFunc) u [] 0 ⟨λ_=>False,λ_=>⟨0,0,[],λ_=>0⟩⟩ (List.replicate r [])/\AvsL T r w.heap.size c/\c.Nodup/\c.length=r/\ϑ w T/\w.heap.size<=rb:=by
 obtain⟨iR,a9,ag,ai,aj⟩:=info_parts Tryz.infoRep;have ap:∀v:World,(Instr.makeSlice 42 (.int .i64 r) (.int .i64 r)).run prog v=.ok (.slice (some (z v.heap.size)) r r) (v.alloc (.cells (madeCells #[.int .i64 0] r) 3)):=λv=>run_make_row' 42 3 (.int .i64 0) 8 underlying42 Tryz.info3 rfl .i64 .i64 r V V v;go_enter func107,ntmps107;go_wp2;go_loopw [6] (λi wr=>∃(k:Nat)(c:List Value)(rv:Value),k<=r/\i=.int .i64 k/\(c.length=k/\J c.Nodup/\AvsL wr r w.heap.size c)/\Blk5 w.heap.size (.int .i64 u) rv (.slice none 0 0) (.int .i64 0) (.slice none 0 0) wr/\Tagged wr w.heap.size 170/\wr.ownsRow (w.heap.size+1) 165 13 rv k (repFlat c)/\ϑ w wr/\w.heap.size+1<=wr.heap.size) (λi _=>r-(intOf i).toNat);case atStart=>exact⟨0,[],.slice none 0 0,V,rfl,⟨rfl,List.nodup_nil,λa h=>absurd h Ω⟩,blk5 (φ (w.heap.size+1) _) V,⟨_,heap_alloc_new w _⟩,World.ownsRow_nil _ _ _ _,(φ _ _).alloc (χ _) _,Ω⟩
 case round =>
  obtain⟨k,c,rv,G,rfl,⟨R,X,F⟩,s,D,l,Y,aq⟩:=hrel;have L:J<|AvsL wr r w.heap.size c:=F;clear F;by_cases ao:k<r
  .have d:J<|wr.ownsRow (w.heap.size+1) 165 13 rv k (repFlat c):=l;have a3:J<|Blk5 w.heap.size (.int .i64 u) rv (.slice none 0 0) (.int .i64 0) (.slice none 0 0) wr:=s;have y:J<|Tagged wr w.heap.size 170:=D;have P:=s.c1;have H:w.heap.size<wr.heap.size:=V
   have ak:∀o,(wr.alloc o).cell? (O w.heap.size 1)=some rv:=λo=>(((φ _ wr).alloc (χ _) o).cell (p:=(O w.heap.size 1)) H).trans P;have al:∀o K,((wr.alloc o).alloc K).cell? (O w.heap.size 1)=some rv:=λo K=>((((φ wr.heap.size wr).alloc (χ _) o).alloc Ω K).cell (p:=(O w.heap.size 1)) H).trans P;have m1:J<|k+1<=maxLen:=by unfold J maxLen;omega
   have m2:J<|(k+1)*184<=140737488355328:=ω V
   have ad:J<|∀N:Value,N.oneCell'=true->∀S∈repCells N,S.oneCell'=true:=by intro N F S hu;simp only[repCells,List.mem_cons,List.mem_nil_iff,or_false]at hu;rcases hu with rfl|rfl|rfl|rfl|rfl|rfl|rfl|rfl|rfl|rfl|rfl|rfl|rfl<;>first|rfl|exact F
   clear l s D;have a1:J<|∀o,AvL ((wr.alloc (.cells (madeCells #[.int .i64 0] r) 3)).alloc o) r wr.heap.size (.slice (some (z wr.heap.size)) r r):=λo=>AvL.new wr r o;have a2:J<|∀o,AvL ((wr.drew.alloc (.cells (madeCells #[.int .i64 0] r) 3)).alloc o) r wr.heap.size (.slice (some (z wr.heap.size)) r r):=λo=>AvL.new wr.drew r o;have af:J<|w.heap.size<=wr.heap.size:=ω V
   go_wp2_with fail
   go_region_law (refine step_append_own rfl (.tmp 33) (.tmp 37) 166 rfl (w.heap.size+1) 165 iR (.agg (repCells (.slice none 0 0)).toArray) 13 184 underlying166 a9 ag ai aj rfl Ψ rv k (repFlat c) rfl ?_ _ 1 1 (repCells (.slice (some (z wr.heap.size)) r r)) rfl rfl ?_ (ad.o _ rfl) m1.o m2.o ?_ ?_;(first|exact(d.o.alloc _).alloc _|exact d.o.alloc _);(intro j S b;match j,b with|0,b=>(cases b;simp[Addr.add])|1,b=>(cases b;simp[Addr.add])|2,b=>(cases b;simp[Addr.add])|3,b=>(cases b;simp[Addr.add])|4,b=>(cases b;simp[Addr.add])|5,b=>(cases b;simp[Addr.add])|6,b=>(cases b;simp[Addr.add])|7,b=>(cases b;simp[Addr.add])|8,b=>(cases b;simp[Addr.add])|9,b=>(cases b;simp[Addr.add])|10,b=>(cases b;simp[Addr.add])|11,b=>(cases b;simp[Addr.add])|12,b=>(cases b;simp[Addr.add]));(simp;omega);intro v6 w6 Z W;obtain⟨n,m,rfl⟩:=own_some Z (Nat.succ_pos _);have f:Chg (λx=>rv.ownBlock=some x) wr w6:=Chg.grown (Chg.of_below Γ) W (λk G=>τ G);have a7:AvL w6 r wr.heap.size (.slice (some (z wr.heap.size)) r r):=AvL.chg (by first|exact a1.o _|exact a2.o _) (Chg.grown (M:=λx=>rv.ownBlock=some x) (Chg.refl _ _) W (λk G=>τ G)) (own_noint (by first|exact(d.o.alloc _).alloc _|exact d.o.alloc _) Ψ);have k1:=(η (w:=wr) (a:=(O w.heap.size 1)) (f.block w.heap.size H (λh=>Tagged.ne (own_tag d.o _ h) y.o Ψ rfl))).trans P;have kf:∀j,w6.frozen? (O w.heap.size j)=false:=λj=>(World.frozen?_of_block (w:=wr) (a:=(O w.heap.size j)) (f.block w.heap.size H (λh=>Tagged.ne (own_tag d.o _ h) y.o Ψ rfl))).trans (y.o.frozen j))
   all_goals
    go_wp2;go_roundw;case rel =>
     have C:Below (w.heap.size+1) wr w6:=⟨f.os,f.tape,f.output,f.size,λi hi=>f.block i V (λh=>by have:=(d.o.lt i h).1;omega)⟩;have E:Tagged w6 w.heap.size 170:=by obtain⟨a4,hh⟩:=y.o;exact⟨a4,(C.block w.heap.size V).trans hh⟩
     have a6:=(a3.o.below C V).set1 (.slice (some (z n)) (k+1) m) (λj=>(E.setCell _ _).frozen j);have ab:ϑ w (w6.setCell (O w.heap.size 1) (.slice (some (z n)) (k+1) m)):=(Y.trans (C.mono V)).setCell (p:=(O w.heap.size 1)) (χ _) _;have a0:Chg (λx=>x=w.heap.size) w6 (w6.setCell (O w.heap.size 1) (.slice (some (z n)) (k+1) m)):=(Chg.refl (λx=>x=w.heap.size) w6).setCell (p:=(O w.heap.size 1)) rfl _;have a8:AvsL (w6.setCell (O w.heap.size 1) (.slice (some (z n)) (k+1) m)) r w.heap.size (c++[.slice (some (z wr.heap.size)) r r]):=by
      intro a Q;rcases θ.1 Q with ar|ar
      .exact((L.o a ar).chg f (own_noint d.o Ψ)).chg a0 (λA t e=>Tagged.ne t E Ψ e)
      .have e:a=_:=List.mem_singleton.1 ar;rw[e];obtain⟨A,U,B,q⟩:=a7;exact AvL.chg (w:=w6) ⟨A,U,ς af.o B,q⟩ a0 (λA t e=>Tagged.ne t E Ψ e)
     have ac:J (c++[Value.slice (some (z wr.heap.size)) r r]).Nodup:=by
      unfold J;rw[List.nodup_append];refine⟨X.o,Ω,λa Q A t e=>?_⟩;rw[List.mem_singleton.1 t]at e;obtain⟨g,ar,U,B⟩:=L.o a Q;rw[ar]at B e;rcases B with⟨q,_⟩|⟨b',K,c',q,_,h5,_⟩
      .cases q
      .simp only[Value.slice.injEq,Option.some.injEq,Addr.mk.injEq]at q e;have:=h5.lt;omega
     exact⟨k+1,c++[.slice (some (z wr.heap.size)) r r],.slice (some (z n)) (k+1) m,V,Λ,⟨by simp[R],ac,a8⟩,a6,E.setCell _ _,by rw[repFlat_snoc];exact ownsRow_setCell_below Z (by show w.heap.size<w.heap.size+1;omega) _,ab,by have:=C.size;simp;omega⟩
    case measure=>simp[intOf];omega
  .have aa:k=r:=V
   subst aa;obtain⟨rb,an,rfl⟩:=own_some l V;have HF:J<|_:=fresh_refL s D _ l R h6 a5;have ae:w.heap.size<=rb:=by have:=(l.lt rb rfl).1;omega
   clear l s D;go_wp2;go_ret;exact⟨rb,c,rfl,HF.o,L.o,X.o,R,Y,ae⟩
end
section
open Go.Proofs.Tryz Go.RowKit
theorem RefAskL(w:World)(c rb:Nat)(b q:Value)(o:Nat->Value)(t:Nat)(es:List Ev)(n:Nat)(s:Ld)(knowns:List (List Bool))(h:RefL w c rb b q o t es n s knowns)(i:Int)(path:ByteArray)(M:path.size<=1048576):Calls prog 110 #[.pointer (some (z c)),.int .i64 i,.string path] w λe w' => ∃u,e=.returned (.tuple #[.string u,.int .i64 (askR es knowns i (toL path)).2])/\toL u=(askR es knowns i (toL path)).1/\ϑ w w':=by
 have H:J<|RefL w c rb b q o t es n s knowns:=h;by_cases l:0<=i/\i<knowns.length
 .obtain⟨k,rfl⟩:=Int.eq_ofNat_of_zero_le l.1;have y:k<knowns.length:=V
  have j:J<|askR es knowns (k:Int) (toL path)=if Thk.path (toL path) then(tellR es (aliveTo es knowns[k] es.length) (toL path),0) else([],4):=by unfold J askR;rw[ώ l];simp[σ y]
  obtain⟨Z,f1,a0⟩:=h.f1;have f2:=h.f2;obtain⟨B,F,L⟩:=(h.reps k y).c0;have h6:=h.n6;have Q:J<|SliceT 4 w B (bools knowns[k]):=L;have x:=h.tc.lt;have W:=h.trb.lt;have D:J<|EvsIn w.heap.size w b es:=h.evsIn;have E:J<|∀e∈es,EvOk e:=h.ok;have a2:=h.n500;have a1:=h.kn _ (κ y);clear L h;generalize knowns[k]=d at *;go_enter func110,ntmps110;go_wp2_with fail;refine(UpL_any w c rb b q o t es n s knowns H.o (k:Int)).mono ?_;rintro e m⟨rfl,A⟩;subst A;rw[show upR knowns (k:Int)=0 from ώ l];go_wp2_with fail;refine(Path_any path _ M).mono ?_;rintro e v⟨rfl,a⟩;cases hp:Thk.path (toL path)
  .have g:J<|askR es knowns (k:Int) (toL path)=([],4):=ω<|by rw[j.o,hp];(first|done|rfl)
   clear hp;go_wp2;go_ret2;exact⟨ByteArray.empty,by rw[g.o];rfl,by rw[g.o];rfl,a⟩
  .have g:J<|askR es knowns (k:Int) (toL path)=(tellR es (aliveTo es d es.length) (toL path),0):=ω<|by rw[j.o,hp];(first|done|rfl)
   have R:J<|Thk.path (toL path)=true:=hp;have g1:=(a.cell (p:=(O c 1)) x).trans f1;have g2:=(a.cell (p:=(O c 2)) x).trans f2;have g0:=(a.cell (p:=(O rb (k*13))) W).trans F;clear hp f1 f2 F;go_wp2_with fail;have C:J<|∀wx:World,ϑ v wx->Calls prog 173 #[b,B] wx λe w'=>∃N,e=.returned N/\w'.ownsRow wx.heap.size 3 1 N (aliveTo es d es.length).length (nats (aliveTo es d es.length))/\ϑ wx w':=by intro wx Y;have f:ϑ m wx:=a.trans (Y.mono a.size);exact Alive_any b es B d wx V V ((D.o.below f).mono f.size) ((Q.o.toIn.below f).mono f.size) E.o
   go_cut [10]from 21 to 33 (λS wx=>SliceT 3 wx S (nats (aliveTo es d es.length))/\ϑ v wx);case first =>
    go_region_with (go_at_call 173;refine(C.o _ ?_).mono ?_;(go_grown);rintro e w3⟨v3,rfl,U,f⟩);all_goals
     go_wp2_with fail;go_meet;exact⟨own_sliceT U,Below.trans Γ (f.mono Ω)⟩
   case rest =>
   obtain⟨G,K⟩:=hcut;have r:ϑ m wc:=a.trans (K.mono a.size);have k2:=(K.cell (p:=(O c 2)) (ο x a.size)).trans g2;have P:J<|_:=Tell_any wc.heap.size b es _ (aliveTo es d es.length) path wc (χ _) V ((D.o.below r).mono r.size) G.toIn (aliveTo_lt _ _ _) (by have:=aliveTo_le es d es.length;omega) E.o M R.o;clear g0 g1 g2 G C;go_wp2_with fail;refine ψ P.o ?_;rintro e w6⟨u,rfl,X,T⟩;go_wp2;go_ret2;exact⟨u,by rw[g.o];rfl,by rw[g.o];exact X,r.trans (T.mono r.size)⟩
 .have j:J<|askR es knowns i (toL path)=([],2):=by unfold J askR;rw[ύ l]
  clear h;go_enter func110,ntmps110;go_wp2_with fail;refine(UpL_any w c rb b q o t es n s knowns H.o i).mono ?_;rintro e m⟨rfl,A⟩;subst A;rw[show upR knowns i=2 from ύ l];go_wp2;go_ret2;exact⟨ByteArray.empty,by rw[j.o];rfl,by rw[j.o];rfl,φ _ _⟩
