import Derived.Test.YtfmmllpjgkgeaaaGreatDoorPart49
import Derived.Test.YtfmmllpjgkgeaaaGreatDoorPart52
import Derived.Test.YtfmmllpjgkgeaaaGreatDoorPart54
import Derived.Test.YtfmmllpjgkgeaaaGreatDoorPartTornA
set_option linter.unusedVariables false
set_option linter.unusedSimpArgs false
set_option maxHeartbeats 16000000
set_option maxRecDepth 100000
namespace Go.Proofs.YtfmmllpjgkgeaaaGreatDoor
open Go.ChangeShapes Go.WideShapes Go.ChangeAt Go.RowKit Go.Deep

theorem ownTorn:ownKnob Tryz.prog.godebug=none:=by kernel_rfl
theorem laidOutTorn:laidOutB Tryz.prog=true:=by kernel_rfl

theorem contractTorn (H:Type) (enc:TypeId × Value->H) (W:World) (args:Array Value) (base:Nat) (ds gs:List (DataW H)) (before:List MemPlace)
  (hval:∀ (j:Nat) t v,Tryz.f12.params[j]? = some t->args[j]? = some v->Value.okWide Tryz.prog W .any base t v) (hW:DataW.Whole enc Tryz.prog Tryz.f12.params.toList Rows.tornSpec.vars false W args.toList ds gs before)
  (hL:laidMetH Tryz.prog Rows.tornRow.laid W) (hS:W.ShapedOpen Tryz.prog) :
  Calls Tryz.prog 12 args W fun e W'=>∃ v,e=.returned v/\Rows.tornSpec.post enc Tryz.prog Tryz.f12 false true false false W args v W':=by
 have hW':=hW
 obtain ⟨p,q,hA0,hV,rfl,hfz,hnd⟩:=hW
 have hA:DataW.TrodAll enc Tryz.prog W 0 (fun _=>true) true Tryz.f12.params.toList args.toList ds p:=hA0
 rw[Tryz.params12] at hA hval
 obtain ⟨v0,vs0,d0,ds0,p0,q0,hargs,rfl,rfl,h0,r0⟩:=trodAll_cons hA
 obtain ⟨v1,vs1,d1,ds1,p1,q1,hvs1,rfl,rfl,h1,r1⟩:=trodAll_cons r0
 obtain ⟨v2,vs2,d2,ds2,p2,q2,hvs2,rfl,rfl,h2,r2⟩:=trodAll_cons r1
 obtain ⟨v3,vs3,d3,ds3,p3,q3,hvs3,rfl,rfl,h3,r3⟩:=trodAll_cons r2
 obtain ⟨v4,vs4,d4,ds4,p4,q4,hvs4,rfl,rfl,h4,r4⟩:=trodAll_cons r3
 obtain ⟨v5,vs5,d5,ds5,p5,q5,hvs5,rfl,rfl,h5,r5⟩:=trodAll_cons r4
 obtain ⟨hvs6,rfl,rfl⟩:=trodAll_nil r5
 subst hvs6
 subst hvs5
 subst hvs4
 subst hvs3
 subst hvs2
 subst hvs1
 obtain rfl:args=#[v0,v1,v2,v3,v4,v5]:=by cases args;simp_all
 obtain ⟨rfl,rfl⟩:=trodVars_none hV
 clear hA0
 simp only[List.append_nil] at hW'
 have h0k:=h0
 obtain ⟨fuel0,hf0⟩:=h0
 obtain ⟨n0,rfl⟩:=okWide_int Tryz.underlying3 (hval 0 3 v0 rfl rfl)
 obtain ⟨n0',e0,-,w0⟩:=DataW.trod_int Tryz.underlying3 hf0
 obtain rfl:n0=n0':=by simpa[Value.cells] using e0
 have h1k:=h1
 obtain ⟨fuel1,hf1⟩:=h1
 have hcs1:v1.cells.toList=[v1]:=by
  obtain ⟨a,len,cap,rfl⟩:=okWide_slice Tryz.underlying25 (hval 1 25 v1 rfl rfl)
  rfl
 rw[hcs1] at hf1
 obtain ⟨l1,hl1⟩:=open_acts hf1
 have h2k:=h2
 obtain ⟨fuel2,hf2⟩:=h2
 obtain ⟨n2,rfl⟩:=okWide_int Tryz.underlying3 (hval 2 3 v2 rfl rfl)
 obtain ⟨n2',e2,-,w2⟩:=DataW.trod_int Tryz.underlying3 hf2
 obtain rfl:n2=n2':=by simpa[Value.cells] using e2
 have h3k:=h3
 obtain ⟨fuel3,hf3⟩:=h3
 obtain ⟨n3,rfl⟩:=okWide_int Tryz.underlying3 (hval 3 3 v3 rfl rfl)
 obtain ⟨n3',e3,-,w3⟩:=DataW.trod_int Tryz.underlying3 hf3
 obtain rfl:n3=n3':=by simpa[Value.cells] using e3
 have h4k:=h4
 obtain ⟨fuel4,hf4⟩:=h4
 obtain ⟨n4,rfl⟩:=okWide_int Tryz.underlying3 (hval 4 3 v4 rfl rfl)
 obtain ⟨n4',e4,-,w4⟩:=DataW.trod_int Tryz.underlying3 hf4
 obtain rfl:n4=n4':=by simpa[Value.cells] using e4
 have h5k:=h5
 obtain ⟨fuel5,hf5⟩:=h5
 obtain ⟨n5,rfl⟩:=okWide_int Tryz.underlying3 (hval 5 3 v5 rfl rfl)
 obtain ⟨n5',e5,-,w5⟩:=DataW.trod_int Tryz.underlying3 hf5
 obtain rfl:n5=n5':=by simpa[Value.cells] using e5
 refine (Torn_any prog_ok prog_frame prog_tick prog_torn W (kglob_of hS hL) n0 (kwf_i64 w0) v1 l1 hl1 n2 n3 n4 n5 (kwf_i64 w2) (kwf_i64 w3) (kwf_i64 w4) (kwf_i64 w5)).mono fun e W' ⟨he,hg⟩=>?_
 subst he
 have hlt:∀ x∈p0 ++ (p1 ++ (p2 ++ (p3 ++ (p4 ++ p5)))),x.block<W.heap.size:=fun x hx=>by
  have h9:=hW'.lt x
  simp only[List.mem_append] at hx h9
  exact h9 (by simpa using hx)
 exact ⟨_,rfl,_,_,_,[],_,[],hW',trodAll_mk1 (shut_bool Tryz.underlying4 _),⟨_,_,(Below.trod laidOutTorn (by kernel_rfl) (of_decide_eq_true (by kernel_rfl)) h0k hg (fun x hx=>hlt x (by simp[hx]))),⟨_,_,(Below.trod laidOutTorn (by kernel_rfl) (of_decide_eq_true (by kernel_rfl)) h1k hg (fun x hx=>hlt x (by simp[hx]))),trodAll_mk4 (Below.trod laidOutTorn (by kernel_rfl) (of_decide_eq_true (by kernel_rfl)) h2k hg (fun x hx=>hlt x (by simp[hx]))) (Below.trod laidOutTorn (by kernel_rfl) (of_decide_eq_true (by kernel_rfl)) h3k hg (fun x hx=>hlt x (by simp[hx]))) (Below.trod laidOutTorn (by kernel_rfl) (of_decide_eq_true (by kernel_rfl)) h4k hg (fun x hx=>hlt x (by simp[hx]))) (Below.trod laidOutTorn (by kernel_rfl) (of_decide_eq_true (by kernel_rfl)) h5k hg (fun x hx=>hlt x (by simp[hx]))),rfl⟩,rfl⟩,rfl,hg.frame _,fun h=>by cases h⟩

theorem liftedTorn (os:Os) (started:os.Started) (H:Type) (enc:TypeId × Value->H) (F:Stop.Interp) :
  ReturnsInHanded {} Tryz.checked os 12 .any ((Go.OpenSpec.ofChange Rows.tornSpec).preRow enc Tryz.prog Tryz.f12 Rows.tornRow.domain false Rows.tornRow.laid) (((Go.OpenSpec.ofChange Rows.tornSpec).at F).post enc Tryz.prog Tryz.f12 false true false false):=by
 refine returnsInHanded_of_row (C:=Tryz.checked) (s:=(Go.OpenSpec.ofChange Rows.tornSpec)) ownTorn started (by kernel_rfl) Tryz.func12 (witnessTorn os enc) ?_
 intro W base args ds gs before hval hW _ hcond _ hL hS _
 exact contractTorn H enc W args base ds gs before hval hW hL hS

theorem torn_said:Rows.TornSaid :=
 OpenClaim.holds_of_cond 12 Tryz.f12 rfl rfl rfl rfl rfl rfl rfl ⟨rfl,rfl,rfl,rfl,rfl⟩ rfl rfl rfl rfl rfl m1Torn Tryz.func12 m2Torn m3Torn m4Torn
  (fun os started H enc _ F=>by rw[OpenClaim.pre_eq_preRow];exact liftedTorn os started H enc F)

theorem torn_card:Rows.TornCardSaid :=
 Claim7.holds_tied_plain_at .later [] _ _ _ _ torn_said (fun _ h=>by cases h) (by as_aux_lemma=>kernel_rfl) (fun _ h=>by cases h) torn_row_tie rfl ⟨rfl,rfl⟩ (by as_aux_lemma=>kernel_rfl) rfl plainTorn (by as_aux_lemma=>kernel_rfl)
end Go.Proofs.YtfmmllpjgkgeaaaGreatDoor

