import Derived.Test.YtfmmllpjgkgeaaaGreatDoorPart46
import Derived.Test.YtfmmllpjgkgeaaaGreatDoorPart47
import Derived.Test.YtfmmllpjgkgeaaaGreatDoorPart55
import Derived.Test.YtfmmllpjgkgeaaaGreatDoorPart70
import Derived.Test.YtfmmllpjgkgeaaaGreatDoorPartAgainA
set_option linter.unusedVariables false
set_option linter.unusedSimpArgs false
namespace Go.Proofs.YtfmmllpjgkgeaaaGreatDoor
open Go.ChangeShapes Go.WideShapes Go.ChangeAt Go.RowKit Go.Deep

theorem ownAgain:ownKnob Tryz.prog.godebug=none:=by kernel_rfl
theorem laidOutAgain:laidOutB Tryz.prog=true:=by kernel_rfl

set_option maxRecDepth 100000 in
theorem contractAgain (H:Type) (enc:TypeId × Value->H) (W:World) (args:Array Value) (base:Nat) (ds gs:List (DataW H)) (before:List MemPlace)
  (hval:∀ (j:Nat) t v,Tryz.f11.params[j]? = some t->args[j]? = some v->Value.okWide Tryz.prog W .any base t v) (hW:DataW.Whole enc Tryz.prog Tryz.f11.params.toList Rows.againSpec.vars false W args.toList ds gs before)
  (hL:laidMetH Tryz.prog Rows.againRow.laid W) (hS:W.ShapedOpen Tryz.prog) :
  Calls Tryz.prog 11 args W fun e W'=>∃ v,e=.returned v/\Rows.againSpec.post enc Tryz.prog Tryz.f11 false true false false W args v W':=by
 have hW':=hW
 obtain ⟨p,q,hA0,hV,rfl,hfz,hnd⟩:=hW
 have hA:DataW.TrodAll enc Tryz.prog W 0 (fun _=>true) true Tryz.f11.params.toList args.toList ds p:=hA0
 rw[Tryz.params11] at hA hval
 obtain ⟨v0,vs0,d0,ds0,p0,q0,hargs,rfl,rfl,h0,r0⟩:=trodAll_cons hA
 obtain ⟨v1,vs1,d1,ds1,p1,q1,hvs1,rfl,rfl,h1,r1⟩:=trodAll_cons r0
 obtain ⟨v2,vs2,d2,ds2,p2,q2,hvs2,rfl,rfl,h2,r2⟩:=trodAll_cons r1
 obtain ⟨v3,vs3,d3,ds3,p3,q3,hvs3,rfl,rfl,h3,r3⟩:=trodAll_cons r2
 obtain ⟨hvs4,rfl,rfl⟩:=trodAll_nil r3
 subst hvs4
 subst hvs3
 subst hvs2
 subst hvs1
 obtain rfl:args=#[v0,v1,v2,v3]:=by cases args;simp_all
 obtain ⟨rfl,rfl⟩:=trodVars_none hV
 clear hA0
 simp only[List.append_nil] at hW'
 have h0k:=h0
 obtain ⟨fuel0,hf0⟩:=h0
 obtain ⟨n0,rfl⟩:=okWide_int Tryz.underlying3 (hval 0 3 v0 rfl rfl)
 obtain ⟨n0',e0,-,w0⟩:=DataW.trod_int Tryz.underlying3 hf0
 obtain rfl:n0=n0':=by simpa[Value.cells] using e0
 have h1k:=h1
 obtain ⟨fuel1,hf1⟩:=h1
 obtain ⟨n1,rfl⟩:=okWide_int Tryz.underlying3 (hval 1 3 v1 rfl rfl)
 obtain ⟨n1',e1,-,w1⟩:=DataW.trod_int Tryz.underlying3 hf1
 obtain rfl:n1=n1':=by simpa[Value.cells] using e1
 have h2k:=h2
 obtain ⟨fuel2,hf2⟩:=h2
 have hcs2:v2.cells.toList=[v2]:=by
  obtain ⟨a,len,cap,rfl⟩:=okWide_slice Tryz.underlying25 (hval 2 25 v2 rfl rfl)
  rfl
 rw[hcs2] at hf2
 obtain ⟨l2,hl2⟩:=open_acts hf2
 have h3k:=h3
 obtain ⟨fuel3,hf3⟩:=h3
 have hcs3:v3.cells.toList=[v3]:=by
  obtain ⟨a,len,cap,rfl⟩:=okWide_slice Tryz.underlying42 (hval 3 42 v3 rfl rfl)
  rfl
 rw[hcs3] at hf3
 obtain ⟨l3,hl3⟩:=open_intsV hf3
 refine (Again_any prog_ok prog_frame prog_tick prog_wait W (kglob_of hS hL) n0 n1 (kwf_i64 w0) (kwf_i64 w1) v2 l2 hl2 v3 l3 hl3).mono fun e W' ⟨he,hg⟩=>?_
 subst he
 have hlt:∀ x∈p0 ++ (p1 ++ (p2 ++ (p3))),x.block<W.heap.size:=fun x hx=>by
  have h9:=hW'.lt x
  simp only[List.mem_append] at hx h9
  exact h9 (by simpa using hx)
 exact ⟨_,rfl,_,_,_,[],_,[],hW',trodAll_mk1 (shut_bool Tryz.underlying4 _),trodAll_mk4 (Below.trod laidOutAgain (by kernel_rfl) (of_decide_eq_true (by kernel_rfl)) h0k hg (fun x hx=>hlt x (by simp[hx]))) (Below.trod laidOutAgain (by kernel_rfl) (of_decide_eq_true (by kernel_rfl)) h1k hg (fun x hx=>hlt x (by simp[hx]))) (Below.trod laidOutAgain (by kernel_rfl) (of_decide_eq_true (by kernel_rfl)) h2k hg (fun x hx=>hlt x (by simp[hx]))) (Below.trod laidOutAgain (by kernel_rfl) (of_decide_eq_true (by kernel_rfl)) h3k hg (fun x hx=>hlt x (by simp[hx]))),rfl,hg.frame _,fun h=>by cases h⟩

set_option maxRecDepth 100000 in
theorem liftedAgain (os:Os) (started:os.Started) (H:Type) (enc:TypeId × Value->H) (F:Stop.Interp) :
  ReturnsInHanded {} Tryz.checked os 11 .any ((Go.OpenSpec.ofChange Rows.againSpec).preRow enc Tryz.prog Tryz.f11 Rows.againRow.domain false Rows.againRow.laid) (((Go.OpenSpec.ofChange Rows.againSpec).at F).post enc Tryz.prog Tryz.f11 false true false false):=by
 refine returnsInHanded_of_row (C:=Tryz.checked) (s:=(Go.OpenSpec.ofChange Rows.againSpec)) ownAgain started (by kernel_rfl) Tryz.func11 (witnessAgain os enc) ?_
 intro W base args ds gs before hval hW _ hcond _ hL hS _
 exact contractAgain H enc W args base ds gs before hval hW hL hS

theorem again_said:Rows.AgainSaid :=
 OpenClaim.holds_of_cond 11 Tryz.f11 rfl rfl rfl rfl rfl rfl rfl ⟨rfl,rfl,rfl,rfl,rfl⟩ rfl rfl rfl rfl rfl m1Again Tryz.func11 m2Again m3Again m4Again
  (fun os started H enc _ F=>by rw[OpenClaim.pre_eq_preRow];exact liftedAgain os started H enc F)

theorem again_card:Rows.AgainCardSaid :=
 Claim7.holds_tied_plain_at .later [] _ _ _ _ again_said (fun _ h=>by cases h) (by as_aux_lemma=>kernel_rfl) (fun _ h=>by cases h) again_row_tie rfl ⟨rfl,rfl⟩ (by as_aux_lemma=>kernel_rfl) rfl plainAgain (by as_aux_lemma=>kernel_rfl)
end Go.Proofs.YtfmmllpjgkgeaaaGreatDoor

