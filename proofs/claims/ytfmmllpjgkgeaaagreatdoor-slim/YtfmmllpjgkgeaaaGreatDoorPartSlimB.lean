import Derived.Test.YtfmmllpjgkgeaaaGreatDoorPart44
import Derived.Test.YtfmmllpjgkgeaaaGreatDoorPart46
import Derived.Test.YtfmmllpjgkgeaaaGreatDoorPart47
import Derived.Test.YtfmmllpjgkgeaaaGreatDoorPartSlimA
set_option linter.unusedVariables false
set_option linter.unusedSimpArgs false
set_option maxHeartbeats 16000000
set_option maxRecDepth 100000
namespace Go.Proofs.YtfmmllpjgkgeaaaGreatDoor
open Go.ChangeShapes Go.WideShapes Go.ChangeAt Go.RowKit Go.Deep

theorem ownSlim:ownKnob Tryz.prog.godebug=none:=by kernel_rfl
theorem laidOutSlim:laidOutB Tryz.prog=true:=by kernel_rfl

theorem contractSlim (H:Type) (enc:TypeId × Value->H) (W:World) (args:Array Value) (base:Nat) (ds gs:List (DataW H)) (before:List MemPlace)
  (hval:∀ (j:Nat) t v,Tryz.f13.params[j]? = some t->args[j]? = some v->Value.okWide Tryz.prog W .any base t v) (hW:DataW.Whole enc Tryz.prog Tryz.f13.params.toList Rows.slimSpec.vars false W args.toList ds gs before)
  (hL:laidMetH Tryz.prog Rows.slimRow.laid W) (hS:W.ShapedOpen Tryz.prog) :
  Calls Tryz.prog 13 args W fun e W'=>∃ v,e=.returned v/\Rows.slimSpec.post enc Tryz.prog Tryz.f13 false true false false W args v W':=by
 have hW':=hW
 obtain ⟨p,q,hA0,hV,rfl,hfz,hnd⟩:=hW
 have hA:DataW.TrodAll enc Tryz.prog W 0 (fun _=>true) true Tryz.f13.params.toList args.toList ds p:=hA0
 rw[Tryz.params13] at hA hval
 obtain ⟨v0,vs0,d0,ds0,p0,q0,hargs,rfl,rfl,h0,r0⟩:=trodAll_cons hA
 obtain ⟨v1,vs1,d1,ds1,p1,q1,hvs1,rfl,rfl,h1,r1⟩:=trodAll_cons r0
 obtain ⟨v2,vs2,d2,ds2,p2,q2,hvs2,rfl,rfl,h2,r2⟩:=trodAll_cons r1
 obtain ⟨hvs3,rfl,rfl⟩:=trodAll_nil r2
 subst hvs3
 subst hvs2
 subst hvs1
 obtain rfl:args=#[v0,v1,v2]:=by cases args;simp_all
 obtain ⟨rfl,rfl⟩:=trodVars_none hV
 clear hA0
 simp only[List.append_nil] at hW'
 have h0k:=h0
 obtain ⟨fuel0,hf0⟩:=h0
 obtain ⟨n0,rfl⟩:=okWide_int Tryz.underlying3 (hval 0 3 v0 rfl rfl)
 obtain ⟨n0',e0,-,w0⟩:=DataW.trod_int Tryz.underlying3 hf0
 obtain rfl:n0=n0':=by simpa[Value.cells] using e0
 have h1k:=h1
 obtain ⟨fuel1,hf1⟩:=h1
 have hcs1:v1.cells.toList=[v1]:=by
  obtain ⟨a,len,cap,rfl⟩:=okWide_slice Tryz.underlying25 (hval 1 25 v1 rfl rfl)
  rfl
 rw[hcs1] at hf1
 obtain ⟨l1,hl1⟩:=open_acts hf1
 have h2k:=h2
 obtain ⟨fuel2,hf2⟩:=h2
 have hcs2:v2.cells.toList=[v2]:=by
  obtain ⟨a,len,cap,rfl⟩:=okWide_slice Tryz.underlying25 (hval 2 25 v2 rfl rfl)
  rfl
 rw[hcs2] at hf2
 obtain ⟨l2,hl2⟩:=open_acts hf2
 refine (Slim_any (prog_ok r50) rfl (prog_frame r50) (prog_tick r50) prog_slim W (kglob_of hS hL) n0 (kwf_i64 w0) v1 l1 hl1 v2 l2 hl2).mono fun e W' ⟨he,hg⟩=>?_
 subst he
 have hlt:∀ x∈p0 ++ (p1 ++ (p2)),x.block<W.heap.size:=fun x hx=>by
  have h9:=hW'.lt x
  simp only[List.mem_append] at hx h9
  exact h9 (by simpa using hx)
 exact ⟨_,rfl,_,_,_,[],_,[],hW',trodAll_mk1 (shut_bool Tryz.underlying4 _),trodAll_mk3 (Below.trod laidOutSlim (by kernel_rfl) (of_decide_eq_true (by kernel_rfl)) h0k hg (fun x hx=>hlt x (by simp[hx]))) (Below.trod laidOutSlim (by kernel_rfl) (of_decide_eq_true (by kernel_rfl)) h1k hg (fun x hx=>hlt x (by simp[hx]))) (Below.trod laidOutSlim (by kernel_rfl) (of_decide_eq_true (by kernel_rfl)) h2k hg (fun x hx=>hlt x (by simp[hx]))),rfl,hg.frame _,fun h=>by cases h⟩

theorem liftedSlim (os:Os) (started:os.Started) (H:Type) (enc:TypeId × Value->H) (F:Stop.Interp) :
  ReturnsInHanded {} Tryz.checked os 13 .any ((Go.OpenSpec.ofChange Rows.slimSpec).preRow enc Tryz.prog Tryz.f13 Rows.slimRow.domain false Rows.slimRow.laid) (((Go.OpenSpec.ofChange Rows.slimSpec).at F).post enc Tryz.prog Tryz.f13 false true false false):=by
 refine returnsInHanded_of_row (C:=Tryz.checked) (s:=(Go.OpenSpec.ofChange Rows.slimSpec)) ownSlim started (by kernel_rfl) Tryz.func13 (witnessSlim os enc) ?_
 intro W base args ds gs before hval hW _ hcond _ hL hS _
 exact contractSlim H enc W args base ds gs before hval hW hL hS

theorem slim_said:Rows.SlimSaid :=
 OpenClaim.holds_of_cond 13 Tryz.f13 rfl rfl rfl rfl rfl rfl rfl ⟨rfl,rfl,rfl,rfl,rfl⟩ rfl rfl rfl rfl rfl m1Slim Tryz.func13 m2Slim m3Slim m4Slim
  (fun os started H enc _ F=>by rw[OpenClaim.pre_eq_preRow];exact liftedSlim os started H enc F)

theorem slim_card:Rows.SlimCardSaid :=
 Claim7.holds_tied_plain_at .later [] _ _ _ _ slim_said (fun _ h=>by cases h) (by as_aux_lemma=>kernel_rfl) (fun _ h=>by cases h) slim_row_tie rfl ⟨rfl,rfl⟩ (by as_aux_lemma=>kernel_rfl) rfl plainSlim (by as_aux_lemma=>kernel_rfl)
end Go.Proofs.YtfmmllpjgkgeaaaGreatDoor

