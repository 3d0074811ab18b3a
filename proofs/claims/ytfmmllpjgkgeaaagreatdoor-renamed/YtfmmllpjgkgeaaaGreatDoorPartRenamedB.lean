import Derived.Test.YtfmmllpjgkgeaaaGreatDoorPart46
import Derived.Test.YtfmmllpjgkgeaaaGreatDoorPart55
import Derived.Test.YtfmmllpjgkgeaaaGreatDoorPart67
import Derived.Test.YtfmmllpjgkgeaaaGreatDoorPartRenamedA
set_option linter.unusedVariables false
set_option linter.unusedSimpArgs false
namespace Go.Proofs.YtfmmllpjgkgeaaaGreatDoor
open Go.ChangeShapes Go.WideShapes Go.ChangeAt Go.RowKit Go.Deep

theorem ownRenamed:ownKnob Tryz.prog.godebug=none:=by kernel_rfl
theorem laidOutRenamed:laidOutB Tryz.prog=true:=by kernel_rfl

set_option maxRecDepth 100000 in
theorem contractRenamed (H:Type) (enc:TypeId × Value->H) (W:World) (args:Array Value) (base:Nat) (ds gs:List (DataW H)) (before:List MemPlace)
  (hval:∀ (j:Nat) t v,Tryz.f14.params[j]? = some t->args[j]? = some v->Value.okWide Tryz.prog W .any base t v) (hW:DataW.Whole enc Tryz.prog Tryz.f14.params.toList Rows.renamedSpec.vars false W args.toList ds gs before)
  (hL:laidMetH Tryz.prog Rows.renamedRow.laid W) (hS:W.ShapedOpen Tryz.prog) :
  Calls Tryz.prog 14 args W fun e W'=>∃ v,e=.returned v/\Rows.renamedSpec.post enc Tryz.prog Tryz.f14 false true false false W args v W':=by
 have hW':=hW
 obtain ⟨p,q,hA0,hV,rfl,hfz,hnd⟩:=hW
 have hA:DataW.TrodAll enc Tryz.prog W 0 (fun _=>true) true Tryz.f14.params.toList args.toList ds p:=hA0
 rw[Tryz.params14] at hA hval
 obtain ⟨v0,vs0,d0,ds0,p0,q0,hargs,rfl,rfl,h0,r0⟩:=trodAll_cons hA
 obtain ⟨v1,vs1,d1,ds1,p1,q1,hvs1,rfl,rfl,h1,r1⟩:=trodAll_cons r0
 obtain ⟨v2,vs2,d2,ds2,p2,q2,hvs2,rfl,rfl,h2,r2⟩:=trodAll_cons r1
 obtain ⟨hvs3,rfl,rfl⟩:=trodAll_nil r2
 subst hvs3
 subst hvs2
 subst hvs1
 obtain rfl:args=#[v0,v1,v2]:=by cases args;simp_all
 obtain ⟨rfl,rfl⟩:=trodVars_none hV
 clear hA0
 simp only[List.append_nil] at hW'
 have h0k:=h0
 obtain ⟨fuel0,hf0⟩:=h0
 obtain ⟨n0,rfl⟩:=okWide_int Tryz.underlying3 (hval 0 3 v0 rfl rfl)
 obtain ⟨n0',e0,-,w0⟩:=DataW.trod_int Tryz.underlying3 hf0
 obtain rfl:n0=n0':=by simpa[Value.cells] using e0
 have h1k:=h1
 obtain ⟨fuel1,hf1⟩:=h1
 obtain ⟨n1,rfl⟩:=okWide_int Tryz.underlying3 (hval 1 3 v1 rfl rfl)
 obtain ⟨n1',e1,-,w1⟩:=DataW.trod_int Tryz.underlying3 hf1
 obtain rfl:n1=n1':=by simpa[Value.cells] using e1
 have h2k:=h2
 obtain ⟨fuel2,hf2⟩:=h2
 have hcs2:v2.cells.toList=[v2]:=by
  obtain ⟨a,len,cap,rfl⟩:=okWide_slice Tryz.underlying25 (hval 2 25 v2 rfl rfl)
  rfl
 rw[hcs2] at hf2
 obtain ⟨l2,hl2⟩:=open_acts hf2
 refine (Renamed_any prog_ok prog_frame prog_tick W (kglob_of hS hL) n0 n1 (kwf_i64 w0) (kwf_i64 w1) v2 l2 hl2).mono fun e W' ⟨he,hg⟩=>?_
 subst he
 have hlt:∀ x∈p0 ++ (p1 ++ (p2)),x.block<W.heap.size:=fun x hx=>by
  have h9:=hW'.lt x
  simp only[List.mem_append] at hx h9
  exact h9 (by simpa using hx)
 exact ⟨_,rfl,_,_,_,[],_,[],hW',trodAll_mk1 (shut_bool Tryz.underlying4 _),trodAll_mk3 (Below.trod laidOutRenamed (by kernel_rfl) (of_decide_eq_true (by kernel_rfl)) h0k hg (fun x hx=>hlt x (by simp[hx]))) (Below.trod laidOutRenamed (by kernel_rfl) (of_decide_eq_true (by kernel_rfl)) h1k hg (fun x hx=>hlt x (by simp[hx]))) (Below.trod laidOutRenamed (by kernel_rfl) (of_decide_eq_true (by kernel_rfl)) h2k hg (fun x hx=>hlt x (by simp[hx]))),rfl,hg.frame _,fun h=>by cases h⟩

set_option maxRecDepth 100000 in
theorem liftedRenamed (os:Os) (started:os.Started) (H:Type) (enc:TypeId × Value->H) (F:Stop.Interp) :
  ReturnsInHanded {} Tryz.checked os 14 .any ((Go.OpenSpec.ofChange Rows.renamedSpec).preRow enc Tryz.prog Tryz.f14 Rows.renamedRow.domain false Rows.renamedRow.laid) (((Go.OpenSpec.ofChange Rows.renamedSpec).at F).post enc Tryz.prog Tryz.f14 false true false false):=by
 refine returnsInHanded_of_row (C:=Tryz.checked) (s:=(Go.OpenSpec.ofChange Rows.renamedSpec)) ownRenamed started (by kernel_rfl) Tryz.func14 (witnessRenamed os enc) ?_
 intro W base args ds gs before hval hW _ hcond _ hL hS _
 exact contractRenamed H enc W args base ds gs before hval hW hL hS

theorem renamed_said:Rows.RenamedSaid :=
 OpenClaim.holds_of_cond 14 Tryz.f14 rfl rfl rfl rfl rfl rfl rfl ⟨rfl,rfl,rfl,rfl,rfl⟩ rfl rfl rfl rfl rfl m1Renamed Tryz.func14 m2Renamed m3Renamed m4Renamed
  (fun os started H enc _ F=>by rw[OpenClaim.pre_eq_preRow];exact liftedRenamed os started H enc F)

theorem renamed_card:Rows.RenamedCardSaid :=
 Claim7.holds_tied_plain_at .later [] _ _ _ _ renamed_said (fun _ h=>by cases h) (by as_aux_lemma=>kernel_rfl) (fun _ h=>by cases h) renamed_row_tie rfl ⟨rfl,rfl⟩ (by as_aux_lemma=>kernel_rfl) rfl plainRenamed (by as_aux_lemma=>kernel_rfl)
end Go.Proofs.YtfmmllpjgkgeaaaGreatDoor

