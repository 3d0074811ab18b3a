import Derived.Test.YtfmmllpjgkgeaaaGreatDoorPart42
import Derived.Test.YtfmmllpjgkgeaaaGreatDoorPart49
import Derived.Test.YtfmmllpjgkgeaaaGreatDoorPart57
import Derived.Test.YtfmmllpjgkgeaaaGreatDoorPartWonA
set_option linter.unusedVariables false
set_option linter.unusedSimpArgs false
set_option maxHeartbeats 16000000
set_option maxRecDepth 100000
namespace Go.Proofs.YtfmmllpjgkgeaaaGreatDoor
open Go.ChangeShapes Go.WideShapes Go.ChangeAt Go.RowKit Go.Deep

theorem ownWon:ownKnob Tryz.prog.godebug=none:=by kernel_rfl
theorem laidOutWon:laidOutB Tryz.prog=true:=by kernel_rfl

theorem contractWon (H:Type) (enc:TypeId × Value->H) (W:World) (args:Array Value) (base:Nat) (ds gs:List (DataW H)) (before:List MemPlace)
  (hval:∀ (j:Nat) t v,Tryz.f8.params[j]? = some t->args[j]? = some v->Value.okWide Tryz.prog W .any base t v) (hW:DataW.Whole enc Tryz.prog Tryz.f8.params.toList Rows.wonSpec.vars false W args.toList ds gs before)
  (hL:laidMetH Tryz.prog Rows.wonRow.laid W) (hS:W.ShapedOpen Tryz.prog) :
  Calls Tryz.prog 8 args W fun e W'=>∃ v,e=.returned v/\Rows.wonSpec.post enc Tryz.prog Tryz.f8 false true false false W args v W':=by
 have hW':=hW
 obtain ⟨p,q,hA0,hV,rfl,hfz,hnd⟩:=hW
 have hA:DataW.TrodAll enc Tryz.prog W 0 (fun _=>true) true Tryz.f8.params.toList args.toList ds p:=hA0
 rw[Tryz.params8] at hA hval
 obtain ⟨v0,vs0,d0,ds0,p0,q0,hargs,rfl,rfl,h0,r0⟩:=trodAll_cons hA
 obtain ⟨v1,vs1,d1,ds1,p1,q1,hvs1,rfl,rfl,h1,r1⟩:=trodAll_cons r0
 obtain ⟨v2,vs2,d2,ds2,p2,q2,hvs2,rfl,rfl,h2,r2⟩:=trodAll_cons r1
 obtain ⟨hvs3,rfl,rfl⟩:=trodAll_nil r2
 subst hvs3
 subst hvs2
 subst hvs1
 obtain rfl:args=#[v0,v1,v2]:=by cases args;simp_all
 obtain ⟨rfl,rfl⟩:=trodVars_none hV
 clear hA0
 simp only[List.append_nil] at hW'
 have h0k:=h0
 obtain ⟨fuel0,hf0⟩:=h0
 obtain ⟨n0,rfl⟩:=okWide_int Tryz.underlying3 (hval 0 3 v0 rfl rfl)
 obtain ⟨n0',e0,-,w0⟩:=DataW.trod_int Tryz.underlying3 hf0
 obtain rfl:n0=n0':=by simpa[Value.cells] using e0
 have h1k:=h1
 obtain ⟨fuel1,hf1⟩:=h1
 have hcs1:v1.cells.toList=[v1]:=by
  obtain ⟨a,len,cap,rfl⟩:=okWide_slice Tryz.underlying25 (hval 1 25 v1 rfl rfl)
  rfl
 rw[hcs1] at hf1
 obtain ⟨l1,hl1⟩:=open_acts hf1
 have h2k:=h2
 obtain ⟨fuel2,hf2⟩:=h2
 obtain ⟨n2,rfl⟩:=okWide_bool Tryz.underlying4 (hval 2 4 v2 rfl rfl)
 refine (Won_any prog_ok prog_frame prog_tick W (kglob_of hS hL) n0 (kwf_i64 w0) v1 l1 hl1 n2).mono fun e W' ⟨he,hg⟩=>?_
 subst he
 have hlt:∀ x∈p0 ++ (p1 ++ (p2)),x.block<W.heap.size:=fun x hx=>by
  have h9:=hW'.lt x
  simp only[List.mem_append] at hx h9
  exact h9 (by simpa using hx)
 exact ⟨_,rfl,_,_,_,[],_,[],hW',trodAll_mk1 (shut_bool Tryz.underlying4 _),trodAll_mk3 (Below.trod laidOutWon (by kernel_rfl) (of_decide_eq_true (by kernel_rfl)) h0k hg (fun x hx=>hlt x (by simp[hx]))) (Below.trod laidOutWon (by kernel_rfl) (of_decide_eq_true (by kernel_rfl)) h1k hg (fun x hx=>hlt x (by simp[hx]))) (Below.trod laidOutWon (by kernel_rfl) (of_decide_eq_true (by kernel_rfl)) h2k hg (fun x hx=>hlt x (by simp[hx]))),rfl,hg.frame _,fun h=>by cases h⟩

theorem liftedWon (os:Os) (started:os.Started) (H:Type) (enc:TypeId × Value->H) (F:Stop.Interp) :
  ReturnsInHanded {} Tryz.checked os 8 .any ((Go.OpenSpec.ofChange Rows.wonSpec).preRow enc Tryz.prog Tryz.f8 Rows.wonRow.domain false Rows.wonRow.laid) (((Go.OpenSpec.ofChange Rows.wonSpec).at F).post enc Tryz.prog Tryz.f8 false true false false):=by
 refine returnsInHanded_of_row (C:=Tryz.checked) (s:=(Go.OpenSpec.ofChange Rows.wonSpec)) ownWon started (by kernel_rfl) Tryz.func8 (witnessWon os enc) ?_
 intro W base args ds gs before hval hW _ hcond _ hL hS _
 exact contractWon H enc W args base ds gs before hval hW hL hS

theorem won_said:Rows.WonSaid :=
 OpenClaim.holds_of_cond 8 Tryz.f8 rfl rfl rfl rfl rfl rfl rfl ⟨rfl,rfl,rfl,rfl,rfl⟩ rfl rfl rfl rfl rfl m1Won Tryz.func8 m2Won m3Won m4Won
  (fun os started H enc _ F=>by rw[OpenClaim.pre_eq_preRow];exact liftedWon os started H enc F)

theorem won_card:Rows.WonCardSaid :=
 Claim7.holds_tied_plain_at .later [] _ _ _ _ won_said (fun _ h=>by cases h) (by as_aux_lemma=>kernel_rfl) (fun _ h=>by cases h) won_row_tie rfl ⟨rfl,rfl⟩ (by as_aux_lemma=>kernel_rfl) rfl plainWon (by as_aux_lemma=>kernel_rfl)
end Go.Proofs.YtfmmllpjgkgeaaaGreatDoor

