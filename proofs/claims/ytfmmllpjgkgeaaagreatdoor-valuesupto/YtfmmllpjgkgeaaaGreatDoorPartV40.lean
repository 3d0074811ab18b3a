import Derived.Shelf.Vars
import Derived.MakeChecks
import Derived.FnData
import Derived.Test.YtfmmllpjgkgeaaaGreatDoorCards
import Derived.Test.YtfmmllpjgkgeaaaGreatDoorTie
import Derived.ProofKit
import Derived.OpenShut
import Derived.Deep.DeepHandedRow
import Derived.Carry
import Derived.Lay
import Derived.Test.YtfmmllpjgkgeaaaGreatDoorPartV35
import Derived.Test.YtfmmllpjgkgeaaaGreatDoorPartV39
set_option linter.unusedVariables false
set_option linter.unusedSimpArgs false
set_option maxHeartbeats 16000000
set_option maxRecDepth 100000
namespace Go.Proofs.YtfmmllpjgkgeaaaGreatDoor
open Go.ChangeShapes Go.WideShapes Go.Deep

theorem g0:Tryz.prog.globalNamed "internal/bytealg.MaxLen" = some 0:=by kernel_rfl
theorem g1:Tryz.prog.globalNamed "strconv.ErrSyntax" = some 1:=by kernel_rfl
theorem g2:Tryz.prog.globalNamed "strconv.ErrRange" = some 2:=by kernel_rfl
theorem g3:Tryz.prog.globalNamed "internal/strconv.uint64pow10" = some 3:=by kernel_rfl
theorem glob_len {W:World} (hS:W.ShapedOpen Tryz.prog):∃ m,W.cell? ⟨0,0,none⟩=some (.int .i64 m) :=
 cell_of_shapedOpen_int (zero:=#[.int .i64 0]) (t:=3) hS (of_decide_eq_true (by kernel_rfl)) (by kernel_rfl) rfl (by kernel_rfl) (by kernel_rfl) Tryz.underlying3
theorem laid_pow {W:World} (hL:laidMetH Tryz.prog Rows.valuesUptoRow.laid W):laidMetH Tryz.prog [("internal/strconv.uint64pow10",Lib.tabData .u64 Lib.pow10Tab)] W:=by
 have hp:=laidMetH.filter (fun x=>x.1 == "internal/strconv.uint64pow10") hL
 have e1:(Rows.valuesUptoRow.laid.filter fun x=>x.1 == "internal/strconv.uint64pow10")=[("internal/strconv.uint64pow10",Lib.tabData .u64 Lib.pow10Tab)]:=by rfl
 rw[e1] at hp
 exact hp

theorem open_itf {H:Type} {enc:TypeId × Value->H} {P:Program} {w:World} {base:Nat} {sp:Nat->Bool} {held:Bool} {fuel:Nat} {t:TypeId} {ms:Array (String × TypeId)} {cs:List Value} {x:DataW H × List MemPlace}
  (ht:P.underlying t=some (.interface ms)) (h:DataW.trod enc P w base sp held fuel t cs=some x):∃ v,cs=[v]/\(v=.nilIface\/∃ u y,v=.iface u y):=by
 cases fuel with
 | zero=>simp[DataW.trod] at h
 | succ n =>
  cases cs with
  | nil=>simp[DataW.trod,ht] at h
  | cons c r =>
   cases r with
   | nil=>cases c <;> simp[DataW.trod,ht] at h ⊢
   | cons _ _=>simp[DataW.trod,ht] at h

theorem laid_itf {W:World} {name:String} {d:DataW Unit} {g:Nat} {t:TypeId} {ms:Array (String × TypeId)} (hg:Tryz.prog.globalNamed name=some g) (hty:(Tryz.prog.globals[g]?).map (·.type)=some t) (ht:Tryz.prog.underlying t=some (.interface ms))
  (h:laidMet Tryz.prog [(name,d)] W):∃ ev,W.cell? ⟨g,0,none⟩=some ev/\(ev=.nilIface\/∃ te pe,ev=.iface te pe):=by
 obtain ⟨ps,⟨g',t',cs,fuel,p,q,hg',ht',hvar,hd,_,_⟩,_⟩:=h
 obtain rfl:=Option.some.inj (hg.symm.trans hg')
 obtain rfl:=Option.some.inj (hty.symm.trans ht')
 obtain ⟨v,e,hv⟩:=open_itf ht hd
 refine ⟨v, ?_,hv⟩
 rw[World.var?_cell hg hvar 0,<- Array.getElem?_toList,e]
 rfl

theorem ty1:(Tryz.prog.globals[1]?).map (·.type)=some 260:=by kernel_rfl
theorem ty2:(Tryz.prog.globals[2]?).map (·.type)=some 260:=by kernel_rfl
theorem ty3:(Tryz.prog.globals[3]?).map (·.type)=some 348:=by kernel_rfl
theorem cellsTab:Tryz.prog.cellsOf 348=20:=by kernel_rfl
theorem cellsU64:Tryz.prog.cellsOf 321=1:=by kernel_rfl

theorem laid_syn {W:World} (hL:laidMetH Tryz.prog Rows.valuesUptoRow.laid W):∃ ev,W.cell? ⟨1,0,none⟩=some ev/\(ev=.nilIface\/∃ te pe,ev=.iface te pe):=by
 have hp:=laidMetH.filter (fun x=>x.1 == "strconv.ErrSyntax") hL
 obtain ⟨d,e1,e2⟩:∃ d,(Rows.valuesUptoRow.laid.filter fun x=>x.1 == "strconv.ErrSyntax")=[("strconv.ErrSyntax",d)]/\d.handleName?.isNone=true:=⟨_,rfl,rfl⟩
 rw[e1,MakeChecks.laidMetH_plain _ _ _ (by simp[e2])] at hp
 exact laid_itf g1 ty1 Tryz.underlying260 hp
theorem laid_rng {W:World} (hL:laidMetH Tryz.prog Rows.valuesUptoRow.laid W):∃ ev,W.cell? ⟨2,0,none⟩=some ev/\(ev=.nilIface\/∃ te pe,ev=.iface te pe):=by
 have hp:=laidMetH.filter (fun x=>x.1 == "strconv.ErrRange") hL
 obtain ⟨d,e1,e2⟩:∃ d,(Rows.valuesUptoRow.laid.filter fun x=>x.1 == "strconv.ErrRange")=[("strconv.ErrRange",d)]/\d.handleName?.isNone=true:=⟨_,rfl,rfl⟩
 rw[e1,MakeChecks.laidMetH_plain _ _ _ (by simp[e2])] at hp
 exact laid_itf g2 ty2 Tryz.underlying260 hp
theorem glob_tab {W:World} (hL:laidMetH Tryz.prog Rows.valuesUptoRow.laid W):Lib.TabIs Tryz.prog W "internal/strconv.uint64pow10" .u64 Lib.pow10Tab:=by
 have hp:=laid_pow hL
 rw[MakeChecks.laidMetH_plain _ _ _ (by kernel_rfl)] at hp
 exact Lib.tabIs_of_head g3 ty3 Tryz.underlying348 Tryz.underlying321 cellsU64 cellsTab hp

theorem glob_of {W:World} (hS:W.ShapedOpen Tryz.prog) (hL:laidMetH Tryz.prog Rows.valuesUptoRow.laid W):Glob W :=
 ⟨glob_len hS,laid_syn hL,laid_rng hL,glob_tab hL,World.block_lt_of_cell? W ⟨3,0,none⟩ ((glob_tab hL).cell g3 0 (by decide))⟩
end Go.Proofs.YtfmmllpjgkgeaaaGreatDoor
namespace Go.Proofs.YtfmmllpjgkgeaaaGreatDoor
open Go.ChangeShapes Go.WideShapes Go.ChangeAt Go.RowKit Go.Deep

theorem own:ownKnob Tryz.prog.godebug=none:=by kernel_rfl
theorem laidOut:laidOutB Tryz.prog=true:=by kernel_rfl

theorem contract (H:Type) (enc:TypeId × Value->H) (W:World) (args:Array Value) (base:Nat) (ds gs:List (DataW H)) (before:List MemPlace)
  (hval:∀ (j:Nat) t v,Tryz.f3.params[j]? = some t->args[j]? = some v->Value.okWide Tryz.prog W .any base t v) (hW:DataW.Whole enc Tryz.prog Tryz.f3.params.toList Rows.valuesSpec.vars false W args.toList ds gs before) (hB:Rows.uptoSmall H (ds ++ gs)=true)
  (hL:laidMetH Tryz.prog Rows.valuesUptoRow.laid W) (hS:W.ShapedOpen Tryz.prog) :
  Calls Tryz.prog 3 args W fun e W'=>∃ v,e=.returned v/\Rows.valuesSpec.post enc Tryz.prog Tryz.f3 false true false false W args v W':=by
 have hW':=hW
 obtain ⟨p,q,hA0,hV,rfl,hfz,hnd⟩:=hW
 have hA:DataW.TrodAll enc Tryz.prog W 0 (fun _=>true) true Tryz.f3.params.toList args.toList ds p:=hA0
 rw[Tryz.params3] at hA hval
 obtain ⟨v0,vs0,d0,ds0,p0,q0,hargs,rfl,rfl,h0,r0⟩:=trodAll_cons hA
 obtain ⟨rfl,rfl,rfl⟩:=trodAll_nil r0
 obtain rfl:args=#[v0]:=by cases args;simp_all
 obtain ⟨rfl,rfl⟩:=trodVars_none hV
 clear hA0
 simp only[List.append_nil] at hW' hB
 have hb1:Rows.uptoBulk d0<=1048576:=by
  have h1:=of_decide_eq_true hB
  have h2:=(bulk_all [d0]).2 d0 (List.mem_singleton.2 rfl)
  omega
 have h0k:=h0
 obtain ⟨fuel,hf⟩:=h0
 have hcs:v0.cells.toList=[v0]:=by
  obtain ⟨a,len,cap,rfl⟩:=okWide_slice Tryz.underlying22 (hval 0 22 v0 rfl rfl)
  rfl
 rw[hcs] at hf
 obtain ⟨l,hv,hok⟩:=open_script hf
 have hlen:l.length<=1099511627776:=by
  cases l with
  | nil=>exact Nat.zero_le _
  | cons o r=>exact Nat.le_trans (hok o (List.mem_cons_self ..) hb1).2 (by decide)
 refine (Values_any W (glob_of hS hL) v0 l hv hlen (fun o ho=>(hok o ho hb1).1)).mono fun e W' ⟨he,hg⟩=>?_
 subst he
 have hlt:∀ x∈p0,x.block<W.heap.size:=fun x hx=>by simpa using hW'.lt x hx
 exact ⟨_,rfl,_,_,_,[],_,[],hW',trodAll_mk1 (shut_bool Tryz.underlying4 _),trodAll_mk1 (Below.trod laidOut (by kernel_rfl) (of_decide_eq_true (by kernel_rfl)) h0k hg hlt),rfl,hg.frame _,fun h=>by cases h⟩
end Go.Proofs.YtfmmllpjgkgeaaaGreatDoor

