import Derived.Test.YtoiiaankpnhppaaGreatDoorRows
import Derived.Test.YtoiiaankpnhppaaGreatDoorCards
import Derived.Test.YtoiiaankpnhppaaGreatDoorTie
import Derived.ProofKit
import Derived.OpenShut
import Derived.Deep.DeepHandedRow
import Derived.Carry
import Derived.Lay
import Derived.MakeChecks
import Derived.FnData
import Derived.LaidSub
import Derived.Shelf.Vars
import Derived.Lib.LaidTab
import Derived.ChangeSame
import Derived.WalkKit
set_option linter.unusedVariables false
set_option linter.unusedSimpArgs false
namespace Go.Proofs.YtoiiaankpnhppaaGreatDoor
open Go.ChangeShapes Go.WideShapes Go.ChangeAt Go.RowKit

noncomputable def startWon (os : Os) : World := World.laidAll Tryz.prog os Rows.wonRow.laid
theorem startWon_laid (os : Os) : laidMetH Tryz.prog Rows.wonRow.laid ((startWon os).forCall (fun _ _ => 0) ⟨#[], #[.int .i64 0, .slice none 0 0, .bool false], []⟩).memory := by
  rw [MakeChecks.laidMetH_plain _ _ _ (by kernel_rfl)]
  exact laidMet_laidAll _ (by kernel_rfl) (by kernel_rfl)
theorem startWon_shaped (os : Os) : ((startWon os).forCall (fun _ _ => 0) ⟨#[], #[.int .i64 0, .slice none 0 0, .bool false], []⟩).Shaped Tryz.prog := World.shaped_of_ZipB (by kernel_rfl) (by kernel_rfl)
theorem startWon_reads (os : Os) {H : Type} (enc : TypeId × Value → H) : ∃ places, DataW.whole enc Tryz.prog ((startWon os).forCall (fun _ _ => 0) ⟨#[], #[.int .i64 0, .slice none 0 0, .bool false], []⟩).memory Tryz.f7.params.toList Rows.wonSpec.vars false (#[Value.int .i64 0, .slice none 0 0, .bool false] : Array Value).toList 8 = some ([.lit (.int .i64 0), .nil, .lit (.bool false)], [], places) :=
  ⟨[], by kernel_rfl⟩
theorem startWon_ok (os : Os) : Input.okWideB Tryz.prog ((startWon os).forCall (fun _ _ => 0) ⟨#[], #[.int .i64 0, .slice none 0 0, .bool false], []⟩) 7 ⟨#[], #[.int .i64 0, .slice none 0 0, .bool false], []⟩ = true := by kernel_rfl
theorem startWon_small (os : Os) {H : Type} (enc : TypeId × Value → H) : (Go.OpenSpec.ofChange Rows.wonSpec).bare.sizedB enc Tryz.prog Tryz.f7 false ((startWon os).forCall (fun _ _ => 0) ⟨#[], #[.int .i64 0, .slice none 0 0, .bool false], []⟩).memory #[.int .i64 0, .slice none 0 0, .bool false] 8 = true := by kernel_rfl

set_option maxRecDepth 100000 in
theorem witnessWon (os : Os) {H : Type} (enc : TypeId × Value → H) :
    ∃ (w : World) (tape : Tape) (i : Input), w.os = os ∧ (w.forCall tape i).Shaped Tryz.checked.prog ∧ i.vars = [] ∧ Input.okWide Tryz.checked.prog (w.forCall tape i) .any w.heap.size 7 i ∧
      (Go.OpenSpec.ofChange Rows.wonSpec).preRow enc Tryz.checked.prog Tryz.f7 Rows.wonRow.domain false Rows.wonRow.laid (w.forCall tape i).memory i.args ∧
      ({} : Assume).holds Tryz.checked.prog (lone (Frame.enter Tryz.checked.prog 7 i.args .normal) [] (w.forCall tape i)) := by
  obtain ⟨places, hx⟩ := startWon_reads os enc
  refine ⟨startWon os, fun _ _ => 0, ⟨#[], #[.int .i64 0, .slice none 0 0, .bool false], []⟩, World.laidAll_os _ _ _, startWon_shaped os, (Input.okWide_of_okWideB (base := 0) (startWon_ok os)).1, (Input.okWide_of_okWideB (startWon_ok os)).2,
    OpenSpec.preRow_of_cond 8 hx (by kernel_rfl) (fun k hk => by cases hk) (startWon_small os enc) (startWon_laid os), ?_⟩
  simp only [Assume.holds]
  exact ⟨by simp, by simp, fun _ => Modest.zero, by simp, by simp⟩

theorem m1Won : Tryz.pinned.checked.prog.funcNamed Rows.wonRow.func = some 7 := by kernel_rfl
theorem m2Won : joinedFacts Tryz.pinned.checked.prog 7 Tryz.f7 (Go.OpenSpec.ofChange Rows.wonSpec).bare Rows.wonRow = true := by kernel_rfl
theorem m3Won : Tryz.f7.isInstance Tryz.pinned.checked.prog Rows.wonRow.origin Rows.wonRow.targs := of_decide_eq_true (by kernel_rfl)
theorem m4Won : Tryz.f7.isWrapper Tryz.pinned.checked.prog Rows.wonRow.wrapper Rows.wonRow.mainSum := by
  unfold Func.isWrapper; first | (rw [if_pos (by decide +kernel)]; kernel_rfl) | (rw [if_neg (by decide +kernel)]; exact ⟨rfl, rfl⟩)
theorem plainWon (f : FuncId) (fn : Func) (hf : Tryz.pinned.checked.prog.funcNamed Rows.wonRow.func = some f) (hfn : Tryz.pinned.checked.prog.funcs[f]? = some fn) :
    true = Tryz.pinned.checked.prog.looks [] ∧ ∀ (j : Nat) t, fn.params[j]? = some t → Tryz.pinned.checked.prog.wantsStandIn t = false := by
  obtain rfl : f = 7 := Option.some.inj ((show Tryz.prog.funcNamed Rows.wonRow.func = some 7 by kernel_rfl).symm.trans hf) |>.symm
  obtain rfl : fn = Tryz.f7 := (Option.some.inj (Tryz.func7.symm.trans hfn)).symm
  refine ⟨by kernel_rfl, fun j t ht => ?_⟩
  rw [Tryz.params7] at ht
  have hm := Array.mem_of_getElem? ht
  simp only [List.mem_toArray, List.mem_cons, List.not_mem_nil, or_false] at hm
  have w1 : ∀ t, t = 3 ∨ t = 25 ∨ t = 4 → Tryz.prog.wantsStandIn t = false := by
    intro t ht
    rcases ht with rfl | rfl | rfl <;> kernel_rfl
  exact w1 t (by simpa using hm)
end Go.Proofs.YtoiiaankpnhppaaGreatDoor

