import Derived.Test.YtoiiaankpnhppaaGreatDoorPart19
set_option linter.unusedVariables false
set_option linter.unusedSimpArgs false
namespace Go.Proofs.YtoiiaankpnhppaaGreatDoor
open Go.RowKit

set_option maxHeartbeats 4000000 in
set_option maxRecDepth 100000 in
theorem RefSend_no (w : World) (c rb : Nat) (evv fv : Value) (av : Nat → Value) (room : Nat) (es : List Ev) (acc most : Nat) (knowns : List (List Bool)) (h : RefAt w c rb evv fv av room es acc most knowns) (i j : Int) (hij : ¬ ((0 ≤ i ∧ i < knowns.length) ∧ (0 ≤ j ∧ j < knowns.length))) :
    Calls Tryz.prog 88 #[.pointer (some ⟨c, 0, none⟩), .int .i64 i, .int .i64 j] w fun e w' => e = .returned (.tuple #[.int .i64 0, .int .i64 2]) ∧ w' = w := by
  have HU : Hid (∀ i : Int, Calls Tryz.prog 83 #[.pointer (some ⟨c, 0, none⟩), .int .i64 i] w fun e w' => e = .returned (.int .i64 (if 0 ≤ i ∧ i < knowns.length then 0 else 2)) ∧ w' = w) := fun i => Up_any w c rb evv fv av room es acc most knowns h i
  clear h
  by_cases hi : 0 ≤ i ∧ i < knowns.length
  · have hj : ¬ (0 ≤ j ∧ j < knowns.length) := fun hj => hij ⟨hi, hj⟩
    have HI : Hid (_) := HU.out i
    have HJ : Hid (_) := HU.out j
    rw [if_pos hi] at HI
    rw [if_neg hj] at HJ
    clear hi hj hij HU
    go_enter Tryz.func88, Tryz.ntmps88
    go_wp2_with fail
    refine Calls.mono HI.out ?_
    rintro e w1 ⟨rfl, rfl⟩
    go_wp2_with fail
    refine Calls.mono HJ.out ?_
    rintro e w1 ⟨rfl, rfl⟩
    go_wp2_with fail
    go_ret2
    exact ⟨rfl, rfl⟩
  · have HI : Hid (_) := HU.out i
    rw [if_neg hi] at HI
    clear hi hij HU
    go_enter Tryz.func88, Tryz.ntmps88
    go_wp2_with fail
    refine Calls.mono HI.out ?_
    rintro e w1 ⟨rfl, rfl⟩
    go_wp2_with fail
    go_ret2
    exact ⟨rfl, rfl⟩

set_option maxHeartbeats 4000000 in
set_option maxRecDepth 100000 in
theorem RefSend_bad (w : World) (c rb : Nat) (evv fv : Value) (av : Nat → Value) (room : Nat) (es : List Ev) (acc most : Nat) (knowns : List (List Bool)) (h : RefAt w c rb evv fv av room es acc most knowns) (fs : List FrD) (hf : FrAt w fv fs) (h500 : fs.length ≤ 500) (i j : Int) (hi : 0 ≤ i ∧ i < knowns.length) (hj : 0 ≤ j ∧ j < knowns.length) (hx : i = j ∨ 500 ≤ fs.length) :
    Calls Tryz.prog 88 #[.pointer (some ⟨c, 0, none⟩), .int .i64 i, .int .i64 j] w fun e w' => e = .returned (.tuple #[.int .i64 0, .int .i64 (if i = j then 1 else 7)]) ∧ w' = w := by
  have HI : Hid (_) := Up_any w c rb evv fv av room es acc most knowns h i
  have HJ : Hid (_) := Up_any w c rb evv fv av room es acc most knowns h j
  rw [if_pos hi] at HI
  rw [if_pos hj] at HJ
  obtain ⟨fo, fc, hfv, hfc⟩ := hf.shape
  have f4 : w.cell? ⟨c, 4, none⟩ = some (.slice fo fs.length fc) := by rw [← hfv]; exact h.f4
  clear h hf hfv hi hj
  by_cases hij : i = j
  · rw [if_pos hij]
    subst hij
    clear hx
    go_enter Tryz.func88, Tryz.ntmps88
    go_wp2_with fail
    refine Calls.mono HI.out ?_
    rintro e w1 ⟨rfl, rfl⟩
    go_wp2_with fail
    refine Calls.mono HJ.out ?_
    rintro e w1 ⟨rfl, rfl⟩
    go_wp2_with fail
    go_ret2
    exact ⟨rfl, rfl⟩
  · rw [if_neg hij]
    have hb : (i == j) = false := beq_eq_false_iff_ne.2 hij
    have h5 : 500 ≤ fs.length := hx.resolve_left hij
    have h5I : (500 : Int) ≤ (fs.length : Int) := by omega
    clear hx hij
    go_enter Tryz.func88, Tryz.ntmps88
    go_wp2_with fail
    refine Calls.mono HI.out ?_
    rintro e w1 ⟨rfl, rfl⟩
    go_wp2_with fail
    refine Calls.mono HJ.out ?_
    rintro e w1 ⟨rfl, rfl⟩
    go_wp2_with fail
    go_ret2
    exact ⟨rfl, rfl⟩
end Go.Proofs.YtoiiaankpnhppaaGreatDoor

