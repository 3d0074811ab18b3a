import Derived.Deep.OwnRows
import Derived.Test.YtoiiaankpnhppaaGreatDoorPart05
set_option linter.unusedVariables false
set_option linter.unusedSimpArgs false
namespace Go.Proofs.YtoiiaankpnhppaaGreatDoor
open Go.RowKit Go.Deep

def AvAt (w : World) (r B : Nat) (v : Value) : Prop := ∃ b, ∃ kl : List Int, v = .slice (some ⟨b, 0, none⟩) r r ∧ B ≤ b ∧ kl.length = r ∧ SliceT 3 w v (ints kl)
theorem AvAt.chg {M : Nat → Prop} {w w' : World} {r B : Nat} {v : Value} (h : AvAt w r B v) (hc : Chg M w w') (hM : ∀ b, Tagged w b 3 → ¬ M b) : AvAt w' r B v := by
  obtain ⟨b, kl, h1, h2, h3, h4⟩ := h
  exact ⟨b, kl, h1, h2, h3, h4.chg hc hM⟩
theorem AvAt.new (w : World) (r : Nat) (o : Obj) : AvAt ((w.alloc (.cells (madeCells #[.int .i64 0] r) 3)).alloc o) r w.heap.size (.slice (some ⟨w.heap.size, 0, none⟩) r r) := by
  have hm : (madeCells #[.int .i64 0] r).toList = List.replicate r (.int .i64 0) := by
    apply List.ext_getElem
    · simp [madeCells]
    · intro i h1 h2
      simp [madeCells, Nat.mod_one]
  have hb : ((w.alloc (.cells (madeCells #[.int .i64 0] r) 3)).alloc o).heap[w.heap.size]? = some (.cells (madeCells #[.int .i64 0] r) 3 (0, 0)) := (((Below.refl (w.alloc (.cells (madeCells #[.int .i64 0] r) 3)).heap.size _).alloc (Nat.le_refl _) o).block w.heap.size (by simp)).trans (heap_alloc_new w _)
  refine ⟨w.heap.size, List.replicate r 0, rfl, Nat.le_refl _, by simp, Or.inr ⟨w.heap.size, 0, r, by simp [ints], by simp [ints], ⟨_, hb⟩, fun j hj => ?_⟩⟩
  have hj' : j < r := by simpa [ints] using hj
  simp only [World.cell?, hb, Nat.zero_add]
  show (madeCells #[.int .i64 0] r)[j]? = _
  rw [← Array.getElem?_toList, hm]
  simp [ints, hj']
theorem Blk5.set1 {b : Nat} {v0 v1 v2 v3 v4 : Value} {w : World} (h : Blk5 b v0 v1 v2 v3 v4 w) (u : Value) (ht : ∀ j, (w.setCell ⟨b, 1, none⟩ u).frozen? ⟨b, j, none⟩ = false) : Blk5 b v0 u v2 v3 v4 (w.setCell ⟨b, 1, none⟩ u) :=
  ⟨(cs_oth (Or.inr (by omega))).trans h.c0, cs_same h.c1, (cs_oth (Or.inr (by omega))).trans h.c2, (cs_oth (Or.inr (by omega))).trans h.c3, (cs_oth (Or.inr (by omega))).trans h.c4, ht⟩

end Go.Proofs.YtoiiaankpnhppaaGreatDoor

