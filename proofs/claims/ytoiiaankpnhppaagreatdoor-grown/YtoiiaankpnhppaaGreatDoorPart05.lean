import Derived.Handy
import Derived.Deep.DeepCutAuto
import Derived.Deep.RegionWith
import Derived.Laws.CopyOwn
import Derived.Test.YtoiiaankpnhppaaGreatDoorPart03
import Derived.Test.YtoiiaankpnhppaaGreatDoorPart04
set_option linter.unusedVariables false
set_option linter.unusedSimpArgs false
namespace Go.Proofs.YtoiiaankpnhppaaGreatDoor
open Go.RowKit

structure Blk5 (b : Nat) (v0 v1 v2 v3 v4 : Value) (w : World) : Prop where
  c0 : w.cell? ⟨b, 0, none⟩ = some v0
  c1 : w.cell? ⟨b, 1, none⟩ = some v1
  c2 : w.cell? ⟨b, 2, none⟩ = some v2
  c3 : w.cell? ⟨b, 3, none⟩ = some v3
  c4 : w.cell? ⟨b, 4, none⟩ = some v4
  f : ∀ j, w.frozen? ⟨b, j, none⟩ = false

theorem Blk5.below {b B : Nat} {v0 v1 v2 v3 v4 : Value} {w w' : World} (h : Blk5 b v0 v1 v2 v3 v4 w) (hb : Below B w w') (hB : b < B) : Blk5 b v0 v1 v2 v3 v4 w' :=
  ⟨(hb.cell (p := ⟨b, 0, none⟩) hB).trans h.c0, (hb.cell (p := ⟨b, 1, none⟩) hB).trans h.c1, (hb.cell (p := ⟨b, 2, none⟩) hB).trans h.c2, (hb.cell (p := ⟨b, 3, none⟩) hB).trans h.c3, (hb.cell (p := ⟨b, 4, none⟩) hB).trans h.c4, fun j => (hb.frozen (p := ⟨b, j, none⟩) hB).trans (h.f j)⟩


theorem evCells_snoc : ∀ (es : List Ev) (svs : List Value), svs.length = es.length → ∀ e v, evCells (es ++ [e]) (svs ++ [v]) = evCells es svs ++ [.string e.p, .int .u8 (e.a.toNat : Int), .string e.v, .int .i64 e.n, v] := by
  intro es svs hl e v
  unfold evCells
  rw [List.zip_append hl.symm, List.flatMap_append]; (first | done | rfl)

theorem EvsIn.mono {B B' : Nat} {w : World} {v : Value} {es : List Ev} (h : EvsIn B w v es) (hB : B ≤ B') : EvsIn B' w v es := by
  rcases h with h | ⟨b, off, cap, h1, h2, h3, h4⟩
  · exact Or.inl h
  · refine Or.inr ⟨b, off, cap, h1, h2, by omega, fun j hj => ?_⟩
    obtain ⟨sv, c0, c1, c2, c3, c4, c5⟩ := h4 j hj
    exact ⟨sv, c0, c1, c2, c3, c4, c5.mono hB⟩

theorem SliceT.chgT {t s : TypeId} {b : Nat} {w w' : World} {v : Value} {xs : List Value} (h : SliceT t w v xs) (hc : Chg (· = b) w w') (hb : Tagged w b s) (hne : t ≠ s) : SliceT t w' v xs :=
  h.chg hc fun c hcT e => (hcT.ne hb hne) e

theorem RepAt.keep {w w' : World} {rb off : Nat} {known : List Bool} {most most' : Nat} (h : RepAt w rb off known most) (hm : most ≤ most') (hS : ∀ t v xs, (t = 4 ∨ t = 3) → SliceT t w v xs → SliceT t w' v xs)
    (hcell : ∀ i, i < 13 → w'.cell? ⟨rb, off + i, none⟩ = w.cell? ⟨rb, off + i, none⟩) : RepAt w' rb off known most' := by
  obtain ⟨⟨kv, a0, b0⟩, a1, a7, ⟨m9, a9, b9⟩, ⟨kp, kl, a10, b10, d10⟩, ⟨m12, a12, b12⟩, hz⟩ := h
  exact ⟨⟨kv, (hcell 0 (by omega)).trans a0, hS _ _ _ (Or.inl rfl) b0⟩, (hcell 1 (by omega)).trans a1, (hcell 7 (by omega)).trans a7, ⟨m9, (hcell 9 (by omega)).trans a9, by omega⟩, ⟨kp, kl, (hcell 10 (by omega)).trans a10, hS _ _ _ (Or.inr rfl) b10, d10⟩, ⟨m12, (hcell 12 (by omega)).trans a12, by omega⟩, hz.of (fun i hi => hcell i (by omega))⟩

theorem RefAt.upd {w w' : World} {c rb : Nat} {evv fv : Value} {av : Nat → Value} {room : Nat} {es : List Ev} {acc most : Nat} {knowns : List (List Bool)} (h : RefAt w c rb evv fv av room es acc most knowns) (hc : Chg (· = rb) w w') (ht : Tagged w' rb 147)
    (hmost : most + 1 ≤ 1000) (k : Nat) (hk : k < knowns.length) (more : List Bool) (hml : more.length ≤ es.length) (hrep : RepAt w' rb (k * 13) more (most + 1))
    (hoth : ∀ j, j ≠ k → ∀ i, i < 13 → w'.cell? ⟨rb, j * 13 + i, none⟩ = w.cell? ⟨rb, j * 13 + i, none⟩) (h11 : w'.cell? ⟨rb, k * 13 + 11, none⟩ = w.cell? ⟨rb, k * 13 + 11, none⟩) : RefAt w' c rb evv fv av room es acc (most + 1) (knowns.set k more) := by
  have hne : c ≠ rb := h.tc.ne h.trb (by decide)
  have hcc : ∀ i, w'.cell? ⟨c, i, none⟩ = w.cell? ⟨c, i, none⟩ := fun i => World.cell?_of_block (w := w) (hc.block c h.tc.lt hne)
  have hS : ∀ t v xs, (t = 4 ∨ t = 3) → SliceT t w v xs → SliceT t w' v xs := fun t v xs ht hs => hs.chgT hc h.trb (by rcases ht with rfl | rfl <;> decide)
  obtain ⟨cap, f1, hcap⟩ := h.f1
  obtain ⟨svs, e1, e2, e3⟩ := h.evs
  refine ⟨h.tc.chg hc hne, ht, h.room50, by simpa using h.n6, h.n500, (hcc 0).trans h.f0, ⟨cap, by rw [hcc 1, f1]; simp, by simpa using hcap⟩, (hcc 2).trans h.f2, (hcc 3).trans h.f3, h.a500, hmost, ⟨svs, e1, ?_, fun j h1 h2 => hS _ _ _ (Or.inl rfl) (e3 j h1 h2)⟩, h.ok, ?_, ?_, (hcc 4).trans h.f4, fun i hi => ?_⟩
  · refine ownsRow_chg e2 hc ?_
    intro g hg e
    obtain ⟨hx, h1 | ⟨g', cap', cur, rfl, _, hh, _⟩⟩ := e2
    · rw [h1.1] at hg; cases hg
    · cases hg; exact (Tagged.ne ⟨cur, hh⟩ h.trb (by decide)) e
  · intro i hi
    simp only [List.length_set] at hi
    by_cases e : i = k
    · subst e; rw [List.getElem_set_self]; exact hrep
    · rw [List.getElem_set_ne (fun h => e h.symm)]
      exact (h.reps i hi).keep (by omega) hS (fun j hj => hoth i e j hj)
  · intro x hx
    rcases List.mem_or_eq_of_mem_set hx with h1 | h1
    · exact h.kn x h1
    · rw [h1]; exact hml
  · have hi' : i < knowns.length := by simpa using hi
    by_cases e : i = k
    · subst e; exact h11.trans (h.a11 i hi')
    · exact (hoth i e 11 (by omega)).trans (h.a11 i hi')

theorem Tagged.drewN {w : World} {b : Nat} {t : TypeId} (h : Tagged w b t) (n : Nat) : Tagged (w.drewN n) b t := h
theorem Chg.drewN {M : Nat → Prop} {a w : World} (h : Chg M a w) (n : Nat) : Chg M a (w.drewN n) := h.below (below_drewN (Below.refl _ _) n)

theorem own_some {w : World} {B : Nat} {e : TypeId} {v : Value} {n size : Nat} {xs : List Value} (h : w.ownsRow B e size v n xs) (hn : 0 < n) : ∃ g cap, v = .slice (some ⟨g, 0, none⟩) n cap := by
  obtain ⟨_, h1 | ⟨g, cap, cur, h2, _⟩⟩ := h
  · omega
  · exact ⟨g, cap, h2⟩

theorem RepAt.keepI {w w' : World} {rb off : Nat} {known : List Bool} {most most' : Nat} (h : RepAt w rb off known most) (hm : most ≤ most') (hS : ∀ v xs, SliceT 4 w v xs → SliceT 4 w' v xs) (hI : IntsKept w w')
    (hcell : ∀ i, i < 13 → w'.cell? ⟨rb, off + i, none⟩ = w.cell? ⟨rb, off + i, none⟩) : RepAt w' rb off known most' := by
  obtain ⟨⟨kv, a0, b0⟩, a1, a7, ⟨m9, a9, b9⟩, ⟨kp, kl, a10, b10, d10⟩, ⟨m12, a12, b12⟩, hz⟩ := h
  obtain ⟨kl', hl', b10'⟩ := b10.numbers hI
  exact ⟨⟨kv, (hcell 0 (by omega)).trans a0, hS _ _ b0⟩, (hcell 1 (by omega)).trans a1, (hcell 7 (by omega)).trans a7, ⟨m9, (hcell 9 (by omega)).trans a9, by omega⟩, ⟨kp, kl', (hcell 10 (by omega)).trans a10, b10', by omega⟩, ⟨m12, (hcell 12 (by omega)).trans a12, by omega⟩, hz.of (fun i hi => hcell i (by omega))⟩
theorem RefAt.chg {M : Nat → Prop} {w w' : World} {c rb : Nat} {evv fv : Value} {av : Nat → Value} {room : Nat} {es : List Ev} {acc most : Nat} {knowns : List (List Bool)} (h : RefAt w c rb evv fv av room es acc most knowns) (hc : Chg M w w')
    (h1 : ¬ M c) (h2 : ¬ M rb) (h3 : ∀ g, evv.ownBlock = some g → ¬ M g) (h4 : ∀ b, Tagged w b 4 → ¬ M b) (h5 : IntsKept w w') : RefAt w' c rb evv fv av room es acc most knowns := by
  have hcc : ∀ o, w'.cell? ⟨c, o, none⟩ = w.cell? ⟨c, o, none⟩ := fun o => World.cell?_of_block (w := w) (hc.block c h.tc.lt h1)
  have hrr : ∀ o, w'.cell? ⟨rb, o, none⟩ = w.cell? ⟨rb, o, none⟩ := fun o => World.cell?_of_block (w := w) (hc.block rb h.trb.lt h2)
  obtain ⟨cap, f1, hcap⟩ := h.f1
  obtain ⟨svs, e1, e2, e3⟩ := h.evs
  exact ⟨h.tc.chg hc h1, h.trb.chg hc h2, h.room50, h.n6, h.n500, (hcc 0).trans h.f0, ⟨cap, (hcc 1).trans f1, hcap⟩, (hcc 2).trans h.f2, (hcc 3).trans h.f3, h.a500, h.m500, ⟨svs, e1, ownsRow_chg e2 hc h3, fun j a b => (e3 j a b).chg hc h4⟩, h.ok, fun i hi => (h.reps i hi).keepI (Nat.le_refl _) (fun v xs hs => hs.chg hc h4) h5 (fun j _ => hrr _), h.kn, (hcc 4).trans h.f4, fun i hi => (hrr _).trans (h.a11 i hi)⟩

theorem RefAt.evLt {w : World} {c rb : Nat} {evv fv : Value} {av : Nat → Value} {room : Nat} {es : List Ev} {acc most : Nat} {knowns : List (List Bool)} (h : RefAt w c rb evv fv av room es acc most knowns) : ∀ g, evv.ownBlock = some g → g < w.heap.size ∧ Tagged w g 207 := by
  intro g hg
  obtain ⟨svs, e1, e2, e3⟩ := h.evs
  refine ⟨(e2.lt g hg).2, ?_⟩
  obtain ⟨_, h1 | ⟨g', cap, cur, rfl, _, hh, _⟩⟩ := e2
  · rw [h1.1] at hg; cases hg
  · cases hg; exact ⟨cur, hh⟩

theorem RefAt.more {w w6 : World} {c rb : Nat} {evv evv' fv : Value} {av : Nat → Value} {room : Nat} {es : List Ev} {acc most : Nat} {knowns : List (List Bool)} (h : RefAt w c rb evv fv av room es acc most knowns) (hc : Chg (fun x => evv.ownBlock = some x) w w6)
    (e : Ev) (hok : EvOk e) (sv : Value) (hsv : SliceT 4 w sv (bools e.saw)) (svs : List Value) (hsl : svs.length = es.length) (hsvs : ∀ j (h : j < svs.length) (h' : j < es.length), SliceT 4 w svs[j] (bools es[j].saw)) (hn : es.length + 1 ≤ 500)
    (hown : w6.ownsRow 0 207 5 evv' (es.length + 1) (evCells es svs ++ [.string e.p, .int .u8 (e.a.toNat : Int), .string e.v, .int .i64 e.n, sv])) : RefAt (w6.setCell ⟨c, 2, none⟩ evv') c rb evv' fv av room (es ++ [e]) acc most knowns := by
  have hm : ∀ t b, t ≠ 207 → Tagged w b t → ¬ evv.ownBlock = some b := fun t b ht hb he => hb.ne (h.evLt b he).2 ht rfl
  have hc1 := hm _ c (by decide) h.tc
  have hc2 := hm _ rb (by decide) h.trb
  have hS : ∀ t v xs, (t = 4 ∨ t = 3) → SliceT t w v xs → SliceT t w6 v xs := fun t v xs ht hs => hs.chg hc (fun b hb => hm t b (by rcases ht with rfl | rfl <;> decide) hb)
  have t6 : Tagged w6 c 152 := h.tc.chg hc hc1
  have tr6 : Tagged w6 rb 147 := h.trb.chg hc hc2
  have hS7 : ∀ t v xs, (t = 4 ∨ t = 3) → SliceT t w v xs → SliceT t (w6.setCell ⟨c, 2, none⟩ evv') v xs := fun t v xs ht hs => (hS t v xs ht hs).chgT (b := c) ((Chg.refl (fun x => x = c) w6).setCell (p := ⟨c, 2, none⟩) rfl _) t6 (by rcases ht with rfl | rfl <;> decide)
  have hcc : ∀ o, w6.cell? ⟨c, o, none⟩ = w.cell? ⟨c, o, none⟩ := fun o => World.cell?_of_block (w := w) (hc.block c h.tc.lt hc1)
  have hrr : ∀ o, w6.cell? ⟨rb, o, none⟩ = w.cell? ⟨rb, o, none⟩ := fun o => World.cell?_of_block (w := w) (hc.block rb h.trb.lt hc2)
  have hne : c ≠ rb := h.tc.ne h.trb (by decide)
  obtain ⟨cap, f1, hcap⟩ := h.f1
  refine ⟨t6.setCell _ _, tr6.setCell _ _, h.room50, h.n6, by simpa using hn, (cs_oth (Or.inr (by omega))).trans ((hcc 0).trans h.f0), ⟨cap, (cs_oth (Or.inr (by omega))).trans ((hcc 1).trans f1), hcap⟩, cs_same ((hcc 2).trans h.f2), (cs_oth (Or.inr (by omega))).trans ((hcc 3).trans h.f3), h.a500, h.m500,
    ⟨svs ++ [sv], by simp [hsl], ?_, ?_⟩, ?_, fun i hi => (h.reps i hi).keep (Nat.le_refl _) hS7 (fun j _ => (cs_oth (Or.inl hne)).trans (hrr _)), fun k hk => by have := h.kn k hk; simp; omega, (cs_oth (Or.inr (by omega))).trans ((hcc 4).trans h.f4), fun i hi => (cs_oth (Or.inl hne)).trans ((hrr _).trans (h.a11 i hi))⟩
  · rw [evCells_snoc es svs hsl, List.length_append]
    refine ownsRow_chg (M := fun x => x = c) hown ((Chg.refl (fun x => x = c) w6).setCell (p := ⟨c, 2, none⟩) rfl _) ?_
    intro g hg e'
    obtain ⟨_, h1 | ⟨g', cap', cur, rfl, _, hh, _⟩⟩ := hown
    · rw [h1.1] at hg; cases hg
    · cases hg; exact (Tagged.ne ⟨cur, hh⟩ t6 (by decide)) e'
  · intro j h1 h2
    by_cases hj : j < es.length
    · have e1 : (svs ++ [sv])[j] = svs[j]'(by omega) := List.getElem_append_left (by omega)
      have e2 : (es ++ [e])[j] = es[j] := List.getElem_append_left hj
      rw [e1, e2]; exact hS7 _ _ _ (Or.inl rfl) (hsvs j (by omega) hj)
    · have hje : j = es.length := by simp at h2; omega
      have e1 : (svs ++ [sv])[j] = sv := by rw [List.getElem_append_right (by omega)]; simp
      have e2 : (es ++ [e])[j] = e := by rw [List.getElem_append_right (by omega)]; simp
      rw [e1, e2]; exact hS7 _ _ _ (Or.inl rfl) hsv
  · intro x hx
    rcases List.mem_append.1 hx with h1 | h1
    · exact h.ok x h1
    · simp at h1; rw [h1]; exact hok

theorem Chg.trans' {M N : Nat → Prop} {a b c : World} (h : Chg M a b) (k : Chg N b c) (hN : ∀ x, x < a.heap.size → N x → M x) : Chg M a c :=
  ⟨k.os.trans h.os, k.tape.trans h.tape, k.output.trans h.output, Nat.le_trans h.size k.size, fun i hi hm => (k.block i (Nat.lt_of_lt_of_le hi h.size) (fun hn => hm (hN i hi hn))).trans (h.block i hi hm)⟩
end Go.Proofs.YtoiiaankpnhppaaGreatDoor

