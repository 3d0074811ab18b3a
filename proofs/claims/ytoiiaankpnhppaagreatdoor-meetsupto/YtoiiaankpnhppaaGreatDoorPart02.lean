import Derived.Handy
import Derived.Deep.DeepCutAuto
import Derived.Deep.RegionWith
import Derived.Deep.RegionLawGrows
import Derived.Laws.AppendOwnNone
import Derived.WalkKit
import Derived.Test.YtoiiaankpnhppaaGreatDoorPart01
set_option linter.unusedVariables false
set_option linter.unusedSimpArgs false
namespace Go.Proofs.YtoiiaankpnhppaaGreatDoor
open Go.RowKit

structure Chg (M : Nat → Prop) (w w' : World) : Prop where
  os : w'.os = w.os
  tape : w'.tape = w.tape
  output : w'.output = w.output
  size : w.heap.size ≤ w'.heap.size
  block : ∀ k, k < w.heap.size → ¬ M k → w'.heap[k]? = w.heap[k]?

theorem Chg.refl (M : Nat → Prop) (w : World) : Chg M w w := ⟨rfl, rfl, rfl, Nat.le_refl _, fun _ _ _ => rfl⟩
theorem Chg.trans {M : Nat → Prop} {a b c : World} (h : Chg M a b) (k : Chg M b c) : Chg M a c :=
  ⟨k.os.trans h.os, k.tape.trans h.tape, k.output.trans h.output, Nat.le_trans h.size k.size, fun i hi hm => (k.block i (Nat.lt_of_lt_of_le hi h.size) hm).trans (h.block i hi hm)⟩
theorem Chg.mono {M N : Nat → Prop} {a b : World} (h : Chg M a b) (hN : ∀ k, k < a.heap.size → M k → N k) : Chg N a b := ⟨h.os, h.tape, h.output, h.size, fun k hk hn => h.block k hk fun hm => hn (hN k hk hm)⟩
theorem Chg.of_below {M : Nat → Prop} {a b : World} (h : Below a.heap.size a b) : Chg M a b := ⟨h.os, h.tape, h.output, h.size, fun k hk _ => h.block k hk⟩
theorem Chg.setCell {M : Nat → Prop} {a w : World} (h : Chg M a w) {p : Addr} (hp : M p.block) (u : Value) : Chg M a (w.setCell p u) :=
  ⟨h.os, h.tape, h.output, by simpa [World.setCell] using h.size, fun k hk hm => (Below.heap_setCell w p u k (fun e => hm (by rw [e]; exact hp))).trans (h.block k hk hm)⟩
theorem Chg.below {M : Nat → Prop} {a b c : World} (h : Chg M a b) (hb : Below b.heap.size b c) : Chg M a c := h.trans (Chg.of_below hb)
theorem Chg.grown {M : Nat → Prop} {a b c : World} {row : Option Nat} (h : Chg M a b) (hg : b.grownBy c row) (hr : ∀ k, row = some k → M k ∨ a.heap.size ≤ k) : Chg M a c :=
  ⟨hg.os.trans h.os, hg.tape.trans h.tape, hg.output.trans h.output, Nat.le_trans h.size hg.size, fun k hk hm => (hg.block k (Nat.lt_of_lt_of_le hk h.size) (fun e => by rcases hr k e.symm with h1 | h1; exact hm h1; omega)).trans (h.block k hk hm)⟩

def Tagged (w : World) (b : Nat) (t : TypeId) : Prop := ∃ cur, w.heap[b]? = some (.cells cur t (0, 0))
theorem Tagged.lt {w : World} {b : Nat} {t : TypeId} (h : Tagged w b t) : b < w.heap.size := by
  obtain ⟨cur, h⟩ := h
  rcases Nat.lt_or_ge b w.heap.size with h1 | h1
  · exact h1
  · rw [Array.getElem?_eq_none h1] at h; cases h
theorem Tagged.ne {w : World} {b c : Nat} {s t : TypeId} (h : Tagged w b s) (k : Tagged w c t) (hst : s ≠ t) : b ≠ c := by
  rintro rfl
  obtain ⟨x, h⟩ := h; obtain ⟨y, k⟩ := k
  rw [h] at k; cases k; exact hst rfl
theorem Tagged.chg {M : Nat → Prop} {w w' : World} {b : Nat} {t : TypeId} (h : Tagged w b t) (hc : Chg M w w') (hm : ¬ M b) : Tagged w' b t := by
  obtain ⟨x, hx⟩ := h; exact ⟨x, (hc.block b (Tagged.lt ⟨x, hx⟩) hm).trans hx⟩
theorem Tagged.frozen {w : World} {b : Nat} {t : TypeId} (h : Tagged w b t) (j : Nat) : w.frozen? ⟨b, j, none⟩ = false := by
  obtain ⟨x, hx⟩ := h; simp [World.frozen?, hx]
theorem Tagged.setCell {w : World} {b : Nat} {t : TypeId} (h : Tagged w b t) (p : Addr) (u : Value) : Tagged (w.setCell p u) b t := by
  obtain ⟨x, hx⟩ := h
  by_cases e : b = p.block
  · subst e; simp only [Tagged, World.setCell, Array.getElem?_modify, hx]; simp
  · exact ⟨x, by rw [Below.heap_setCell _ _ _ _ e]; exact hx⟩
theorem Tagged.below {w w' : World} {b : Nat} {t : TypeId} (h : Tagged w b t) (hb : Below w.heap.size w w') : Tagged w' b t := by
  obtain ⟨x, hx⟩ := h; exact ⟨x, (hb.block b (Tagged.lt ⟨x, hx⟩)).trans hx⟩

def SliceT (t : TypeId) (w : World) (v : Value) (xs : List Value) : Prop :=
  (v = .slice none 0 0 ∧ xs = []) ∨
    ∃ b off cap, v = .slice (some ⟨b, off, none⟩) xs.length cap ∧ xs.length ≤ cap ∧ Tagged w b t ∧ ∀ j (h : j < xs.length), w.cell? ⟨b, off + j, none⟩ = some xs[j]
theorem SliceT.toIn {t : TypeId} {w : World} {v : Value} {xs : List Value} (h : SliceT t w v xs) : SliceIn w.heap.size w v xs := by
  rcases h with h | ⟨b, off, cap, h1, h2, h3, h4⟩
  · exact Or.inl h
  · exact Or.inr ⟨b, off, cap, h1, h2, h3.lt, h4⟩
theorem SliceT.chg {M : Nat → Prop} {t : TypeId} {w w' : World} {v : Value} {xs : List Value} (h : SliceT t w v xs) (hc : Chg M w w') (hm : ∀ b, Tagged w b t → ¬ M b) : SliceT t w' v xs := by
  rcases h with h | ⟨b, off, cap, h1, h2, h3, h4⟩
  · exact Or.inl h
  · exact Or.inr ⟨b, off, cap, h1, h2, h3.chg hc (hm b h3), fun j hj => (World.cell?_of_block (w := w) (hc.block b h3.lt (hm b h3))).trans (h4 j hj)⟩
theorem SliceT.shape {t : TypeId} {w : World} {v : Value} {xs : List Value} (h : SliceT t w v xs) : ∃ ao cap, v = .slice ao xs.length cap ∧ xs.length ≤ cap := by
  rcases h with ⟨rfl, rfl⟩ | ⟨b, off, cap, h1, h2, h3, h4⟩
  · exact ⟨none, 0, rfl, Nat.le_refl _⟩
  · exact ⟨_, cap, h1, h2⟩
theorem own_sliceT {w : World} {B : Nat} {e : TypeId} {v : Value} {n : Nat} {xs : List Value} (h : w.ownsRow B e 1 v n xs) : SliceT e w v xs := by
  have h0 := h
  obtain ⟨hl, h | ⟨g, cap, cur, rfl, hg, hh, hc, hm, hs, hx⟩⟩ := h
  · exact Or.inl ⟨h.1, List.eq_nil_of_length_eq_zero (by rw [hl, h.2])⟩
  · refine Or.inr ⟨g, 0, cap, by rw [hl, Nat.mul_one], by omega, ⟨cur, hh⟩, fun j hj => ?_⟩
    rw [Nat.zero_add, h0.cellAt j (by omega), List.getElem?_eq_getElem hj]

theorem cs_same {w : World} {b o : Nat} {v u : Value} (h : w.cell? ⟨b, o, none⟩ = some u) : (w.setCell ⟨b, o, none⟩ v).cell? ⟨b, o, none⟩ = some v := by
  apply World.cell?_setCell_same'; rw [h]; rfl
theorem cs_oth {w : World} {b o b' o' : Nat} {v : Value} (h : b ≠ b' ∨ o ≠ o') : (w.setCell ⟨b, o, none⟩ v).cell? ⟨b', o', none⟩ = w.cell? ⟨b', o', none⟩ := by
  apply World.cell?_setCell_other; intro e; cases e; rcases h with h | h <;> exact h rfl
theorem ownsRow_chg {M : Nat → Prop} {w w' : World} {B : Nat} {e : TypeId} {v : Value} {n size : Nat} {xs : List Value} (h : w.ownsRow B e size v n xs) (hc : Chg M w w') (hm : ∀ g, v.ownBlock = some g → ¬ M g) : w'.ownsRow B e size v n xs := by
  have h0 := h
  obtain ⟨hx, h1 | ⟨g, cap, cur, rfl, hg, hh, r⟩⟩ := h
  · exact ⟨hx, Or.inl h1⟩
  · exact ⟨hx, Or.inr ⟨g, cap, cur, rfl, hg, (hc.block g (h0.lt g rfl).2 (hm g rfl)).trans hh, r⟩⟩

def evCells (es : List Ev) (svs : List Value) : List Value := (es.zip svs).flatMap fun (e, sv) => [.string e.p, .int .u8 (e.a.toNat : Int), .string e.v, .int .i64 e.n, sv]
def ints (l : List Int) : List Value := l.map (Value.int .i64)

structure RepZ (w : World) (rb off : Nat) : Prop where
  c2 : w.cell? ⟨rb, off + 2, none⟩ = some (.slice none 0 0)
  c3 : w.cell? ⟨rb, off + 3, none⟩ = some (.slice none 0 0)
  c4 : w.cell? ⟨rb, off + 4, none⟩ = some (.bool false)
  c5 : w.cell? ⟨rb, off + 5, none⟩ = some (.int .i64 0)
  c6 : w.cell? ⟨rb, off + 6, none⟩ = some (.int .i64 0)
  c8 : w.cell? ⟨rb, off + 8, none⟩ = some (.int .i64 0)
theorem RepZ.of {w w' : World} {rb off : Nat} (h : RepZ w rb off) (hc : ∀ i, i = 2 ∨ i = 3 ∨ i = 4 ∨ i = 5 ∨ i = 6 ∨ i = 8 → w'.cell? ⟨rb, off + i, none⟩ = w.cell? ⟨rb, off + i, none⟩) : RepZ w' rb off :=
  ⟨(hc 2 (by simp)).trans h.c2, (hc 3 (by simp)).trans h.c3, (hc 4 (by simp)).trans h.c4, (hc 5 (by simp)).trans h.c5, (hc 6 (by simp)).trans h.c6, (hc 8 (by simp)).trans h.c8⟩
structure RepAt (w : World) (rb off : Nat) (known : List Bool) (most : Nat) : Prop where
  c0 : ∃ kv, w.cell? ⟨rb, off, none⟩ = some kv ∧ SliceT 4 w kv (bools known)
  c1 : w.cell? ⟨rb, off + 1, none⟩ = some (.bool false)
  c7 : w.cell? ⟨rb, off + 7, none⟩ = some (.bool false)
  c9 : ∃ m : Nat, w.cell? ⟨rb, off + 9, none⟩ = some (.int .i64 (m : Int)) ∧ m ≤ most
  c10 : ∃ kp kl, w.cell? ⟨rb, off + 10, none⟩ = some kp ∧ SliceT 3 w kp (ints kl) ∧ kl.length ≤ 50
  c12 : ∃ m : Nat, w.cell? ⟨rb, off + 12, none⟩ = some (.int .i64 (m : Int)) ∧ m ≤ most
  z : RepZ w rb off

structure RefAt (w : World) (c rb : Nat) (evv fv : Value) (av : Nat → Value) (room : Nat) (es : List Ev) (acc most : Nat) (knowns : List (List Bool)) : Prop where
  tc : Tagged w c 152
  trb : Tagged w rb 147
  room50 : room ≤ 50
  n6 : knowns.length ≤ 6
  n500 : es.length ≤ 500
  f0 : w.cell? ⟨c, 0, none⟩ = some (.int .i64 (room : Int))
  f1 : ∃ cap, w.cell? ⟨c, 1, none⟩ = some (.slice (some ⟨rb, 0, none⟩) knowns.length cap) ∧ knowns.length ≤ cap
  f2 : w.cell? ⟨c, 2, none⟩ = some evv
  f3 : w.cell? ⟨c, 3, none⟩ = some (.int .i64 (acc : Int))
  a500 : acc ≤ 500
  m500 : most ≤ 1000
  evs : ∃ svs : List Value, svs.length = es.length ∧ w.ownsRow 0 207 5 evv es.length (evCells es svs) ∧ ∀ j (h : j < svs.length) (h' : j < es.length), SliceT 4 w svs[j] (bools es[j].saw)
  ok : ∀ e ∈ es, EvOk e
  reps : ∀ i (h : i < knowns.length), RepAt w rb (i * 13) knowns[i] most
  kn : ∀ k ∈ knowns, k.length ≤ es.length
  f4 : w.cell? ⟨c, 4, none⟩ = some fv
  a11 : ∀ i, i < knowns.length → w.cell? ⟨rb, i * 13 + 11, none⟩ = some (av i)

def IntsKept (w w' : World) : Prop := ∀ (b : Nat) (cur : Array Value), w.heap[b]? = some (.cells cur 3 (0, 0)) → ∃ cur' : Array Value, w'.heap[b]? = some (.cells cur' 3 (0, 0)) ∧ ∀ (j : Nat) (m : Int), cur[j]? = some (.int .i64 m) → ∃ m' : Int, cur'[j]? = some (.int .i64 m')
theorem IntsKept.of_chg {M : Nat → Prop} {w w' : World} (hc : Chg M w w') (h : ∀ b, Tagged w b 3 → ¬ M b) : IntsKept w w' := fun b cur hb => ⟨cur, (hc.block b (Tagged.lt ⟨cur, hb⟩) (h b ⟨cur, hb⟩)).trans hb, fun j m hm => ⟨m, hm⟩⟩
theorem IntsKept.of_below {w w' : World} (hb : Below w.heap.size w w') : IntsKept w w' := IntsKept.of_chg (M := fun _ => False) (Chg.of_below hb) (fun _ _ h => h)
theorem IntsKept.trans {a b c : World} (h : IntsKept a b) (k : IntsKept b c) : IntsKept a c := fun x cur hx => by
  obtain ⟨cur', h1, h2⟩ := h x cur hx
  obtain ⟨cur'', h3, h4⟩ := k x cur' h1
  exact ⟨cur'', h3, fun j m hm => by obtain ⟨m', hm'⟩ := h2 j m hm; exact h4 j m' hm'⟩
theorem IntsKept.set (w : World) (b o : Nat) (m : Int) : IntsKept w (w.setCell ⟨b, o, none⟩ (.int .i64 m)) := fun x cur hx => by
  by_cases e : x = b
  · subst e
    refine ⟨cur.setIfInBounds o (.int .i64 m), ?_, fun j k hk => ?_⟩
    · simp [World.setCell, Array.getElem?_modify, hx]
    · rw [Array.getElem?_setIfInBounds]
      split
      · rename_i e2
        subst e2
        have : o < cur.size := by
          rcases Nat.lt_or_ge o cur.size with h | h
          · exact h
          · rw [Array.getElem?_eq_none h] at hk; cases hk
        rw [if_pos this]; exact ⟨m, rfl⟩
      · exact ⟨k, hk⟩
  · exact ⟨cur, (Below.heap_setCell _ _ _ _ e).trans hx, fun j k hk => ⟨k, hk⟩⟩
theorem SliceT.numbers {w w' : World} {v : Value} {kl : List Int} (h : SliceT 3 w v (ints kl)) (hk : IntsKept w w') : ∃ kl' : List Int, kl'.length = kl.length ∧ SliceT 3 w' v (ints kl') := by
  rcases h with ⟨h1, h2⟩ | ⟨b, off, cap, h1, h2, ⟨cur, h3⟩, h4⟩
  · exact ⟨kl, rfl, Or.inl ⟨h1, h2⟩⟩
  · obtain ⟨cur', h5, h6⟩ := hk b cur h3
    have hl : (ints kl).length = kl.length := by simp [ints]
    have hc : ∀ j, j < kl.length → ∃ m, w'.cell? ⟨b, off + j, none⟩ = some (.int .i64 m) := fun j hj => by
      have := h4 j (by omega)
      simp only [World.cell?, h3] at this
      have e : (ints kl)[j]'(by omega) = .int .i64 kl[j] := by simp [ints]
      rw [e] at this
      obtain ⟨m, hm⟩ := h6 _ _ this
      exact ⟨m, by simp only [World.cell?, h5]; exact hm⟩
    refine ⟨(List.range kl.length).map (fun j => if h : j < kl.length then (hc j h).choose else 0), by simp, Or.inr ⟨b, off, cap, ?_, ?_, ⟨cur', h5⟩, fun j hj => ?_⟩⟩
    · rw [h1, hl]; simp [ints]
    · rw [hl] at h2; simpa [ints] using h2
    · have hj' : j < kl.length := by simpa [ints] using hj
      rw [(hc j hj').choose_spec]
      simp [ints, hj']
theorem SliceT.below {t : TypeId} {w w' : World} {v : Value} {xs : List Value} (h : SliceT t w v xs) (hb : Below w.heap.size w w') : SliceT t w' v xs := h.chg (M := fun _ => False) (Chg.of_below hb) (fun _ _ h => h)
theorem RepAt.below {w w' : World} {rb off : Nat} {known : List Bool} {most : Nat} (h : RepAt w rb off known most) (hb : Below w.heap.size w w') (hr : rb < w.heap.size) : RepAt w' rb off known most := by
  obtain ⟨⟨kv, a0, b0⟩, a1, a7, ⟨m9, a9, b9⟩, ⟨kp, kl, a10, b10, d10⟩, ⟨m12, a12, b12⟩, hz⟩ := h
  have hc : ∀ o, w'.cell? ⟨rb, o, none⟩ = w.cell? ⟨rb, o, none⟩ := fun o => hb.cell (p := ⟨rb, o, none⟩) hr
  exact ⟨⟨kv, (hc _).trans a0, b0.below hb⟩, (hc _).trans a1, (hc _).trans a7, ⟨m9, (hc _).trans a9, b9⟩, ⟨kp, kl, (hc _).trans a10, b10.below hb, d10⟩, ⟨m12, (hc _).trans a12, b12⟩, hz.of (fun i _ => hc _)⟩
theorem RefAt.below {w w' : World} {c rb : Nat} {evv fv : Value} {av : Nat → Value} {room : Nat} {es : List Ev} {acc most : Nat} {knowns : List (List Bool)} (h : RefAt w c rb evv fv av room es acc most knowns) (hb : Below w.heap.size w w') : RefAt w' c rb evv fv av room es acc most knowns := by
  have hc : ∀ o, w'.cell? ⟨c, o, none⟩ = w.cell? ⟨c, o, none⟩ := fun o => hb.cell (p := ⟨c, o, none⟩) h.tc.lt
  obtain ⟨cap, f1, hcap⟩ := h.f1
  obtain ⟨svs, e1, e2, e3⟩ := h.evs
  exact ⟨h.tc.below hb, h.trb.below hb, h.room50, h.n6, h.n500, (hc 0).trans h.f0, ⟨cap, (hc 1).trans f1, hcap⟩, (hc 2).trans h.f2, (hc 3).trans h.f3, h.a500, h.m500, ⟨svs, e1, own_below e2 hb, fun j h1 h2 => (e3 j h1 h2).below hb⟩, h.ok, fun i hi => (h.reps i hi).below hb h.trb.lt, h.kn, (hc 4).trans h.f4, fun i hi => (hb.cell (p := ⟨rb, i * 13 + 11, none⟩) h.trb.lt).trans (h.a11 i hi)⟩

set_option maxHeartbeats 400000 in
theorem Up_any (w : World) (c rb : Nat) (evv fv : Value) (av : Nat → Value) (room : Nat) (es : List Ev) (acc most : Nat) (knowns : List (List Bool)) (h : RefAt w c rb evv fv av room es acc most knowns) (i : Int) :
    Calls Tryz.prog 83 #[.pointer (some ⟨c, 0, none⟩), .int .i64 i] w fun e w' => e = .returned (.int .i64 (if 0 ≤ i ∧ i < knowns.length then 0 else 2)) ∧ w' = w := by
  obtain ⟨cap, f1, hcap⟩ := h.f1
  have h6 := h.n6
  by_cases h0 : i < 0
  · rw [if_neg (by omega)]
    go_enter Tryz.func83, Tryz.ntmps83
    go_wp2
    go_ret
    exact ⟨rfl, rfl⟩
  · obtain ⟨k, rfl⟩ := Int.eq_ofNat_of_zero_le (show 0 ≤ i by omega)
    by_cases h1 : k < knowns.length
    · have hd := (h.reps k h1).c1
      rw [if_pos (by omega)]
      go_enter Tryz.func83, Tryz.ntmps83
      go_wp2
      go_ret
      exact ⟨rfl, rfl⟩
    · rw [if_neg (by omega)]
      go_enter Tryz.func83, Tryz.ntmps83
      go_wp2
      go_ret
      exact ⟨rfl, rfl⟩


theorem toL_get (t : ByteArray) (k : Nat) (h : k < t.size) : (toL t)[k]'(by rw [toL_length]; exact h) = t[k] := byte_at t k h

def NumEnd (neg : Bool) (t : ByteArray) (e : Ending) : Prop := ∃ m : Int, e = .returned (.tuple #[.int .i64 m, .bool (Thk.numAbs neg (toL t)).isSome]) ∧ ∀ x, Thk.numAbs neg (toL t) = some x → m = x

theorem numBad_iff (neg : Bool) (t : ByteArray) : Thk.numBad neg (toL t) = true ↔ (t.size < 1 ∨ 10 < t.size ∨ (∃ h : 0 < t.size, (t[0].toNat : Int) = 48 ∧ (1 < t.size ∨ neg = true))) := by
  unfold Thk.numBad
  by_cases h : 0 < t.size
  · rw [head_toL t h, toL_length]
    simp only [Bool.or_eq_true, Bool.and_eq_true, decide_eq_true_eq, beq_iff_eq, Option.some.injEq]
    have e : t[0] = 48 ↔ (t[0].toNat : Int) = 48 := by
      constructor
      · intro h; rw [h]; rfl
      · intro h; apply UInt8.toNat_inj.1; have : (48 : UInt8).toNat = 48 := rfl; omega
    rw [e]
    constructor
    · rintro ((a | b) | c)
      · exact Or.inl a
      · exact Or.inr (Or.inl b)
      · exact Or.inr (Or.inr ⟨h, c⟩)
    · rintro (a | b | ⟨_, c⟩)
      · exact Or.inl (Or.inl a)
      · exact Or.inl (Or.inr b)
      · exact Or.inr c
  · rw [toL_length]
    constructor
    · intro _; left; omega
    · intro _; have : decide (t.size < 1) = true := by rw [decide_eq_true_iff]; omega
      rw [this]; rfl

theorem num_bad {neg : Bool} {t : ByteArray} (h : Thk.numBad neg (toL t) = true) : Thk.numAbs neg (toL t) = none := by unfold Thk.numAbs; rw [h]; rfl
theorem num_not_dig {neg : Bool} {t : ByteArray} {k : Nat} (hk : k < t.size) (h : ¬ (48 ≤ (t[k].toNat : Int) ∧ (t[k].toNat : Int) ≤ 57)) : Thk.numAbs neg (toL t) = none := by
  have : (toL t).all Thk.isDig = false := by
    rw [List.all_eq_false]
    refine ⟨(toL t)[k]'(by rw [toL_length]; exact hk), List.getElem_mem _, ?_⟩
    rw [toL_get t k hk]
    unfold Thk.isDig; simp; omega
  unfold Thk.numAbs; rw [this]; simp
theorem num_end {neg : Bool} {t : ByteArray} (hb : Thk.numBad neg (toL t) = false) (hall : ((toL t).take t.size).all Thk.isDig = true) :
    Thk.numAbs neg (toL t) = if Thk.numv ((toL t).take t.size) ≤ 1000000000 then some (if neg then -(Thk.numv ((toL t).take t.size) : Int) else (Thk.numv ((toL t).take t.size) : Int)) else none := by
  have e : (toL t).take t.size = toL t := by rw [← toL_length t, List.take_length]
  rw [e] at hall ⊢
  unfold Thk.numAbs; rw [hb, hall]; simp

set_option maxHeartbeats 2000000 in
theorem number_pos (s : ByteArray) (w : World) (hs : s.size ≤ 1048576) (hne : Hid ((toL s).head? ≠ some 45)) :
    Calls Tryz.prog 198 #[.string s] w fun e w' => NumEnd false s e ∧ w' = w := by
  have h0 : ∀ h : 0 < s.size, ((s[0].toNat : Int) == 45) = false := by
    intro h; rw [beq_eq_false_iff_ne]; intro h2; apply hne.out; rw [head_toL s h]; congr 1; apply UInt8.toNat_inj.1; have : (45 : UInt8).toNat = 45 := rfl; omega
  cases hbad : Thk.numBad false (toL s)
  · have hnb := (not_congr (numBad_iff false s)).1 (by rw [hbad]; simp)
    have Hbad : Hid (Thk.numBad false (toL s) = false) := hbad
    clear hbad
    have h1 : 0 < s.size := by omega
    have h2 : s.size ≤ 10 := by omega
    have h3 : ((s[0].toNat : Int) == 45) = false := h0 h1
    have h4 : ¬ ((s[0].toNat : Int) = 48 ∧ 1 < s.size) := fun h => hnb (Or.inr (Or.inr ⟨h1, h.1, Or.inl h.2⟩))
    clear h0 hnb
    by_cases h5 : (s[0].toNat : Int) = 48
    · have h6 : ¬ 1 < s.size := fun h => h4 ⟨h5, h⟩
      have h5' : ((s[0].toNat : Int) == 48) = true := by rw [h5]; rfl
      clear h4 h5
      go_enter Tryz.func198, Tryz.ntmps198
      go_wp2
      go_loop [5, 6] (fun n i => ∃ k : Nat, k ≤ s.size ∧ i = .int .i64 k ∧ n = .int .i64 (Thk.numv ((toL s).take k) : Int) ∧ Hid (((toL s).take k).all Thk.isDig = true)) (fun _ i => s.size - (intOf i).toNat)
      case atStart => exact ⟨0, by omega, rfl, by simp [Thk.numv], by simp [Hid]⟩
      case round =>
        obtain ⟨k, hk, rfl, rfl, Hall⟩ := hrel
        have hlt10 : Thk.numv ((toL s).take k) < 10000000000 := by
          have h := Thk.numv_lt _ Hall.out
          have : ((toL s).take k).length ≤ 10 := by simp [toL_length]; omega
          exact Nat.lt_of_lt_of_le h (Nat.le_trans (Nat.pow_le_pow_right (by omega) this) (by decide))
        by_cases hlt : k < s.size
        · by_cases hdig : 48 ≤ (s[k].toNat : Int) ∧ (s[k].toNat : Int) ≤ 57
          · obtain ⟨ha, hb⟩ := hdig
            have hts : (toL s).take (k + 1) = (toL s).take k ++ [s[k]] := by
              rw [List.take_succ_eq_append_getElem (by rw [toL_length]; exact hlt), toL_get s k hlt]
            have Hn : Hid ((Thk.numv ((toL s).take (k + 1)) : Int) = 10 * (Thk.numv ((toL s).take k) : Int) + ((s[k].toNat : Int) - 48)) := by
              unfold Hid; rw [hts, Thk.numv_snoc]; unfold Thk.dgt; omega
            have Hall2 : Hid (((toL s).take (k + 1)).all Thk.isDig = true) := by
              unfold Hid; rw [hts, List.all_append, Hall.out]; unfold Thk.isDig; simp; omega
            clear hts Hall
            generalize Thk.numv ((toL s).take k) = m at *
            go_wp2
            all_goals
              go_round
              case rel => exact ⟨k + 1, by omega, by go_num, by rw [Hn.out], Hall2⟩
              case measure => simp [intOf]; omega
          · have hfin : Hid (Thk.numAbs false (toL s) = none) := num_not_dig hlt hdig
            rcases (show (s[k].toNat : Int) < 48 ∨ 57 < (s[k].toNat : Int) from by omega) with h | h
            all_goals clear hdig Hall
            all_goals
              go_wp2
              all_goals
                go_ret2
                exact ⟨⟨0, by rw [hfin.out]; rfl, by rw [hfin.out]; intro x h; cases h⟩, rfl⟩
        · have hkt : k = s.size := by omega
          subst hkt
          have hfin : Hid (_) := num_end (neg := false) Hbad.out Hall.out
          clear Hall
          generalize Thk.numv ((toL s).take s.size) = m at *
          go_wp2
          all_goals
            go_ret2
            refine ⟨⟨(m : Int), ?_, ?_⟩, rfl⟩
            · rw [hfin.out]
              by_cases hm : m ≤ 1000000000
              · simp [hm] <;> omega
              · simp [hm] <;> omega
            · rw [hfin.out]
              intro x h
              by_cases hm : m ≤ 1000000000
              · simp [hm] at h; omega
              · simp [hm] at h
    · have h5' : ((s[0].toNat : Int) == 48) = false := by simpa using h5
      clear h4 h5
      go_enter Tryz.func198, Tryz.ntmps198
      go_wp2
      go_loop [5, 6] (fun n i => ∃ k : Nat, k ≤ s.size ∧ i = .int .i64 k ∧ n = .int .i64 (Thk.numv ((toL s).take k) : Int) ∧ Hid (((toL s).take k).all Thk.isDig = true)) (fun _ i => s.size - (intOf i).toNat)
      case atStart => exact ⟨0, by omega, rfl, by simp [Thk.numv], by simp [Hid]⟩
      case round =>
        obtain ⟨k, hk, rfl, rfl, Hall⟩ := hrel
        have hlt10 : Thk.numv ((toL s).take k) < 10000000000 := by
          have h := Thk.numv_lt _ Hall.out
          have : ((toL s).take k).length ≤ 10 := by simp [toL_length]; omega
          exact Nat.lt_of_lt_of_le h (Nat.le_trans (Nat.pow_le_pow_right (by omega) this) (by decide))
        by_cases hlt : k < s.size
        · by_cases hdig : 48 ≤ (s[k].toNat : Int) ∧ (s[k].toNat : Int) ≤ 57
          · obtain ⟨ha, hb⟩ := hdig
            have hts : (toL s).take (k + 1) = (toL s).take k ++ [s[k]] := by
              rw [List.take_succ_eq_append_getElem (by rw [toL_length]; exact hlt), toL_get s k hlt]
            have Hn : Hid ((Thk.numv ((toL s).take (k + 1)) : Int) = 10 * (Thk.numv ((toL s).take k) : Int) + ((s[k].toNat : Int) - 48)) := by
              unfold Hid; rw [hts, Thk.numv_snoc]; unfold Thk.dgt; omega
            have Hall2 : Hid (((toL s).take (k + 1)).all Thk.isDig = true) := by
              unfold Hid; rw [hts, List.all_append, Hall.out]; unfold Thk.isDig; simp; omega
            clear hts Hall
            generalize Thk.numv ((toL s).take k) = m at *
            go_wp2
            all_goals
              go_round
              case rel => exact ⟨k + 1, by omega, by go_num, by rw [Hn.out], Hall2⟩
              case measure => simp [intOf]; omega
          · have hfin : Hid (Thk.numAbs false (toL s) = none) := num_not_dig hlt hdig
            rcases (show (s[k].toNat : Int) < 48 ∨ 57 < (s[k].toNat : Int) from by omega) with h | h
            all_goals clear hdig Hall
            all_goals
              go_wp2
              all_goals
                go_ret2
                exact ⟨⟨0, by rw [hfin.out]; rfl, by rw [hfin.out]; intro x h; cases h⟩, rfl⟩
        · have hkt : k = s.size := by omega
          subst hkt
          have hfin : Hid (_) := num_end (neg := false) Hbad.out Hall.out
          clear Hall
          generalize Thk.numv ((toL s).take s.size) = m at *
          go_wp2
          all_goals
            go_ret2
            refine ⟨⟨(m : Int), ?_, ?_⟩, rfl⟩
            · rw [hfin.out]
              by_cases hm : m ≤ 1000000000
              · simp [hm] <;> omega
              · simp [hm] <;> omega
            · rw [hfin.out]
              intro x h
              by_cases hm : m ≤ 1000000000
              · simp [hm] at h; omega
              · simp [hm] at h
  · have hnb := (numBad_iff false s).1 hbad
    have hfin : Hid (Thk.numAbs false (toL s) = none) := num_bad hbad
    clear hbad
    rcases hnb with h | h | ⟨h, h4, h5⟩
    · clear h0
      go_enter Tryz.func198, Tryz.ntmps198
      go_wp2
      all_goals
        go_ret2
        exact ⟨⟨0, by rw [hfin.out]; rfl, by rw [hfin.out]; intro x h; cases h⟩, rfl⟩
    · have h3 := h0 (by omega)
      clear h0
      go_enter Tryz.func198, Tryz.ntmps198
      go_wp2
      all_goals
        go_ret2
        exact ⟨⟨0, by rw [hfin.out]; rfl, by rw [hfin.out]; intro x h; cases h⟩, rfl⟩
    · have h3 := h0 h
      have h5' : ((s[0].toNat : Int) == 48) = true := by rw [h4]; rfl
      have h6 : 1 < s.size := by simpa using h5
      clear h0 h4 h5
      go_enter Tryz.func198, Tryz.ntmps198
      go_wp2
      all_goals
        go_ret2
        exact ⟨⟨0, by rw [hfin.out]; rfl, by rw [hfin.out]; intro x h; cases h⟩, rfl⟩

set_option maxHeartbeats 2000000 in
theorem number_neg (s : ByteArray) (w : World) (hs : s.size ≤ 1048576) (h0 : 0 < s.size) (hne : (s[0].toNat : Int) = 45) :
    Calls Tryz.prog 198 #[.string s] w fun e w' => NumEnd true (s.extract 1 s.size) e ∧ w' = w := by
  have h3 : ((s[0].toNat : Int) == 45) = true := by rw [hne]; rfl
  have ht : (s.extract 1 s.size).size = s.size - 1 := by simp [ByteArray.size_extract]
  clear hne
  cases hbad : Thk.numBad true (toL (s.extract 1 s.size))
  · have hnb := (not_congr (numBad_iff true (s.extract 1 s.size))).1 (by rw [hbad]; simp)
    have Hbad : Hid (Thk.numBad true (toL (s.extract 1 s.size)) = false) := hbad
    clear hbad
    have h1 : 0 < (s.extract 1 s.size).size := by omega
    have h2 : (s.extract 1 s.size).size ≤ 10 := by omega
    have h5' : (((s.extract 1 s.size)[0].toNat : Int) == 48) = false := by rw [beq_eq_false_iff_ne]; exact fun h => hnb (Or.inr (Or.inr ⟨h1, h, Or.inr rfl⟩))
    have k1 : 1 ≤ s.size - 1 := by omega
    have k2 : s.size - 1 ≤ 10 := by omega
    clear hnb ht
    go_enter Tryz.func198, Tryz.ntmps198
    go_wp2
    clear h5'
    generalize ((s.extract 1 s.size)[0]'h1).toNat = b0 at *
    generalize hT : s.extract 1 s.size = t at *
    have HT : Hid (s.extract 1 s.size = t) := hT
    clear hT
    go_loop [5, 6] (fun n i => ∃ k : Nat, k ≤ t.size ∧ i = .int .i64 k ∧ n = .int .i64 (Thk.numv ((toL t).take k) : Int) ∧ Hid (((toL t).take k).all Thk.isDig = true)) (fun _ i => t.size - (intOf i).toNat)
    case atStart => exact ⟨0, by omega, rfl, by simp [Thk.numv], by simp [Hid]⟩
    case round =>
      obtain ⟨k, hk, rfl, rfl, Hall⟩ := hrel
      have hlt10 : Thk.numv ((toL t).take k) < 10000000000 := by
        have h := Thk.numv_lt _ Hall.out
        have : ((toL t).take k).length ≤ 10 := by simp [toL_length]; omega
        exact Nat.lt_of_lt_of_le h (Nat.le_trans (Nat.pow_le_pow_right (by omega) this) (by decide))
      by_cases hlt : k < t.size
      · by_cases hdig : 48 ≤ (t[k].toNat : Int) ∧ (t[k].toNat : Int) ≤ 57
        · obtain ⟨ha, hb⟩ := hdig
          have hts : (toL t).take (k + 1) = (toL t).take k ++ [t[k]] := by
            rw [List.take_succ_eq_append_getElem (by rw [toL_length]; exact hlt), toL_get t k hlt]
          have Hn : Hid ((Thk.numv ((toL t).take (k + 1)) : Int) = 10 * (Thk.numv ((toL t).take k) : Int) + ((t[k].toNat : Int) - 48)) := by
            unfold Hid; rw [hts, Thk.numv_snoc]; unfold Thk.dgt; omega
          have Hall2 : Hid (((toL t).take (k + 1)).all Thk.isDig = true) := by
            unfold Hid; rw [hts, List.all_append, Hall.out]; unfold Thk.isDig; simp; omega
          clear hts Hall
          generalize Thk.numv ((toL t).take k) = m at *
          go_wp2
          all_goals
            go_round
            case rel => exact ⟨k + 1, by omega, by go_num, by rw [Hn.out], Hall2⟩
            case measure => simp [intOf]; omega
        · have hfin : Hid (Thk.numAbs true (toL t) = none) := num_not_dig hlt hdig
          rcases (show (t[k].toNat : Int) < 48 ∨ 57 < (t[k].toNat : Int) from by omega) with h | h
          all_goals clear hdig Hall
          all_goals
            go_wp2
            all_goals
              go_ret2
              rw [HT.out]; exact ⟨⟨0, by rw [hfin.out]; rfl, by rw [hfin.out]; intro x h; cases h⟩, rfl⟩
      · have hkt : k = t.size := by omega
        subst hkt
        have hfin : Hid (_) := num_end (neg := true) Hbad.out Hall.out
        clear Hall
        generalize Thk.numv ((toL t).take t.size) = m at *
        go_wp2
        all_goals
          go_ret2
          rw [HT.out]; refine ⟨⟨-(m : Int), ?_, ?_⟩, rfl⟩
          · rw [hfin.out]
            by_cases hm : m ≤ 1000000000
            · simp [hm] <;> omega
            · simp [hm] <;> omega
          · rw [hfin.out]
            intro x h
            by_cases hm : m ≤ 1000000000
            · simp [hm] at h; omega
            · simp [hm] at h
  · have hnb := (numBad_iff true (s.extract 1 s.size)).1 hbad
    have hfin : Hid (Thk.numAbs true (toL (s.extract 1 s.size)) = none) := num_bad hbad
    clear hbad
    rcases hnb with h | h | ⟨h, h4, h5⟩
    · have k1 : s.size - 1 < 1 := by omega
      clear ht h
      go_enter Tryz.func198, Tryz.ntmps198
      go_wp2
      all_goals
        go_ret2
        exact ⟨⟨0, by rw [hfin.out]; rfl, by rw [hfin.out]; intro x h; cases h⟩, rfl⟩
    · have k1 : 10 < s.size - 1 := by omega
      clear ht h
      go_enter Tryz.func198, Tryz.ntmps198
      go_wp2
      all_goals
        go_ret2
        exact ⟨⟨0, by rw [hfin.out]; rfl, by rw [hfin.out]; intro x h; cases h⟩, rfl⟩
    · have h5' : (((s.extract 1 s.size)[0].toNat : Int) == 48) = true := by rw [h4]; rfl
      by_cases k2 : 10 < s.size - 1
      · clear h4 h5 ht h5'
        go_enter Tryz.func198, Tryz.ntmps198
        go_wp2
        all_goals
          go_ret2
          exact ⟨⟨0, by rw [hfin.out]; rfl, by rw [hfin.out]; intro x h; cases h⟩, rfl⟩
      · have k1 : 1 ≤ s.size - 1 := by omega
        clear h4 h5 ht
        go_enter Tryz.func198, Tryz.ntmps198
        go_wp2
        all_goals
          go_ret2
          exact ⟨⟨0, by rw [hfin.out]; rfl, by rw [hfin.out]; intro x h; cases h⟩, rfl⟩

theorem num_cases (s : ByteArray) : ((toL s).head? ≠ some 45 ∧ Thk.num (toL s) = Thk.numAbs false (toL s)) ∨ (∃ h : 0 < s.size, (s[0].toNat : Int) = 45 ∧ Thk.num (toL s) = Thk.numAbs true (toL (s.extract 1 s.size))) := by
  by_cases h : (toL s).head? = some 45
  · right
    have hp : 0 < s.size := by
      rcases Nat.eq_zero_or_pos s.size with e | e
      · have : toL s = [] := List.eq_nil_of_length_eq_zero (by rw [toL_length, e])
        rw [this] at h; cases h
      · exact e
    refine ⟨hp, ?_, ?_⟩
    · rw [head_toL s hp] at h; simp only [Option.some.injEq] at h; rw [h]; rfl
    · unfold Thk.num; rw [if_pos h, toL_extract]
      congr 1
      rw [← toL_length s, List.take_length, List.drop_one]
  · left; exact ⟨h, by unfold Thk.num; rw [if_neg h]⟩

theorem number_any (s : ByteArray) (w : World) (hs : s.size ≤ 1048576) :
    Calls Tryz.prog 198 #[.string s] w fun e w' => (∃ m : Int, e = .returned (.tuple #[.int .i64 m, .bool (Thk.num (toL s)).isSome]) ∧ ∀ x, Thk.num (toL s) = some x → m = x) ∧ w' = w := by
  rcases num_cases s with ⟨h, e⟩ | ⟨h0, h, e⟩
  · rw [e]; exact number_pos s w hs h
  · rw [e]; exact number_neg s w hs h0 h


set_option maxHeartbeats 400000 in
theorem value_any (s : ByteArray) (w : World) (hs : s.size ≤ 1048576) :
    Calls Tryz.prog 197 #[.string s] w fun e w' => e = .returned (.bool (Thk.val s.data.toList)) ∧ w' = w := by
  go_enter Tryz.func197, Tryz.ntmps197
  go_wp2
  go_loop [3] (fun i => ∃ k : Nat, k ≤ s.size ∧ i = .int .i64 k ∧ ∀ j (h : j < s.data.toList.length), j < k → (Thk.isLow s.data.toList[j] || Thk.isDig s.data.toList[j]) = true) (fun i => s.size - (intOf i).toNat)
  case atStart => exact ⟨0, by omega, rfl, fun j _ b => by omega⟩
  case round =>
    obtain ⟨k, hk, rfl, hall⟩ := hrel
    have Hall : Hid (∀ j (h : j < s.data.toList.length), j < k → (Thk.isLow s.data.toList[j] || Thk.isDig s.data.toList[j]) = true) := hall
    clear hall
    by_cases hlt : k < s.size
    · by_cases hgood : (97 ≤ (s[k].toNat : Int) ∧ (s[k].toNat : Int) ≤ 122) ∨ (48 ≤ (s[k].toNat : Int) ∧ (s[k].toNat : Int) ≤ 57)
      · have hnext : Hid (∀ j (h : j < s.data.toList.length), j < k + 1 → (Thk.isLow s.data.toList[j] || Thk.isDig s.data.toList[j]) = true) := by
          intro j h b
          by_cases e : j = k
          · subst e; rw [byte_at s j hlt]; unfold Thk.isLow Thk.isDig; simp; omega
          · exact Hall.out j h (by omega)
        clear Hall
        rcases hgood with ⟨ha, hb⟩ | ⟨ha, hb⟩
        all_goals
          go_wp2
          all_goals
            go_round
            case rel => exact ⟨k + 1, by omega, by go_num, hnext.out⟩
            case measure => simp [intOf]; omega
      · have hfin : Hid (Thk.val s.data.toList = false) := Thk.val_false_at _ k (by simpa using hlt) (by rw [byte_at s k hlt, Bool.eq_false_iff]; unfold Thk.isLow Thk.isDig; simp; omega)
        rcases (show (s[k].toNat : Int) < 48 ∨ (57 < (s[k].toNat : Int) ∧ (s[k].toNat : Int) < 97) ∨ 122 < (s[k].toNat : Int) from by omega) with h | ⟨h, h'⟩ | h
        all_goals clear hgood
        all_goals
          go_wp2
          all_goals
            go_ret
            exact ⟨ret_bool hfin.out.symm, rfl⟩
    · have hfin : Hid (Thk.val s.data.toList = (decide (1 ≤ s.size) && decide (s.size ≤ 8))) := by
        have h := Thk.val_eq s.data.toList (fun i h => Hall.out i h (by simp at h; omega))
        exact h.trans (by simp)
      go_wp2
      all_goals
        go_ret
        refine ⟨ret_bool ?_, rfl⟩
        rw [hfin.out, Bool.eq_iff_iff]
        simp
        try omega

def fitsB (k a : UInt8) : Bool :=
  if k.toNat = 115 then a.toNat == 43 || a.toNat == 45 || a.toNat == 33
  else if k.toNat = 102 then a.toNat == 94 || a.toNat == 95 || a.toNat == 33
  else if k.toNat = 114 then a.toNat == 61 || a.toNat == 33
  else if k.toNat = 99 then a.toNat == 62 || a.toNat == 33
  else a.toNat == 33

set_option maxHeartbeats 400000 in
theorem fits_any (k a : UInt8) (w : World) :
    Calls Tryz.prog 196 #[.int .u8 (k.toNat : Int), .int .u8 (a.toNat : Int)] w fun e w' => e = .returned (.bool (fitsB k a)) ∧ w' = w := by
  go_enter Tryz.func196, Tryz.ntmps196
  go_wp2
  all_goals
    go_ret
    refine ⟨ret_bool ?_, rfl⟩
    unfold fitsB
    rw [Bool.eq_iff_iff]
    repeat' split
    all_goals simp only [Bool.or_eq_true, beq_iff_eq, beq_eq_false_iff_ne, Bool.true_eq_false, Bool.false_eq_true, true_iff, false_iff, iff_true, iff_false, eq_self] at *
    all_goals omega

end Go.Proofs.YtoiiaankpnhppaaGreatDoor

namespace Go.Proofs.YtoiiaankpnhppaaGreatDoor.Thk

def fits (k a : UInt8) : Bool :=
  if k.toNat = 115 then a.toNat == 43 || a.toNat == 45 || a.toNat == 33
  else if k.toNat = 102 then a.toNat == 94 || a.toNat == 95 || a.toNat == 33
  else if k.toNat = 114 then a.toNat == 61 || a.toNat == 33
  else if k.toNat = 99 then a.toNat == 62 || a.toNat == 33
  else a.toNat == 33

structure Ch where
  path : Bs
  act : UInt8
  val : Bs
  n : Int

def operand (p : Bs) (a : UInt8) (v : Bs) : Nat ⊕ Ch :=
  if a.toNat = 43 ∨ a.toNat = 45 ∨ a.toNat = 61 then (if val v then .inr ⟨p, a, v, 0⟩ else .inl 5)
  else if a.toNat = 62 then (match num v with | some n => .inr ⟨p, a, v, n⟩ | none => .inl 5)
  else if v = [] then .inr ⟨p, a, v, 0⟩ else .inl 5
def readAt (l : Bs) (k : Nat) : Nat ⊕ Ch :=
  if path (l.take k) = false then .inl 4
  else if fits (kindOf (l.take k)) (l.getD k 0) = false then .inl 6
  else operand (l.take k) (l.getD k 0) (l.drop (k + 1))
def read (l : Bs) : Nat ⊕ Ch := if l.findIdx isAct = l.length then .inl 4 else readAt l (l.findIdx isAct)

theorem read_none (l : Bs) (h : ∀ j (hj : j < l.length), isAct l[j] = false) : read l = .inl 4 := by
  have : l.findIdx isAct = l.length := List.findIdx_eq_length.2 (fun x hx => by obtain ⟨i, hi, rfl⟩ := List.getElem_of_mem hx; exact h i hi)
  unfold read; rw [if_pos this]
theorem read_some (l : Bs) (k : Nat) (hk : k < l.length) (h : ∀ j (hj : j < l.length), j < k → isAct l[j] = false) (ha : isAct l[k] = true) : read l = readAt l k := by
  have : l.findIdx isAct = k := by
    rw [List.findIdx_eq hk]; exact ⟨ha, fun j hj => h j (by omega) hj⟩
  unfold read; rw [this, if_neg (by omega)]

end Go.Proofs.YtoiiaankpnhppaaGreatDoor.Thk

namespace Go.Proofs.YtoiiaankpnhppaaGreatDoor
open Go.RowKit

abbrev zeroEv : Value := .agg #[.string ⟨#[]⟩, .int .u8 0, .string ⟨#[]⟩, .int .i64 0, .slice none 0 0]
def ReadEnd (r : Nat ⊕ Thk.Ch) (e : Ending) : Prop :=
  match r with
  | .inl k => e = .returned (.tuple #[zeroEv, .int .i64 (k : Int)])
  | .inr c => ∃ p v, e = .returned (.tuple #[.agg #[.string p, .int .u8 (c.act.toNat : Int), .string v, .int .i64 c.n, .slice none 0 0], .int .i64 0]) ∧ toL p = c.path ∧ toL v = c.val

structure Blk5 (b : Nat) (v0 v1 v2 v3 v4 : Value) (w : World) : Prop where
  c0 : w.cell? ⟨b, 0, none⟩ = some v0
  c1 : w.cell? ⟨b, 1, none⟩ = some v1
  c2 : w.cell? ⟨b, 2, none⟩ = some v2
  c3 : w.cell? ⟨b, 3, none⟩ = some v3
  c4 : w.cell? ⟨b, 4, none⟩ = some v4
  f : ∀ j, w.frozen? ⟨b, j, none⟩ = false

theorem Blk5.below {b B : Nat} {v0 v1 v2 v3 v4 : Value} {w w' : World} (h : Blk5 b v0 v1 v2 v3 v4 w) (hb : Below B w w') (hB : b < B) : Blk5 b v0 v1 v2 v3 v4 w' :=
  ⟨(hb.cell (p := ⟨b, 0, none⟩) hB).trans h.c0, (hb.cell (p := ⟨b, 1, none⟩) hB).trans h.c1, (hb.cell (p := ⟨b, 2, none⟩) hB).trans h.c2, (hb.cell (p := ⟨b, 3, none⟩) hB).trans h.c3, (hb.cell (p := ⟨b, 4, none⟩) hB).trans h.c4, fun j => (hb.frozen (p := ⟨b, j, none⟩) hB).trans (h.f j)⟩

theorem blk5 {w w1 : World} {B : Nat} {v0 v1 v2 v3 v4 : Value} {t : TypeId} (hb : Below B (w.alloc (.cells #[v0, v1, v2, v3, v4] t)) w1) (hB : w.heap.size < B) : Blk5 w.heap.size v0 v1 v2 v3 v4 w1 := by
  have hc : ∀ j, w1.cell? ⟨w.heap.size, j, none⟩ = _ := fun j => hb.cell (p := ⟨w.heap.size, j, none⟩) hB
  have hf : ∀ j, w1.frozen? ⟨w.heap.size, j, none⟩ = _ := fun j => hb.frozen (p := ⟨w.heap.size, j, none⟩) hB
  refine ⟨?_, ?_, ?_, ?_, ?_, fun j => ?_⟩
  all_goals first | (rw [hc]; simp; done) | (rw [hf]; simp; done)

theorem below_set5 {B b : Nat} {w w1 : World} (h : Below B w w1) (hb : B ≤ b) (v0 v1 v2 v3 v4 : Value) :
    Below B w (((((w1.setCell ⟨b, 0, none⟩ v0).setCell ⟨b, 1, none⟩ v1).setCell ⟨b, 2, none⟩ v2).setCell ⟨b, 3, none⟩ v3).setCell ⟨b, 4, none⟩ v4) :=
  ((((h.setCell hb _).setCell hb _).setCell hb _).setCell hb _).setCell hb _

set_option maxHeartbeats 2000000 in
theorem Read_any (s : ByteArray) (w : World) (hs : s.size ≤ 1048576) :
    Calls Tryz.prog 144 #[.string s] w fun e w' => ReadEnd (Thk.read (toL s)) e ∧ Below w.heap.size w w' := by
  go_enter Tryz.func144, Tryz.ntmps144
  go_wp2
  go_loop [4, 5] (fun i _ => ∃ k : Nat, k ≤ s.size ∧ i = .int .i64 k ∧ Hid (∀ j (h : j < (toL s).length), j < k → Thk.isAct (toL s)[j] = false)) (fun i _ => s.size - (intOf i).toNat)
  case atStart => exact ⟨0, by omega, rfl, fun j _ b => by omega⟩
  case round =>
    obtain ⟨k, hk, rfl, Hall⟩ := hrel
    by_cases hlt : k < s.size
    · have hl := toL_length s
      have hget : (toL s)[k]'(by omega) = s[k] := toL_get s k hlt
      cases hact : Thk.isAct s[k]
      · have Hn : Hid (∀ j (h : j < (toL s).length), j < k + 1 → Thk.isAct (toL s)[j] = false) := by
          intro j h b
          by_cases e : j = k
          · subst e; rw [hget]; exact hact
          · exact Hall.out j h (by omega)
        have Ha : Hid (Thk.isAct s[k] = false) := hact
        clear hact Hall hget hl
        go_wp2_with (go_at_call 195; refine (action_any _ _).mono ?_; rintro e w' ⟨rfl, rfl⟩; rw [Ha.out])
        go_round
        case rel => exact ⟨k + 1, by omega, by go_num, Hn⟩
        case measure => simp [intOf]; omega
      · have Hread : Hid (Thk.read (toL s) = Thk.readAt (toL s) k) := Thk.read_some _ k (by omega) Hall.out (by rw [hget]; exact hact)
        have Ha : Hid (Thk.isAct s[k] = true) := hact
        have Hget : Hid ((toL s).getD k 0 = s[k]) := by unfold Hid; rw [List.getD_eq_getElem?_getD, List.getElem?_eq_getElem (by omega), hget]; rfl
        clear hact Hall hget hl
        go_wp2_with (go_at_call 195; refine (action_any _ _).mono ?_; rintro e w' ⟨rfl, rfl⟩; rw [Ha.out])
        refine (Path_any (s.extract 0 k) _ (by simp [ByteArray.size_extract]; omega)).mono ?_
        rintro e w1 ⟨rfl, hb1⟩
        have Hex : Hid (toL (s.extract 0 k) = (toL s).take k) := by unfold Hid; rw [toL_extract]; simp
        cases hp : Thk.path (toL (s.extract 0 k))
        · have hfin : Hid (Thk.read (toL s) = .inl 4) := by
            rw [Hex.out] at hp; unfold Hid; rw [Hread.out]; unfold Thk.readAt; rw [if_pos hp]
          have hB2 : Below w.heap.size w w1 := ((Below.refl _ _).alloc (Nat.le_refl _) _).trans (hb1.mono (by simp))
          obtain ⟨b0, b1, b2, b3, b4, hf⟩ := blk5 hb1 (by simp)
          clear hb1
          go_wp2
          refine bodyPost_ret (v := (.tuple #[zeroEv, .int .i64 4])) (by simp [results, Tryz.results144, go_sem, b0, b1, b2, b3, b4]) rfl ⟨?_, below_set5 hB2 (Nat.le_refl _) _ _ _ _ _⟩
          rw [hfin.out]; rfl
        · have hB1 : Below w.heap.size w w1 := ((Below.refl _ _).alloc (Nat.le_refl _) _).trans (hb1.mono (by simp))
          have HE : Hid (Blk5 w.heap.size (.string ⟨#[]⟩) (.int .u8 0) (.string ⟨#[]⟩) (.int .i64 0) (.slice none 0 0) w1) := blk5 hb1 (by simp)
          have hsz : w.heap.size < w1.heap.size := by have := hb1.size; simp at this; omega
          clear hb1
          go_wp2
          go_region
          go_wp2_with fail
          have Hkind : Hid (∀ wx : World, Calls Tryz.prog 190 #[.string (s.extract 0 k)] wx fun e w' => e = .returned (.int .u8 ((Thk.kindOf (toL (s.extract 0 k))).toNat : Int)) ∧ Below wx.heap.size wx w') := fun wx => kind_any _ wx (by simp [ByteArray.size_extract]; omega) hp
          have Hp : Hid (_) := hp
          have Hdr : Hid ((toL s).drop (k + 1) = toL (s.extract (k + 1) s.size)) := by unfold Hid; rw [toL_extract, ← toL_length s, List.take_length]
          clear hp
          go_cut [6] from 42 to 47 (fun ok wx => ok = .bool (fitsB (Thk.kindOf (toL (s.extract 0 k))) s[k]) ∧ Below w1.heap.size w1 wx ∧ Blk5 w1.heap.size (.string (s.extract 0 k)) (.int .u8 (s[k].toNat : Int)) (.string (s.extract (k + 1) s.size)) (.int .i64 0) (.slice none 0 0) wx)
          case first =>
            go_region_with (first | (go_at_call 190; refine (Hkind.out _).mono ?_; rintro e w2 ⟨rfl, hb2⟩; have hb3 : Below (w1.heap.size + 1) (w1.alloc (.cells #[.string (s.extract 0 k), .int .u8 (s[k].toNat : Int), .string (s.extract (k + 1) s.size), .int .i64 0, .slice none 0 0] 207)) w2 := Below.trans (by go_grown) (hb2.mono (by simp)); obtain ⟨d0, d1, d2, d3, d4, df⟩ := blk5 hb3 (by omega)) | (go_at_call 196; refine (fits_any _ _ _).mono ?_; rintro e w3 ⟨rfl, rfl⟩))
            all_goals
              go_wp2_with fail
              go_meet
              exact ⟨rfl, ((Below.refl _ _).alloc (Nat.le_refl _) _).trans (hb3.mono (by omega)), blk5 hb3 (by omega)⟩
          case rest =>
          obtain ⟨rfl, hb4, hev⟩ := hcut
          obtain ⟨b0, b1, b2, b3, b4, bf⟩ := HE.out.below hb4 hsz
          obtain ⟨d0, d1, d2, d3, d4, df⟩ := hev
          have hB2 : Below w.heap.size w wc := hB1.trans (hb4.mono (by omega))
          clear hb4 HE Hkind hB1
          cases hft : fitsB (Thk.kindOf (toL (s.extract 0 k))) s[k]
          · have hfin : Hid (Thk.read (toL s) = .inl 6) := by
              unfold Hid; rw [Hread.out]; unfold Thk.readAt; rw [if_neg (by rw [← Hex.out, Hp.out]; simp), if_pos (by rw [Hget.out, ← Hex.out]; exact hft)]
            clear hft
            go_wp2
            refine bodyPost_ret (v := (.tuple #[zeroEv, .int .i64 6])) (by simp [results, Tryz.results144, go_sem, b0, b1, b2, b3, b4]) rfl ⟨?_, below_set5 hB2 (Nat.le_refl _) _ _ _ _ _⟩
            rw [hfin.out]; rfl
          · have Hop : Hid (Thk.read (toL s) = Thk.operand (toL (s.extract 0 k)) s[k] (toL (s.extract (k + 1) s.size))) := by
              unfold Hid; rw [Hread.out]; unfold Thk.readAt; rw [if_neg (by rw [← Hex.out, Hp.out]; simp), if_neg (by rw [Hget.out, ← Hex.out]; unfold fitsB at hft; unfold Thk.fits; rw [hft]; simp), Hget.out, Hex.out, Hdr.out]
            clear hft Hread Hget Hex Hdr
            have hne : w.heap.size ≠ w1.heap.size := by omega
            cases h43 : ((s[k].toNat : Int) == 43)
            · cases h45 : ((s[k].toNat : Int) == 45)
              · cases h61 : ((s[k].toNat : Int) == 61)
                · cases h62 : ((s[k].toNat : Int) == 62)
                  · have hc3 : ¬ (s[k].toNat = 43 ∨ s[k].toNat = 45 ∨ s[k].toNat = 61) ∧ ¬ s[k].toNat = 62 := by simp only [beq_eq_false_iff_ne] at *; omega
                    cases hv : (s.extract (k + 1) s.size).toList.isEmpty
                    · have hfin : Hid (Thk.read (toL s) = .inl 5) := by
                        unfold Hid; rw [Hop.out]; unfold Thk.operand; rw [if_neg hc3.1, if_neg hc3.2, if_neg (by rw [toList_eq] at hv; simp only [toL]; intro h; rw [h] at hv; cases hv)]
                      clear hc3 Hop
                      go_wp2
                      refine bodyPost_ret (v := (.tuple #[zeroEv, .int .i64 5])) (by simp [results, Tryz.results144, go_sem, b0, b1, b2, b3, b4]) rfl ⟨?_, below_set5 hB2 (Nat.le_refl _) _ _ _ _ _⟩
                      rw [hfin.out]; rfl
                    · have hfin : Hid (Thk.read (toL s) = .inr ⟨toL (s.extract 0 k), s[k], toL (s.extract (k + 1) s.size), 0⟩) := by
                        unfold Hid; rw [Hop.out]; unfold Thk.operand; rw [if_neg hc3.1, if_neg hc3.2, if_pos (by rw [toList_eq] at hv; exact List.isEmpty_iff.1 hv)]
                      clear hc3 Hop
                      go_wp2
                      refine bodyPost_ret (v := (.tuple #[.agg #[.string (s.extract 0 k), .int .u8 (s[k].toNat : Int), .string (s.extract (k + 1) s.size), .int .i64 0, .slice none 0 0], .int .i64 0])) (by simp [results, Tryz.results144, go_sem, b0, b1, b2, b3, b4]) rfl ⟨?_, below_set5 hB2 (Nat.le_refl _) _ _ _ _ _⟩
                      rw [hfin.out]; exact ⟨_, _, rfl, rfl, rfl⟩
                  · have hc3 : s[k].toNat = 62 := by simp only [beq_iff_eq] at h62; omega
                    have Hop2 : Hid (Thk.read (toL s) = match Thk.num (toL (s.extract (k + 1) s.size)) with | some n => .inr ⟨toL (s.extract 0 k), s[k], toL (s.extract (k + 1) s.size), n⟩ | none => .inl 5) := by
                      unfold Hid; rw [Hop.out]; unfold Thk.operand; rw [if_neg (by omega), if_pos hc3]; rfl
                    clear hc3 Hop
                    go_wp2_with fail
                    refine (number_any _ _ (by simp [ByteArray.size_extract]; omega)).mono ?_
                    rintro e w' ⟨⟨m, rfl, hm⟩, rfl⟩
                    cases hn : Thk.num (toL (s.extract (k + 1) s.size)) with
                    | none =>
                      have hfin : Hid (Thk.read (toL s) = .inl 5) := by unfold Hid; rw [Hop2.out, hn]
                      clear hm hn Hop2
                      go_wp2
                      refine bodyPost_ret (v := .tuple #[zeroEv, .int .i64 5]) (by simp [results, Tryz.results144, go_sem, b0, b1, b2, b3, b4, hne, hne.symm]) rfl ⟨?_, below_set5 (hB2.setCell (by show w.heap.size ≤ w1.heap.size; omega) _) (Nat.le_refl _) _ _ _ _ _⟩
                      rw [hfin.out]; rfl
                    | some n =>
                      have hfin : Hid (Thk.read (toL s) = .inr ⟨toL (s.extract 0 k), s[k], toL (s.extract (k + 1) s.size), m⟩) := by unfold Hid; rw [Hop2.out, hn, hm n hn]
                      clear hm hn Hop2
                      go_wp2
                      refine bodyPost_ret (v := (.tuple #[.agg #[.string (s.extract 0 k), .int .u8 (s[k].toNat : Int), .string (s.extract (k + 1) s.size), .int .i64 m, .slice none 0 0], .int .i64 0])) (by simp [results, Tryz.results144, go_sem, b0, b1, b2, b3, b4, hne, hne.symm]) rfl ⟨?_, below_set5 (hB2.setCell (by show w.heap.size ≤ w1.heap.size; omega) _) (Nat.le_refl _) _ _ _ _ _⟩
                      rw [hfin.out]; exact ⟨_, _, rfl, rfl, rfl⟩
                · have hc3 : s[k].toNat = 43 ∨ s[k].toNat = 45 ∨ s[k].toNat = 61 := by simp only [beq_iff_eq, beq_eq_false_iff_ne] at *; omega
                  cases hv : Thk.val (s.extract (k + 1) s.size).data.toList
                  · have hfin : Hid (Thk.read (toL s) = .inl 5) := by
                      unfold Hid; rw [Hop.out]; unfold Thk.operand; rw [if_pos hc3, (show Thk.val (toL (s.extract (k + 1) s.size)) = _ from hv)]; rfl
                    have Hv : Hid (_) := hv
                    clear hv hc3
                    go_wp2_with (go_at_call 197; refine (value_any _ _ (by simp [ByteArray.size_extract]; omega)).mono ?_; rintro e w' ⟨rfl, rfl⟩; rw [Hv.out])
                    refine bodyPost_ret (v := (.tuple #[zeroEv, .int .i64 5])) (by simp [results, Tryz.results144, go_sem, b0, b1, b2, b3, b4]) rfl ⟨?_, below_set5 hB2 (Nat.le_refl _) _ _ _ _ _⟩
                    rw [hfin.out]; rfl
                  · have hfin : Hid (Thk.read (toL s) = .inr ⟨toL (s.extract 0 k), s[k], toL (s.extract (k + 1) s.size), 0⟩) := by
                      unfold Hid; rw [Hop.out]; unfold Thk.operand; rw [if_pos hc3, (show Thk.val (toL (s.extract (k + 1) s.size)) = _ from hv)]; rfl
                    have Hv : Hid (_) := hv
                    clear hv hc3
                    go_wp2_with (go_at_call 197; refine (value_any _ _ (by simp [ByteArray.size_extract]; omega)).mono ?_; rintro e w' ⟨rfl, rfl⟩; rw [Hv.out])
                    refine bodyPost_ret (v := (.tuple #[.agg #[.string (s.extract 0 k), .int .u8 (s[k].toNat : Int), .string (s.extract (k + 1) s.size), .int .i64 0, .slice none 0 0], .int .i64 0])) (by simp [results, Tryz.results144, go_sem, b0, b1, b2, b3, b4]) rfl ⟨?_, below_set5 hB2 (Nat.le_refl _) _ _ _ _ _⟩
                    rw [hfin.out]; exact ⟨_, _, rfl, rfl, rfl⟩
              · have hc3 : s[k].toNat = 43 ∨ s[k].toNat = 45 ∨ s[k].toNat = 61 := by simp only [beq_iff_eq, beq_eq_false_iff_ne] at *; omega
                cases hv : Thk.val (s.extract (k + 1) s.size).data.toList
                · have hfin : Hid (Thk.read (toL s) = .inl 5) := by
                    unfold Hid; rw [Hop.out]; unfold Thk.operand; rw [if_pos hc3, (show Thk.val (toL (s.extract (k + 1) s.size)) = _ from hv)]; rfl
                  have Hv : Hid (_) := hv
                  clear hv hc3
                  go_wp2_with (go_at_call 197; refine (value_any _ _ (by simp [ByteArray.size_extract]; omega)).mono ?_; rintro e w' ⟨rfl, rfl⟩; rw [Hv.out])
                  refine bodyPost_ret (v := (.tuple #[zeroEv, .int .i64 5])) (by simp [results, Tryz.results144, go_sem, b0, b1, b2, b3, b4]) rfl ⟨?_, below_set5 hB2 (Nat.le_refl _) _ _ _ _ _⟩
                  rw [hfin.out]; rfl
                · have hfin : Hid (Thk.read (toL s) = .inr ⟨toL (s.extract 0 k), s[k], toL (s.extract (k + 1) s.size), 0⟩) := by
                    unfold Hid; rw [Hop.out]; unfold Thk.operand; rw [if_pos hc3, (show Thk.val (toL (s.extract (k + 1) s.size)) = _ from hv)]; rfl
                  have Hv : Hid (_) := hv
                  clear hv hc3
                  go_wp2_with (go_at_call 197; refine (value_any _ _ (by simp [ByteArray.size_extract]; omega)).mono ?_; rintro e w' ⟨rfl, rfl⟩; rw [Hv.out])
                  refine bodyPost_ret (v := (.tuple #[.agg #[.string (s.extract 0 k), .int .u8 (s[k].toNat : Int), .string (s.extract (k + 1) s.size), .int .i64 0, .slice none 0 0], .int .i64 0])) (by simp [results, Tryz.results144, go_sem, b0, b1, b2, b3, b4]) rfl ⟨?_, below_set5 hB2 (Nat.le_refl _) _ _ _ _ _⟩
                  rw [hfin.out]; exact ⟨_, _, rfl, rfl, rfl⟩
            · have hc3 : s[k].toNat = 43 ∨ s[k].toNat = 45 ∨ s[k].toNat = 61 := by simp only [beq_iff_eq, beq_eq_false_iff_ne] at *; omega
              cases hv : Thk.val (s.extract (k + 1) s.size).data.toList
              · have hfin : Hid (Thk.read (toL s) = .inl 5) := by
                  unfold Hid; rw [Hop.out]; unfold Thk.operand; rw [if_pos hc3, (show Thk.val (toL (s.extract (k + 1) s.size)) = _ from hv)]; rfl
                have Hv : Hid (_) := hv
                clear hv hc3
                go_wp2_with (go_at_call 197; refine (value_any _ _ (by simp [ByteArray.size_extract]; omega)).mono ?_; rintro e w' ⟨rfl, rfl⟩; rw [Hv.out])
                refine bodyPost_ret (v := (.tuple #[zeroEv, .int .i64 5])) (by simp [results, Tryz.results144, go_sem, b0, b1, b2, b3, b4]) rfl ⟨?_, below_set5 hB2 (Nat.le_refl _) _ _ _ _ _⟩
                rw [hfin.out]; rfl
              · have hfin : Hid (Thk.read (toL s) = .inr ⟨toL (s.extract 0 k), s[k], toL (s.extract (k + 1) s.size), 0⟩) := by
                  unfold Hid; rw [Hop.out]; unfold Thk.operand; rw [if_pos hc3, (show Thk.val (toL (s.extract (k + 1) s.size)) = _ from hv)]; rfl
                have Hv : Hid (_) := hv
                clear hv hc3
                go_wp2_with (go_at_call 197; refine (value_any _ _ (by simp [ByteArray.size_extract]; omega)).mono ?_; rintro e w' ⟨rfl, rfl⟩; rw [Hv.out])
                refine bodyPost_ret (v := (.tuple #[.agg #[.string (s.extract 0 k), .int .u8 (s[k].toNat : Int), .string (s.extract (k + 1) s.size), .int .i64 0, .slice none 0 0], .int .i64 0])) (by simp [results, Tryz.results144, go_sem, b0, b1, b2, b3, b4]) rfl ⟨?_, below_set5 hB2 (Nat.le_refl _) _ _ _ _ _⟩
                rw [hfin.out]; exact ⟨_, _, rfl, rfl, rfl⟩
    · have hfin : Hid (Thk.read (toL s) = .inl 4) := Thk.read_none _ (fun j hj => Hall.out j hj (by rw [toL_length] at hj; omega))
      clear Hall
      go_wp2
      go_returns
      refine ⟨by rw [hfin.out]; rfl, by go_grown⟩


theorem evCells_cons (e : Ev) (es : List Ev) (v : Value) (vs : List Value) : evCells (e :: es) (v :: vs) = [.string e.p, .int .u8 (e.a.toNat : Int), .string e.v, .int .i64 e.n, v] ++ evCells es vs := rfl
theorem evCells_get : ∀ (es : List Ev) (svs : List Value), svs.length = es.length → ∀ j (h : j < es.length) (h' : j < svs.length),
    (evCells es svs)[j * 5]? = some (.string es[j].p) ∧ (evCells es svs)[j * 5 + 1]? = some (.int .u8 (es[j].a.toNat : Int)) ∧ (evCells es svs)[j * 5 + 2]? = some (.string es[j].v) ∧ (evCells es svs)[j * 5 + 3]? = some (.int .i64 es[j].n) ∧ (evCells es svs)[j * 5 + 4]? = some svs[j] := by
  intro es
  induction es with
  | nil => intro svs _ j h; simp at h
  | cons e es ih =>
    intro svs hl j h h'
    cases svs with
    | nil => simp at hl
    | cons v vs =>
      rw [evCells_cons]
      cases j with
      | zero => simp
      | succ j =>
        have hl' : vs.length = es.length := by simpa using hl
        obtain ⟨a, b, c, d, f⟩ := ih vs hl' j (by simpa using h) (by simpa using h')
        have s : ∀ i, ([.string e.p, .int .u8 (e.a.toNat : Int), .string e.v, .int .i64 e.n, v] ++ evCells es vs)[(j + 1) * 5 + i]? = (evCells es vs)[j * 5 + i]? := by
          intro i
          rw [List.getElem?_append_right (by simp; omega)]
          congr 1
          simp; omega
        have s0 := s 0
        simp only [Nat.add_zero] at s0
        exact ⟨s0.trans a, (s 1).trans b, (s 2).trans c, (s 3).trans d, (s 4).trans f⟩
theorem evCells_snoc : ∀ (es : List Ev) (svs : List Value), svs.length = es.length → ∀ e v, evCells (es ++ [e]) (svs ++ [v]) = evCells es svs ++ [.string e.p, .int .u8 (e.a.toNat : Int), .string e.v, .int .i64 e.n, v] := by
  intro es svs hl e v
  unfold evCells
  rw [List.zip_append hl.symm, List.flatMap_append]; rfl

theorem RefAt.evsIn {w : World} {c rb : Nat} {evv fv : Value} {av : Nat → Value} {room : Nat} {es : List Ev} {acc most : Nat} {knowns : List (List Bool)} (h : RefAt w c rb evv fv av room es acc most knowns) : EvsIn w.heap.size w evv es := by
  obtain ⟨svs, hl, hown, hsv⟩ := h.evs
  have h0 := hown
  obtain ⟨hx, h1 | ⟨g, cap, cur, rfl, hg, hh, hc, hm, hs, hcur⟩⟩ := hown
  · left; exact ⟨h1.1, List.eq_nil_of_length_eq_zero h1.2⟩
  · right
    refine ⟨g, 0, cap, rfl, hc, (h0.lt g rfl).2, fun j hj => ?_⟩
    obtain ⟨a, b, c, d, f⟩ := evCells_get es svs hl j hj (by omega)
    have hcell : ∀ i, i < 5 → w.cell? ⟨g, 0 + j * 5 + i, none⟩ = (evCells es svs)[j * 5 + i]? := fun i hi => by
      rw [Nat.zero_add]; exact h0.cellAt (j * 5 + i) (by omega)
    have hc0 := hcell 0 (by omega)
    simp only [Nat.add_zero] at hc0
    exact ⟨svs[j]'(by omega), hc0.trans a, (hcell 1 (by omega)).trans b, (hcell 2 (by omega)).trans c, (hcell 3 (by omega)).trans d, (hcell 4 (by omega)).trans f, (hsv j (by omega) hj).toIn⟩

set_option maxHeartbeats 1000000 in
theorem Alive_any (evv : Value) (es : List Ev) (kv : Value) (known : List Bool) (w : World) (hn : es.length ≤ 1000) (hkn : known.length ≤ 1000)
    (hev : EvsIn w.heap.size w evv es) (hkv : SliceIn w.heap.size w kv (bools known)) (hz : ∀ e ∈ es, EvOk e) :
    Calls Tryz.prog 139 #[evv, kv] w fun e w' => ∃ v, e = .returned v ∧ w'.ownsRow w.heap.size 3 1 v (aliveTo es known es.length).length (nats (aliveTo es known es.length)) ∧ Below w.heap.size w w' := by
  have hev0 := hev
  rcases hev with ⟨rfl, rfl⟩ | ⟨b, off, cap, rfl, hcap, hb, hc⟩
  · clear hz hkv hev0
    go_enter Tryz.func139, Tryz.ntmps139
    go_wp2
    go_rounds 1
    go_ret
    exact ⟨_, rfl, World.ownsRow_nil _ _ _ _, Below.refl _ _⟩
  · exact Alive_some w.heap.size b off cap es kv known w (Nat.le_refl _) hcap hn hkn hev0 hkv (fun e he => ⟨by have := (hz e he).p; omega, (hz e he).s⟩)

theorem EvsIn.mono {B B' : Nat} {w : World} {v : Value} {es : List Ev} (h : EvsIn B w v es) (hB : B ≤ B') : EvsIn B' w v es := by
  rcases h with h | ⟨b, off, cap, h1, h2, h3, h4⟩
  · exact Or.inl h
  · refine Or.inr ⟨b, off, cap, h1, h2, by omega, fun j hj => ?_⟩
    obtain ⟨sv, c0, c1, c2, c3, c4, c5⟩ := h4 j hj
    exact ⟨sv, c0, c1, c2, c3, c4, c5.mono hB⟩
theorem aliveTo_lt (es : List Ev) (known : List Bool) (n : Nat) : ∀ j ∈ aliveTo es known n, j < n := by
  intro j hj; unfold aliveTo at hj; have := (List.mem_filter.1 hj).1; simpa using this

def askR (es : List Ev) (knowns : List (List Bool)) (i : Int) (path : Thk.Bs) : Thk.Bs × Int :=
  if 0 ≤ i ∧ i < knowns.length then (if Thk.path path then (tellR es (aliveTo es (knowns.getD i.toNat []) es.length) path, 0) else ([], 4)) else ([], 2)

set_option maxHeartbeats 2000000 in
theorem RefAsk_any (w : World) (c rb : Nat) (evv fv : Value) (av : Nat → Value) (room : Nat) (es : List Ev) (acc most : Nat) (knowns : List (List Bool)) (h : RefAt w c rb evv fv av room es acc most knowns) (i : Int) (path : ByteArray) (hps : path.size ≤ 1048576) :
    Calls Tryz.prog 84 #[.pointer (some ⟨c, 0, none⟩), .int .i64 i, .string path] w fun e w' =>
      ∃ t, e = .returned (.tuple #[.string t, .int .i64 (askR es knowns i (toL path)).2]) ∧ toL t = (askR es knowns i (toL path)).1 ∧ Below w.heap.size w w' := by
  have H : Hid (RefAt w c rb evv fv av room es acc most knowns) := h
  by_cases hi : 0 ≤ i ∧ i < knowns.length
  · obtain ⟨k, rfl⟩ := Int.eq_ofNat_of_zero_le hi.1
    have hk : k < knowns.length := by omega
    have Hask : Hid (askR es knowns (k : Int) (toL path) = if Thk.path (toL path) then (tellR es (aliveTo es knowns[k] es.length) (toL path), 0) else ([], 4)) := by
      unfold Hid askR; rw [if_pos hi]; simp [List.getElem?_eq_getElem hk]
    obtain ⟨cap, f1, hcap⟩ := h.f1
    have f2 := h.f2
    obtain ⟨kv, c0, hkv⟩ := (h.reps k hk).c0
    have h6 := h.n6
    have Hkv : Hid (SliceT 4 w kv (bools knowns[k])) := hkv
    have hck := h.tc.lt
    have hrb := h.trb.lt
    have Hevs : Hid (EvsIn w.heap.size w evv es) := h.evsIn
    have Hok : Hid (∀ e ∈ es, EvOk e) := h.ok
    have hn5 := h.n500
    have hkl := h.kn _ (List.getElem_mem hk)
    clear hkv h
    generalize knowns[k] = kn at *
    go_enter Tryz.func84, Tryz.ntmps84
    go_wp2_with fail
    refine (Up_any w c rb evv fv av room es acc most knowns H.out (k : Int)).mono ?_
    rintro e w1 ⟨rfl, hw1⟩
    subst hw1
    rw [if_pos hi]
    go_wp2_with fail
    refine (Path_any path _ hps).mono ?_
    rintro e w2 ⟨rfl, hb2⟩
    cases hp : Thk.path (toL path)
    · have Ha : Hid (askR es knowns (k : Int) (toL path) = ([], 4)) := by unfold Hid; rw [Hask.out, hp]; rfl
      clear hp
      go_wp2
      go_ret2
      exact ⟨ByteArray.empty, by rw [Ha.out]; rfl, by rw [Ha.out]; rfl, hb2⟩
    · have Ha : Hid (askR es knowns (k : Int) (toL path) = (tellR es (aliveTo es kn es.length) (toL path), 0)) := by unfold Hid; rw [Hask.out, hp]; rfl
      have Hp : Hid (Thk.path (toL path) = true) := hp
      have g1 := (hb2.cell (p := ⟨c, 1, none⟩) hck).trans f1
      have g2 := (hb2.cell (p := ⟨c, 2, none⟩) hck).trans f2
      have g0 := (hb2.cell (p := ⟨rb, k * 13, none⟩) hrb).trans c0
      clear hp f1 f2 c0
      go_wp2_with fail
      have Hal : Hid (∀ wx : World, Below w2.heap.size w2 wx → Calls Tryz.prog 139 #[evv, kv] wx fun e w' => ∃ v, e = .returned v ∧ w'.ownsRow wx.heap.size 3 1 v (aliveTo es kn es.length).length (nats (aliveTo es kn es.length)) ∧ Below wx.heap.size wx w') := by
        intro wx hwx
        have hb3 : Below w1.heap.size w1 wx := hb2.trans (hwx.mono hb2.size)
        exact Alive_any evv es kv kn wx (by omega) (by omega) ((Hevs.out.below hb3).mono hb3.size) ((Hkv.out.toIn.below hb3).mono hb3.size) Hok.out
      go_cut [10] from 21 to 33 (fun al wx => SliceT 3 wx al (nats (aliveTo es kn es.length)) ∧ Below w2.heap.size w2 wx)
      case first =>
        go_region_with (go_at_call 139; refine (Hal.out _ ?_).mono ?_; (go_grown); rintro e w3 ⟨v3, rfl, hown3, hb3⟩)
        all_goals
          go_wp2_with fail
          go_meet
          exact ⟨own_sliceT hown3, Below.trans (by go_grown) (hb3.mono (by simp))⟩
      case rest =>
      obtain ⟨hal, hb4⟩ := hcut
      have hb5 : Below w1.heap.size w1 wc := hb2.trans (hb4.mono hb2.size)
      have k2 := (hb4.cell (p := ⟨c, 2, none⟩) (Nat.lt_of_lt_of_le hck hb2.size)).trans g2
      have HT : Hid (_) := Tell_any wc.heap.size evv es _ (aliveTo es kn es.length) path wc (Nat.le_refl _) (by omega) ((Hevs.out.below hb5).mono hb5.size) hal.toIn (aliveTo_lt _ _ _) (by have := aliveTo_le es kn es.length; omega) Hok.out hps Hp.out
      clear g0 g1 g2 hal Hal
      go_wp2_with fail
      refine Calls.mono HT.out ?_
      rintro e w6 ⟨t, rfl, ht, hb6⟩
      go_wp2
      go_ret2
      exact ⟨t, by rw [Ha.out]; rfl, by rw [Ha.out]; exact ht, hb5.trans (hb6.mono hb5.size)⟩
  · have Hask : Hid (askR es knowns i (toL path) = ([], 2)) := by unfold Hid askR; rw [if_neg hi]
    clear h
    go_enter Tryz.func84, Tryz.ntmps84
    go_wp2_with fail
    refine (Up_any w c rb evv fv av room es acc most knowns H.out i).mono ?_
    rintro e w1 ⟨rfl, hw1⟩
    subst hw1
    rw [if_neg hi]
    go_wp2
    go_ret2
    exact ⟨ByteArray.empty, by rw [Hask.out]; rfl, by rw [Hask.out]; rfl, Below.refl _ _⟩


theorem step_append_own {P : Program} {ops : Array Oper} {o : Oper} {a : Act} {w : World} {K : Act → World → Prop} {Q : Exit → Act → World → Prop} {E : Prop}
    (hg : o.guard = none) (s x : Operand) (t : TypeId) (hop : o.op = Op.call { callee := Callee.builtin Builtin.append, args := #[s, x], argTypes := #[t, t] })
    (base : Nat) (e : TypeId) (i : TypeInfo) (z : Value) (size bytes : Nat) (h1 : P.underlying t = some (.slice e)) (h2 : P.info? e = some i) (h3 : i.zero = some z) (h4 : i.size = size) (h5 : i.bytes = bytes) (h6 : z.cells.size = size) (h7 : 0 < size)
    (v : Value) (n : Nat) (xs : List Value) (hs : a.eval s = v) (hown : w.ownsRow base e size v n xs)
    (ad : Addr) (m c : Nat) (news : List Value) (hx : a.eval x = .slice (some ad) m c) (hn : news.length = m * size) (hc : ∀ j u, news[j]? = some u → w.cell? (ad.add j) = some u) (h1c : ∀ u ∈ news, u.oneCell' = true)
    (b1 : n + m ≤ maxLen) (b2 : (n + m) * bytes ≤ 140737488355328) (hbase : base ≤ w.heap.size)
    (hK : ∀ v' w', w'.ownsRow base e size v' (n + m) (xs ++ news) → w.grownBy w' v.ownBlock → K (a.put o.dst v') w') :
    if Region.wanted o (yielded ops a.tmps) = true then Oper.wp P o a w K Q else E := by
  have hw : Region.wanted o (yielded ops a.tmps) = true := by simp [Region.wanted, hg]
  rw [if_pos hw]
  obtain ⟨v', w', hrun, r1, r2, _⟩ := run_append_own (P := P) w base t o.type e i z size bytes h1 h2 h3 h4 h5 h6 h7 v n xs hown ad m c news hn hc h1c b1 b2 hbase
  unfold Oper.wp
  simp [execOp, hop, resolve, invoke, builtin, hs, hx, hrun, Result.andThen]
  exact hK v' w' r1 r2

theorem step_append_own_none {P : Program} {ops : Array Oper} {o : Oper} {a : Act} {w : World} {K : Act → World → Prop} {Q : Exit → Act → World → Prop} {E : Prop}
    (hg : o.guard = none) (s x : Operand) (t : TypeId) (hop : o.op = Op.call { callee := Callee.builtin Builtin.append, args := #[s, x], argTypes := #[t, t] })
    (base : Nat) (e : TypeId) (i : TypeInfo) (size : Nat) (h1 : P.underlying t = some (.slice e)) (h2 : P.info? e = some i)
    (v : Value) (n : Nat) (xs : List Value) (hs : a.eval s = v) (hown : w.ownsRow base e size v n xs) (hx : a.eval x = .slice none 0 0)
    (hK : K (a.put o.dst v) w) : if Region.wanted o (yielded ops a.tmps) = true then Oper.wp P o a w K Q else E := by
  have hw : Region.wanted o (yielded ops a.tmps) = true := by simp [Region.wanted, hg]
  rw [if_pos hw]
  have hrun := run_append_owned_none (P := P) (w := w) base t o.type e i size h1 h2 v n xs hown
  unfold Oper.wp
  simp [execOp, hop, resolve, invoke, builtin, hs, hx, hrun, Result.andThen]
  exact hK

theorem step_append_new {P : Program} {ops : Array Oper} {o : Oper} {a : Act} {w : World} {K : Act → World → Prop} {Q : Exit → Act → World → Prop} {E : Prop}
    (hg : o.guard = none) (s x : Operand) (t : TypeId) (hop : o.op = Op.call { callee := Callee.builtin Builtin.append, args := #[s, x], argTypes := #[t, t] })
    (base : Nat) (e : TypeId) (i : TypeInfo) (z : Value) (size bytes : Nat) (h1 : P.underlying t = some (.slice e)) (h2 : P.info? e = some i) (h3 : i.zero = some z) (h4 : i.size = size) (h5 : i.bytes = bytes) (h6 : z.cells.size = size) (h7 : 0 < size)
    (v : Value) (n : Nat) (xs : List Value) (hs : a.eval s = v) (hown : w.ownsRow base e size v n xs)
    (ad : Addr) (m c : Nat) (news : List Value) (hx : a.eval x = .slice (some ad) m c) (hn : news.length = m * size) (hc : ∀ j u, news[j]? = some u → w.cell? (ad.add j) = some u) (h1c : ∀ u ∈ news, u.oneCell' = true)
    (b1 : n + m ≤ maxLen) (b2 : (n + m) * bytes ≤ 140737488355328) (hpos : 0 < n + m) (W0 : World) (hW : Below base W0 w) (hbase : base ≤ W0.heap.size)
    (hK : ∀ g cap w', w'.ownsRow base e size (.slice (some ⟨g, 0, none⟩) (n + m) cap) (n + m) (xs ++ news) → Below base W0 w' → K (a.put o.dst (.slice (some ⟨g, 0, none⟩) (n + m) cap)) w') :
    if Region.wanted o (yielded ops a.tmps) = true then Oper.wp P o a w K Q else E := by
  have hb2 : base ≤ w.heap.size := Nat.le_trans hbase hW.size
  refine step_append_own hg s x t hop base e i z size bytes h1 h2 h3 h4 h5 h6 h7 v n xs hs hown ad m c news hx hn hc h1c b1 b2 hb2 ?_
  intro v' w' ho hgr
  have ho2 := ho
  obtain ⟨_, h | ⟨g, cap, cur, rfl, _⟩⟩ := ho2
  · omega
  · exact hK g cap w' ho (hW.grown hgr hb2 (fun k hk => (hown.lt k hk).1))

theorem step_append_below {P : Program} {ops : Array Oper} {o : Oper} {a : Act} {w : World} {K : Act → World → Prop} {Q : Exit → Act → World → Prop} {E : Prop}
    (hg : o.guard = none) (s x : Operand) (t : TypeId) (hop : o.op = Op.call { callee := Callee.builtin Builtin.append, args := #[s, x], argTypes := #[t, t] })
    (base : Nat) (e : TypeId) (i : TypeInfo) (z : Value) (size bytes : Nat) (h1 : P.underlying t = some (.slice e)) (h2 : P.info? e = some i) (h3 : i.zero = some z) (h4 : i.size = size) (h5 : i.bytes = bytes) (h6 : z.cells.size = size) (h7 : 0 < size)
    (v : Value) (n : Nat) (xs : List Value) (hs : a.eval s = v) (hown : w.ownsRow base e size v n xs)
    (ad : Addr) (m c : Nat) (news : List Value) (hx : a.eval x = .slice (some ad) m c) (hn : news.length = m * size) (h1c : ∀ u ∈ news, u.oneCell' = true)
    (b1 : n + m ≤ maxLen) (b2 : (n + m) * bytes ≤ 140737488355328) (W0 : World) (hW : Below base W0 w) (hbase : base ≤ W0.heap.size) (hc : ∀ wx, Below base W0 wx → ∀ j u, news[j]? = some u → wx.cell? (ad.add j) = some u)
    (hK : ∀ v' w', w'.ownsRow base e size v' (n + m) (xs ++ news) → Below base W0 w' → w.heap.size ≤ w'.heap.size → (∀ b o, b < w.heap.size → v.ownBlock ≠ some b → w'.cell? ⟨b, o, none⟩ = w.cell? ⟨b, o, none⟩) → K (a.put o.dst v') w') :
    if Region.wanted o (yielded ops a.tmps) = true then Oper.wp P o a w K Q else E := by
  have hb2 : base ≤ w.heap.size := Nat.le_trans hbase hW.size
  refine step_append_own hg s x t hop base e i z size bytes h1 h2 h3 h4 h5 h6 h7 v n xs hs hown ad m c news hx hn (hc w hW) h1c b1 b2 hb2 ?_
  intro v' w' ho hgr
  exact hK v' w' ho (hW.grown hgr hb2 (fun k hk => (hown.lt k hk).1)) hgr.size (fun b o hb hne => World.cell?_of_block (w := w) (hgr.block b hb (fun e => hne e.symm)))

theorem ownsRow_base {w : World} {base base' : Nat} {e : TypeId} {size : Nat} {v : Value} {n : Nat} {xs : List Value} (h : w.ownsRow base e size v n xs) (hb : base' ≤ base) : w.ownsRow base' e size v n xs := by
  obtain ⟨h1, h2 | ⟨g, cap, cur, hv, hg, r⟩⟩ := h
  · exact ⟨h1, Or.inl h2⟩
  · exact ⟨h1, Or.inr ⟨g, cap, cur, hv, Nat.le_trans hb hg, r⟩⟩

theorem step_append_row {P : Program} {ops : Array Oper} {o : Oper} {a : Act} {w : World} {K : Act → World → Prop} {Q : Exit → Act → World → Prop} {E : Prop}
    (hg : o.guard = none) (s x : Operand) (t : TypeId) (hop : o.op = Op.call { callee := Callee.builtin Builtin.append, args := #[s, x], argTypes := #[t, t] })
    (e : TypeId) (i : TypeInfo) (z : Value) (size bytes : Nat) (h1 : P.underlying t = some (.slice e)) (h2 : P.info? e = some i) (h3 : i.zero = some z) (h4 : i.size = size) (h5 : i.bytes = bytes) (h6 : z.cells.size = size) (h7 : 0 < size)
    (v : Value) (n : Nat) (xs : List Value) (hs : a.eval s = v) (hown : w.ownsRow 0 e size v n xs)
    (ad : Addr) (m c : Nat) (news : List Value) (hx : a.eval x = .slice (some ad) m c) (hn : news.length = m * size) (hc : ∀ j u, news[j]? = some u → w.cell? (ad.add j) = some u) (h1c : ∀ u ∈ news, u.oneCell' = true)
    (b1 : n + m ≤ maxLen) (b2 : (n + m) * bytes ≤ 140737488355328) (hpos : 0 < n + m)
    (hK : ∀ g cap w', w'.ownsRow 0 e size (.slice (some ⟨g, 0, none⟩) (n + m) cap) (n + m) (xs ++ news) → w.grownBy w' v.ownBlock → (v.ownBlock = some g ∨ w.heap.size ≤ g) → K (a.put o.dst (.slice (some ⟨g, 0, none⟩) (n + m) cap)) w') :
    if Region.wanted o (yielded ops a.tmps) = true then Oper.wp P o a w K Q else E := by
  have wide : ∀ w', w.grownBy w' none → w.grownBy w' v.ownBlock := fun w' h => ⟨h.os, h.tape, h.output, h.size, fun k hk _ => h.block k hk (by simp)⟩
  have fin : ∀ v' w', w'.ownsRow w.heap.size e size v' (n + m) (xs ++ news) → w.grownBy w' none → K (a.put o.dst v') w' := by
    intro v' w' ho hgr
    have ho2 := ho
    obtain ⟨_, h | ⟨g, cap, cur, rfl, hgb, _⟩⟩ := ho2
    · omega
    · exact hK g cap w' (ownsRow_base ho (Nat.zero_le _)) (wide w' hgr) (Or.inr hgb)
  have ho := hown
  obtain ⟨hx1, ⟨hv, hn0⟩ | ⟨g, cap, cur, hv, hgb, hh, hnc, hcm, hcs, htk⟩⟩ := ho
  · subst hv
    subst hn0
    have hxs : xs = [] := List.eq_nil_of_length_eq_zero (by rw [hx1]; simp)
    subst hxs
    exact step_append_grows hg s x t hop e i z size bytes h1 h2 h3 h4 h5 h6 h7 none 0 0 [] hs (fun _ => ⟨rfl, rfl⟩) (by simp) (fun b hb => by cases hb) ad m c news hx hn hc h1c (by omega) b1 b2 fin
  · subst hv
    by_cases hroom : n + m ≤ cap
    · have hw : Region.wanted o (yielded ops a.tmps) = true := by simp [Region.wanted, hg]
      rw [if_pos hw]
      obtain ⟨w', hrun, r1, r2⟩ := run_append_fits (P := P) w 0 t o.type e i size h1 h2 h4 g n cap xs hown ad m c news hn hc h1c hroom
      unfold Oper.wp
      simp [execOp, hop, resolve, invoke, builtin, hs, hx, hrun, Result.andThen]
      exact hK g cap w' r1 r2 (Or.inl rfl)
    · refine step_append_grows hg s x t hop e i z size bytes h1 h2 h3 h4 h5 h6 h7 (some ⟨g, 0, none⟩) n cap xs hs (fun h => by cases h) hx1 ?_ ad m c news hx hn hc h1c (by omega) b1 b2 fin
      intro b hb j u hj
      cases hb
      exact hown.cells rfl j u hj


theorem SliceT.chgT {t s : TypeId} {b : Nat} {w w' : World} {v : Value} {xs : List Value} (h : SliceT t w v xs) (hc : Chg (· = b) w w') (hb : Tagged w b s) (hne : t ≠ s) : SliceT t w' v xs :=
  h.chg hc fun c hcT e => (hcT.ne hb hne) e

theorem RepAt.keep {w w' : World} {rb off : Nat} {known : List Bool} {most most' : Nat} (h : RepAt w rb off known most) (hm : most ≤ most') (hS : ∀ t v xs, (t = 4 ∨ t = 3) → SliceT t w v xs → SliceT t w' v xs)
    (hcell : ∀ i, i < 13 → w'.cell? ⟨rb, off + i, none⟩ = w.cell? ⟨rb, off + i, none⟩) : RepAt w' rb off known most' := by
  obtain ⟨⟨kv, a0, b0⟩, a1, a7, ⟨m9, a9, b9⟩, ⟨kp, kl, a10, b10, d10⟩, ⟨m12, a12, b12⟩, hz⟩ := h
  exact ⟨⟨kv, (hcell 0 (by omega)).trans a0, hS _ _ _ (Or.inl rfl) b0⟩, (hcell 1 (by omega)).trans a1, (hcell 7 (by omega)).trans a7, ⟨m9, (hcell 9 (by omega)).trans a9, by omega⟩, ⟨kp, kl, (hcell 10 (by omega)).trans a10, hS _ _ _ (Or.inr rfl) b10, d10⟩, ⟨m12, (hcell 12 (by omega)).trans a12, by omega⟩, hz.of (fun i hi => hcell i (by omega))⟩

theorem RefAt.upd {w w' : World} {c rb : Nat} {evv fv : Value} {av : Nat → Value} {room : Nat} {es : List Ev} {acc most : Nat} {knowns : List (List Bool)} (h : RefAt w c rb evv fv av room es acc most knowns) (hc : Chg (· = rb) w w') (ht : Tagged w' rb 147)
    (hmost : most + 1 ≤ 1000) (k : Nat) (hk : k < knowns.length) (more : List Bool) (hml : more.length ≤ es.length) (hrep : RepAt w' rb (k * 13) more (most + 1))
    (hoth : ∀ j, j ≠ k → ∀ i, i < 13 → w'.cell? ⟨rb, j * 13 + i, none⟩ = w.cell? ⟨rb, j * 13 + i, none⟩) (h11 : w'.cell? ⟨rb, k * 13 + 11, none⟩ = w.cell? ⟨rb, k * 13 + 11, none⟩) : RefAt w' c rb evv fv av room es acc (most + 1) (knowns.set k more) := by
  have hne : c ≠ rb := h.tc.ne h.trb (by decide)
  have hcc : ∀ i, w'.cell? ⟨c, i, none⟩ = w.cell? ⟨c, i, none⟩ := fun i => World.cell?_of_block (w := w) (hc.block c h.tc.lt hne)
  have hS : ∀ t v xs, (t = 4 ∨ t = 3) → SliceT t w v xs → SliceT t w' v xs := fun t v xs ht hs => hs.chgT hc h.trb (by rcases ht with rfl | rfl <;> decide)
  obtain ⟨cap, f1, hcap⟩ := h.f1
  obtain ⟨svs, e1, e2, e3⟩ := h.evs
  refine ⟨h.tc.chg hc hne, ht, h.room50, by simpa using h.n6, h.n500, (hcc 0).trans h.f0, ⟨cap, by rw [hcc 1, f1]; simp, by simpa using hcap⟩, (hcc 2).trans h.f2, (hcc 3).trans h.f3, h.a500, hmost, ⟨svs, e1, ?_, fun j h1 h2 => hS _ _ _ (Or.inl rfl) (e3 j h1 h2)⟩, h.ok, ?_, ?_, (hcc 4).trans h.f4, fun i hi => ?_⟩
  · refine ownsRow_chg e2 hc ?_
    intro g hg e
    obtain ⟨hx, h1 | ⟨g', cap', cur, rfl, _, hh, _⟩⟩ := e2
    · rw [h1.1] at hg; cases hg
    · cases hg; exact (Tagged.ne ⟨cur, hh⟩ h.trb (by decide)) e
  · intro i hi
    simp only [List.length_set] at hi
    by_cases e : i = k
    · subst e; rw [List.getElem_set_self]; exact hrep
    · rw [List.getElem_set_ne (fun h => e h.symm)]
      exact (h.reps i hi).keep (by omega) hS (fun j hj => hoth i e j hj)
  · intro x hx
    rcases List.mem_or_eq_of_mem_set hx with h1 | h1
    · exact h.kn x h1
    · rw [h1]; exact hml
  · have hi' : i < knowns.length := by simpa using hi
    by_cases e : i = k
    · subst e; exact h11.trans (h.a11 i hi')
    · exact (hoth i e 11 (by omega)).trans (h.a11 i hi')

theorem own_lit0 {e : TypeId} {base : Nat} (w : World) (g : Nat) (hg : g = w.heap.size) (hb : base ≤ w.heap.size) : (w.alloc (.cells #[] e)).ownsRow base e 1 (.slice (some ⟨g, 0, none⟩) 0 0) 0 [] := by
  subst hg; exact World.ownsRow_lit w #[] 0 hb (by decide) rfl

theorem write_fin {w w' : World} {c rb : Nat} {evv fv : Value} {av : Nat → Value} {room : Nat} {es : List Ev} {acc most : Nat} {knowns : List (List Bool)} (h : RefAt w c rb evv fv av room es acc most knowns) (k : Nat) (hk : k < knowns.length)
    (mv : Value) (more : List Bool) (hmv : SliceT 4 w mv (bools more)) (hml : more.length ≤ es.length) (hmost : most + 1 ≤ 1000) (hc : Chg (· = rb) w w') (ht : Tagged w' rb 147)
    (e0 : w'.cell? ⟨rb, k * 13, none⟩ = some mv) (m9 : Nat) (h9 : m9 ≤ most) (e9 : w'.cell? ⟨rb, k * 13 + 9, none⟩ = some (.int .i64 ((m9 : Int) + 1))) (kp : Value) (kl : List Int) (e10 : w'.cell? ⟨rb, k * 13 + 10, none⟩ = some kp) (s10 : SliceT 3 w' kp (ints kl)) (l10 : kl.length ≤ 50)
    (m12 : Nat) (h12 : m12 ≤ most + 1) (e12 : w'.cell? ⟨rb, k * 13 + 12, none⟩ = some (.int .i64 (m12 : Int)))
    (hoth : ∀ o, o ≠ k * 13 → o ≠ k * 13 + 9 → o ≠ k * 13 + 10 → o ≠ k * 13 + 12 → w'.cell? ⟨rb, o, none⟩ = w.cell? ⟨rb, o, none⟩) : RefAt w' c rb evv fv av room es acc (most + 1) (knowns.set k more) := by
  have hr := h.reps k hk
  refine h.upd hc ht hmost k hk more hml ⟨⟨mv, e0, hmv.chgT hc h.trb (by decide)⟩, (hoth _ (by omega) (by omega) (by omega) (by omega)).trans hr.c1, (hoth _ (by omega) (by omega) (by omega) (by omega)).trans hr.c7, ⟨m9 + 1, by rw [e9]; simp, by omega⟩, ⟨kp, kl, e10, s10, l10⟩, ⟨m12, e12, h12⟩, hr.z.of (fun i hi => hoth _ (by omega) (by omega) (by omega) (by omega))⟩ ?_ (hoth _ (by omega) (by omega) (by omega) (by omega))
  intro j hj i hi
  exact hoth _ (by omega) (by omega) (by omega) (by omega)

theorem SliceT.tail1 {t : TypeId} {w : World} {g c n' : Nat} {a : Option Addr} {xs : List Value} (h : SliceT t w (.slice (some ⟨g, 0, none⟩) n' c) xs) (n c' : Nat) (hx : xs.length = n + 1) (ha : (a = some ⟨g, 0, none⟩ ∧ n = 0) ∨ a = some ⟨g, 1, none⟩) (hc' : n ≤ c') : SliceT t w (.slice a n c') xs.tail := by
  rcases h with ⟨h, _⟩ | ⟨b, off, cap, h1, h2, h3, h4⟩
  · cases h
  · simp only [Value.slice.injEq, Option.some.injEq, Addr.mk.injEq] at h1
    obtain ⟨⟨rfl, rfl, _⟩, rfl, rfl⟩ := h1
    right
    rcases ha with ⟨rfl, rfl⟩ | rfl
    · exact ⟨g, 0, c', by simp [hx], by simp [hx], h3, fun j hj => by simp [hx] at hj⟩
    · refine ⟨g, 1, c', by simp [hx], by simp [hx]; omega, h3, fun j hj => ?_⟩
      simp only [List.length_tail] at hj
      rw [List.getElem_tail, show 1 + j = 0 + (j + 1) by omega]; exact h4 (j + 1) (by omega)

theorem Tagged.drewN {w : World} {b : Nat} {t : TypeId} (h : Tagged w b t) (n : Nat) : Tagged (w.drewN n) b t := h
theorem Chg.drewN {M : Nat → Prop} {a w : World} (h : Chg M a w) (n : Nat) : Chg M a (w.drewN n) := h.below (below_drewN (Below.refl _ _) n)

theorem own_some {w : World} {B : Nat} {e : TypeId} {v : Value} {n size : Nat} {xs : List Value} (h : w.ownsRow B e size v n xs) (hn : 0 < n) : ∃ g cap, v = .slice (some ⟨g, 0, none⟩) n cap := by
  obtain ⟨_, h1 | ⟨g, cap, cur, h2, _⟩⟩ := h
  · omega
  · exact ⟨g, cap, h2⟩

set_option maxHeartbeats 4000000 in
set_option maxRecDepth 100000 in
theorem write_any (w : World) (c rb : Nat) (evv fv : Value) (av : Nat → Value) (room : Nat) (es : List Ev) (acc most : Nat) (knowns : List (List Bool)) (h : RefAt w c rb evv fv av room es acc most knowns) (k : Nat) (hk : k < knowns.length)
    (mv : Value) (more : List Bool) (hmv : SliceT 4 w mv (bools more)) (hml : more.length ≤ es.length) (hmost : most + 1 ≤ 1000) (own : Bool) :
    Calls Tryz.prog 143 #[.pointer (some ⟨c, 0, none⟩), .int .i64 (k : Int), mv, .bool own] w fun e w' => e = .returned (.bool true) ∧ RefAt w' c rb evv fv av room es acc (most + 1) (knowns.set k more) ∧ Chg (· = rb) w w' := by
  obtain ⟨cap, f1, hcap⟩ := h.f1
  have f0 := h.f0
  have hne : c ≠ rb := h.tc.ne h.trb (by decide)
  obtain ⟨⟨kv, a0, b0⟩, a1, a7, ⟨m9, a9, b9⟩, ⟨kp, kl, a10, b10, d10⟩, ⟨m12, a12, b12⟩, _⟩ := h.reps k hk
  have hfr : ∀ j, w.frozen? ⟨rb, j, none⟩ = false := h.trb.frozen
  have h6 := h.n6
  have hm5 := h.m500
  obtain ⟨mo, mc, rfl, hmc⟩ := hmv.shape
  have H : Hid (RefAt w c rb evv fv av room es acc most knowns) := h
  have Hmv : Hid (SliceT 4 w (.slice mo (bools more).length mc) (bools more)) := hmv
  have Hb10 : Hid (SliceT 3 w kp (ints kl)) := b10
  clear h hmv b10 b0
  obtain ⟨i0, hi, hz0, hz1, hz2⟩ := info_parts Tryz.info3
  go_enter Tryz.func143, Tryz.ntmps143
  go_wp2_with fail
  have hchg : Chg (· = rb) w ((w.setCell ⟨rb, k * 13, none⟩ (.slice mo (bools more).length mc)).setCell ⟨rb, k * 13 + 9, none⟩ (.int .i64 ((m9 : Int) + 1))) := Chg.setCell (p := ⟨rb, k * 13 + 9, none⟩) (Chg.setCell (p := ⟨rb, k * 13, none⟩) (Chg.refl (fun x => x = rb) w) rfl _) rfl _
  have q0 : ((w.setCell ⟨rb, k * 13, none⟩ (.slice mo (bools more).length mc)).setCell ⟨rb, k * 13 + 9, none⟩ (.int .i64 ((m9 : Int) + 1))).cell? ⟨rb, k * 13, none⟩ = some (.slice mo (bools more).length mc) := by
    exact (cs_oth (Or.inr (by omega))).trans (cs_same a0)
  have q9 : ((w.setCell ⟨rb, k * 13, none⟩ (.slice mo (bools more).length mc)).setCell ⟨rb, k * 13 + 9, none⟩ (.int .i64 ((m9 : Int) + 1))).cell? ⟨rb, k * 13 + 9, none⟩ = some (.int .i64 ((m9 : Int) + 1)) := cs_same ((cs_oth (Or.inr (by omega))).trans a9)
  have qo : ∀ o, o ≠ k * 13 → o ≠ k * 13 + 9 → ((w.setCell ⟨rb, k * 13, none⟩ (.slice mo (bools more).length mc)).setCell ⟨rb, k * 13 + 9, none⟩ (.int .i64 ((m9 : Int) + 1))).cell? ⟨rb, o, none⟩ = w.cell? ⟨rb, o, none⟩ := fun o h1 h2 => by
    exact (cs_oth (Or.inr (by omega))).trans (cs_oth (Or.inr (by omega)))
  have qt : Tagged ((w.setCell ⟨rb, k * 13, none⟩ (.slice mo (bools more).length mc)).setCell ⟨rb, k * 13 + 9, none⟩ (.int .i64 ((m9 : Int) + 1))) rb 147 := (H.out.trb.setCell _ _).setCell _ _
  have qc : ∀ i, ((w.setCell ⟨rb, k * 13, none⟩ (.slice mo (bools more).length mc)).setCell ⟨rb, k * 13 + 9, none⟩ (.int .i64 ((m9 : Int) + 1))).cell? ⟨c, i, none⟩ = w.cell? ⟨c, i, none⟩ := fun i => World.cell?_of_block (w := w) (hchg.block c H.out.tc.lt hne)
  generalize ((w.setCell ⟨rb, k * 13, none⟩ (.slice mo (bools more).length mc)).setCell ⟨rb, k * 13 + 9, none⟩ (.int .i64 ((m9 : Int) + 1))) = WB at *
  have q10 := (qo (k * 13 + 10) (by omega) (by omega)).trans a10
  have q12 := (qo (k * 13 + 12) (by omega) (by omega)).trans a12
  have g0 := (qc 0).trans f0
  have qf := qt.frozen
  have Hqo : Hid (∀ o, o ≠ k * 13 → o ≠ k * 13 + 9 → WB.cell? ⟨rb, o, none⟩ = w.cell? ⟨rb, o, none⟩) := qo
  have hcw := H.out.tc.lt
  have hcB : c < WB.heap.size := Nat.lt_of_lt_of_le hcw hchg.size
  have hrB : rb < WB.heap.size := qt.lt
  have Hkp : Hid (SliceT 3 WB kp (ints kl)) := Hb10.out.chgT hchg H.out.trb (by decide)
  have hkpl : (ints kl).length = kl.length := by simp [ints]
  clear qo qc f0 f1 a0 a7 a9 a10 a12 hfr Hb10
  go_cut [] from 80 to 94 (fun wx => ∃ w2 v, wx = w2.setCell ⟨rb, k * 13 + 10, none⟩ v ∧ Below WB.heap.size WB w2 ∧ w2.ownsRow WB.heap.size 3 1 v (kl.length + 1) (ints kl ++ [.int .i64 ((m9 : Int) + 1)]))
  case first =>
    rcases Hkp.out with ⟨rfl, hnil⟩ | ⟨pb, po, pc, rfl, hpc, hpt, hpcells⟩
    · have hkn : kl = [] := by simpa [ints] using hnil
      subst hkn
      have hone1 : Hid (∀ u ∈ [Value.int .i64 ((m9 : Int) + 1)], u.oneCell' = true) := by intro u hu; simp at hu; subst hu; rfl
      have e1 : Hid (0 + 1 ≤ maxLen) := by unfold Hid maxLen; omega
      have e2 : Hid ((0 + 1) * 8 ≤ 140737488355328) := by unfold Hid; omega
      go_region_law (first | (refine step_append_own_none rfl (.tmp 81) (.tmp 85) 42 rfl WB.heap.size 3 i0 1 Tryz.underlying42 hi (.slice (some ⟨_, 0, none⟩) 0 0) 0 [] rfl ?_ rfl ?_; (first | (refine own_lit0 _ _ ?_ ?_ <;> (simp; done)) | (refine World.ownsRow.alloc (own_lit0 _ _ ?_ ?_) _ <;> (simp; done)) | (refine own_lit0 _ _ ?_ ?_ <;> (simp <;> omega)) | (refine World.ownsRow.alloc (own_lit0 _ _ ?_ ?_) _ <;> (simp <;> omega)))) | (refine step_append_new rfl (.tmp 86) (.tmp 91) 42 rfl WB.heap.size 3 i0 (.int .i64 0) 1 8 Tryz.underlying42 hi hz0 hz1 hz2 rfl (by decide) (.slice (some ⟨_, 0, none⟩) 0 0) 0 [] rfl ?_ _ 1 1 [.int .i64 ((m9 : Int) + 1)] rfl rfl ?_ hone1.out e1.out e2.out Nat.one_pos WB ?_ (Nat.le_refl _) ?_; (first | (refine own_lit0 _ _ ?_ ?_ <;> (simp; done)) | (refine World.ownsRow.alloc (own_lit0 _ _ ?_ ?_) _ <;> (simp; done)) | (refine own_lit0 _ _ ?_ ?_ <;> (simp <;> omega)) | (refine World.ownsRow.alloc (own_lit0 _ _ ?_ ?_) _ <;> (simp <;> omega))); (intro j u hj; match j, hj with | 0, hj => (cases hj; first | rfl | (simp [Addr.add]; done) | (simp [Addr.add]; refine (hcw5 _ 0 ?_ ?_).trans ?_; (first | (simp only [World.size_drew, World.size_alloc]; omega) | omega); (simp [Value.ownBlock]); (first | rfl | (simp; done) | (simp [go_sem]; done))))); (go_grown); intro g6 c6 w6 hown6 hB6; have s10 := (hB6.cell (p := ⟨rb, k * 13 + 10, none⟩) hrB).trans q10; have sf := fun j => (hB6.frozen (p := ⟨rb, j, none⟩) hrB).trans (qf j)))
      all_goals go_wp2_with fail
      all_goals go_meet
      all_goals exact ⟨_, _, rfl, hB6, hown6⟩
    · have hW : Hid (∀ wx, Below WB.heap.size WB wx → ∀ j u, (ints kl)[j]? = some u → wx.cell? ((⟨pb, po, none⟩ : Addr).add j) = some u) := by
        intro wx hwx j u hj
        have hjl : j < (ints kl).length := by
          rcases Nat.lt_or_ge j (ints kl).length with h | h
          · exact h
          · rw [List.getElem?_eq_none h] at hj; cases hj
        have he : (⟨pb, po, none⟩ : Addr).add j = ⟨pb, po + j, none⟩ := by unfold Addr.add; split <;> simp_all
        rw [he, hwx.cell (p := ⟨pb, po + j, none⟩) hpt.lt, hpcells j hjl]
        rw [List.getElem?_eq_getElem hjl] at hj; exact hj
      have hone : Hid (∀ u ∈ ints kl, u.oneCell' = true) := by intro u hu; simp [ints] at hu; obtain ⟨a, _, rfl⟩ := hu; rfl
      clear hpcells
      rw [hkpl] at *
      have hone1 : Hid (∀ u ∈ [Value.int .i64 ((m9 : Int) + 1)], u.oneCell' = true) := by intro u hu; simp at hu; subst hu; rfl
      have e1 : Hid (0 + kl.length ≤ maxLen) := by unfold Hid maxLen; omega
      have e2 : Hid ((0 + kl.length) * 8 ≤ 140737488355328) := by unfold Hid; omega
      have e3 : Hid (0 + kl.length + 1 ≤ maxLen) := by unfold Hid maxLen; omega
      have e4 : Hid ((0 + kl.length + 1) * 8 ≤ 140737488355328) := by unfold Hid; omega
      have e5 : Hid (0 < 0 + kl.length + 1) := by unfold Hid; omega
      have e6 : Hid ((ints kl).length = kl.length * 1) := by unfold Hid; simp [ints]
      go_region_law (first | (refine step_append_below rfl (.tmp 81) (.tmp 85) 42 rfl WB.heap.size 3 i0 (.int .i64 0) 1 8 Tryz.underlying42 hi hz0 hz1 hz2 rfl (by decide) (.slice (some ⟨_, 0, none⟩) 0 0) 0 [] rfl ?_ _ kl.length _ (ints kl) rfl e6.out hone.out e1.out e2.out WB ?_ (Nat.le_refl _) hW.out ?_; (first | (refine own_lit0 _ _ ?_ ?_ <;> (simp; done)) | (refine World.ownsRow.alloc (own_lit0 _ _ ?_ ?_) _ <;> (simp; done)) | (refine own_lit0 _ _ ?_ ?_ <;> (simp <;> omega)) | (refine World.ownsRow.alloc (own_lit0 _ _ ?_ ?_) _ <;> (simp <;> omega))); (go_grown); intro v5 w5 hown5 hB5 hsz5 hcw5; have s9 := (hB5.cell (p := ⟨rb, k * 13 + 9, none⟩) hrB).trans q9) | (refine step_append_new rfl (.tmp 86) (.tmp 91) 42 rfl WB.heap.size 3 i0 (.int .i64 0) 1 8 Tryz.underlying42 hi hz0 hz1 hz2 rfl (by decide) _ (0 + kl.length) ([] ++ ints kl) rfl ?_ _ 1 1 [.int .i64 ((m9 : Int) + 1)] rfl rfl ?_ hone1.out e3.out e4.out e5.out WB ?_ (Nat.le_refl _) ?_; (first | exact hown5 | exact hown5.alloc _); (intro j u hj; match j, hj with | 0, hj => (cases hj; first | rfl | (simp [Addr.add]; done) | (simp [Addr.add]; refine (hcw5 _ 0 ?_ ?_).trans ?_; (first | (simp only [World.size_drew, World.size_alloc]; omega) | omega); (simp [Value.ownBlock]); (first | rfl | (simp; done) | (simp [go_sem]; done))))); (first | exact hB5 | exact hB5.alloc hB5.size _); intro g6 c6 w6 hown6 hB6; have s10 := (hB6.cell (p := ⟨rb, k * 13 + 10, none⟩) hrB).trans q10; have sf := fun j => (hB6.frozen (p := ⟨rb, j, none⟩) hrB).trans (qf j)))
      all_goals go_wp2_with fail
      all_goals go_meet
      all_goals exact ⟨_, _, rfl, hB6, by simpa using hown6⟩
  case rest =>
  obtain ⟨w2, v, rfl, hb2, hown2⟩ := hcut
  obtain ⟨g2, c2, rfl⟩ := own_some hown2 (by omega)
  have t10 := (hb2.cell (p := ⟨rb, k * 13 + 10, none⟩) hrB).trans q10
  have t12 := (hb2.cell (p := ⟨rb, k * 13 + 12, none⟩) hrB).trans q12
  have tc0 := (hb2.cell (p := ⟨c, 0, none⟩) hcB).trans g0
  have tf : ∀ j, w2.frozen? ⟨rb, j, none⟩ = false := fun j => (hb2.frozen (p := ⟨rb, j, none⟩) hrB).trans (qf j)
  have u0 : Hid (w2.cell? ⟨rb, k * 13, none⟩ = some (.slice mo (bools more).length mc)) := (hb2.cell (p := ⟨rb, k * 13, none⟩) hrB).trans q0
  have u9 : Hid (w2.cell? ⟨rb, k * 13 + 9, none⟩ = some (.int .i64 ((m9 : Int) + 1))) := (hb2.cell (p := ⟨rb, k * 13 + 9, none⟩) hrB).trans q9
  have uo : Hid (∀ o, o ≠ k * 13 → o ≠ k * 13 + 9 → w2.cell? ⟨rb, o, none⟩ = w.cell? ⟨rb, o, none⟩) := fun o h1 h2 => (hb2.cell (p := ⟨rb, o, none⟩) hrB).trans (Hqo.out o h1 h2)
  have ut : Hid (Tagged w2 rb 147) := qt.below hb2
  have uchg : Hid (Chg (fun x => x = rb) w w2) := hchg.below hb2
  have us : Hid (SliceT 3 w2 (.slice (some ⟨g2, 0, none⟩) (kl.length + 1) c2) (ints (kl ++ [(m9 : Int) + 1]))) := by
    have := own_sliceT hown2; unfold Hid; simpa [ints] using this
  have hc2 : kl.length + 1 ≤ c2 := by
    obtain ⟨ao, cp, e1, e2⟩ := us.out.shape
    simp only [Value.slice.injEq] at e1
    obtain ⟨_, _, rfl⟩ := e1
    simpa [ints] using e2
  have room50 := H.out.room50
  clear hb2 hown2 Hqo qt q0 q9 q10 q12 qf g0 hchg Hkp
  by_cases hgt : room < kl.length + 1
  · have hcell10 : (w2.setCell ⟨rb, k * 13 + 10, none⟩ (.slice (some ⟨g2, 0, none⟩) (kl.length + 1) c2)).cell? ⟨rb, k * 13 + 10, none⟩ = some (.slice (some ⟨g2, 0, none⟩) (kl.length + 1) c2) := cs_same t10
    have h1c : 1 ≤ c2 := by omega
    have hm12 : m12 ≤ 1000 := by omega
    go_wp2_with fail
    go_quiet (fail)
    go_wp2
    all_goals
      go_ret
      refine ⟨rfl, ?_, ?_⟩
      · refine write_fin H.out k hk _ more Hmv.out hml hmost ((((uchg.out.setCell (p := ⟨rb, k * 13 + 10, none⟩) rfl _).setCell (p := ⟨rb, k * 13 + 10, none⟩) rfl _).setCell (p := ⟨rb, k * 13 + 12, none⟩) rfl _).drewN _) ((((ut.out.setCell _ _).setCell _ _).setCell _ _).drewN _) ?_ m9 b9 ?_ _ (kl ++ [(m9 : Int) + 1]).tail ((cs_oth (Or.inr (by omega))).trans (cs_same (cs_same t10))) ?_ (by simp; omega) (m12 + 1) (by omega) ?_ ?_
        · exact (cs_oth (Or.inr (by omega))).trans ((cs_oth (Or.inr (by omega))).trans ((cs_oth (Or.inr (by omega))).trans u0.out))
        · exact (cs_oth (Or.inr (by omega))).trans ((cs_oth (Or.inr (by omega))).trans ((cs_oth (Or.inr (by omega))).trans u9.out))
        · refine SliceT.chgT (b := rb) (w := w2) ?_ (((((Chg.refl (fun x => x = rb) _).setCell (p := ⟨rb, k * 13 + 10, none⟩) rfl _).setCell (p := ⟨rb, k * 13 + 10, none⟩) rfl _).setCell (p := ⟨rb, k * 13 + 12, none⟩) rfl _).drewN _) ut.out (by decide)
          rw [show ints (kl ++ [(m9 : Int) + 1]).tail = (ints (kl ++ [(m9 : Int) + 1])).tail from by cases kl <;> rfl]
          refine us.out.tail1 kl.length _ ?_ ?_ ?_
          · simp [ints]
          · first | (right; rfl) | (left; exact ⟨rfl, by omega⟩)
          · omega
        · refine (cs_same ((cs_oth (Or.inr (by omega))).trans ((cs_oth (Or.inr (by omega))).trans t12))).trans ?_
          simp
        · intro o h1 h2 h3 h4
          exact (cs_oth (Or.inr (by omega))).trans ((cs_oth (Or.inr (by omega))).trans ((cs_oth (Or.inr (by omega))).trans (uo.out o h1 h2)))
      · exact (((uchg.out.setCell (p := ⟨rb, k * 13 + 10, none⟩) rfl _).setCell (p := ⟨rb, k * 13 + 10, none⟩) rfl _).setCell (p := ⟨rb, k * 13 + 12, none⟩) rfl _).drewN _
  · go_wp2_with fail
    go_quiet (fail)
    go_wp2
    go_ret
    refine ⟨rfl, ?_, ?_⟩
    · refine write_fin H.out k hk _ more Hmv.out hml hmost ((uchg.out.setCell (p := ⟨rb, k * 13 + 10, none⟩) rfl _).drewN _) ((ut.out.setCell _ _).drewN _) ?_ m9 b9 ?_ _ (kl ++ [(m9 : Int) + 1]) (cs_same t10) ?_ (by simp; omega) m12 (by omega) ?_ ?_
      · exact (cs_oth (Or.inr (by omega))).trans u0.out
      · exact (cs_oth (Or.inr (by omega))).trans u9.out
      · exact us.out.chgT (b := rb) (((Chg.refl (fun x => x = rb) _).setCell (p := ⟨rb, k * 13 + 10, none⟩) rfl _).drewN _) ut.out (by decide)
      · exact (cs_oth (Or.inr (by omega))).trans t12
      · intro o h1 h2 h3 h4
        exact (cs_oth (Or.inr (by omega))).trans (uo.out o h1 h2)
    · exact (uchg.out.setCell (p := ⟨rb, k * 13 + 10, none⟩) rfl _).drewN _

end Go.Proofs.YtoiiaankpnhppaaGreatDoor

namespace Go.Proofs.YtoiiaankpnhppaaGreatDoor.Thk

theorem splitAcc_len (c : UInt8) : ∀ (l cur : Bs), ((splitAcc c cur l).map List.length).sum + (splitAcc c cur l).length = cur.length + l.length + 1 := by
  intro l
  induction l with
  | nil => intro cur; simp [splitAcc]
  | cons x r ih =>
    intro cur
    unfold splitAcc
    split
    · have := ih []
      simp at this ⊢; omega
    · have := ih (cur ++ [x])
      simp at this ⊢; omega
theorem sum_le (l : List Nat) (b : Nat) (h : ∀ x ∈ l, x ≤ b) : l.sum ≤ b * l.length := by
  induction l with
  | nil => simp
  | cons a r ih =>
    have h1 := h a (by simp)
    have h2 := ih (fun x hx => h x (by simp [hx]))
    simp only [List.sum_cons, List.length_cons, Nat.mul_succ]; omega
theorem path_len (l : Bs) (h : path l = true) : l.length ≤ 17 := by
  unfold path pathL at h
  simp only [Bool.and_eq_true, decide_eq_true_eq] at h
  have h3 := h.1.1
  have h5 : ∀ x ∈ (split 47 l).map List.length, x ≤ 5 := by
    intro x hx
    obtain ⟨y, hy, rfl⟩ := List.mem_map.1 hx
    have := List.all_eq_true.1 h.1.2 y hy
    unfold seg at this; simp at this; omega
  have hs := sum_le _ 5 h5
  have hl := splitAcc_len 47 l []
  rw [List.length_map] at hs
  unfold split at *
  simp at hl; omega
theorem numAbs_ok (neg : Bool) (l : Bs) (n : Int) (h : numAbs neg l = some n) : l.length ≤ 10 ∧ n ≤ 1000000000 ∧ -1000000000 ≤ n := by
  unfold numAbs at h
  by_cases hb : numBad neg l
  · rw [if_pos hb] at h; cases h
  · rw [if_neg hb] at h
    unfold numBad at hb
    simp only [Bool.or_eq_true, not_or, decide_eq_true_eq] at hb
    by_cases hc : (l.all isDig && decide (numv l ≤ 1000000000)) = true
    · rw [if_pos hc] at h
      simp only [Bool.and_eq_true, decide_eq_true_eq] at hc
      cases h
      refine ⟨by omega, ?_, ?_⟩ <;> (cases neg <;> simp <;> omega)
    · rw [if_neg hc] at h; cases h
theorem num_ok (l : Bs) (n : Int) (h : num l = some n) : l.length ≤ 11 ∧ n ≤ 1000000000 ∧ -1000000000 ≤ n := by
  unfold num at h
  by_cases hc : l.head? = some 45
  · rw [if_pos hc] at h
    have := numAbs_ok _ _ _ h
    simp at this; omega
  · rw [if_neg hc] at h
    have := numAbs_ok _ _ _ h
    omega
theorem read_ok (l : Bs) (c : Ch) (h : read l = .inr c) : c.path.length ≤ 17 ∧ c.val.length ≤ 11 ∧ c.n ≤ 1000000000 ∧ -1000000000 ≤ c.n ∧ path c.path = true := by
  unfold read at h
  by_cases h1 : l.findIdx isAct = l.length
  · rw [if_pos h1] at h; cases h
  · rw [if_neg h1] at h
    unfold readAt at h
    by_cases h2 : path (l.take (l.findIdx isAct)) = false
    · rw [if_pos h2] at h; cases h
    · rw [if_neg h2] at h
      have h2' : path (l.take (l.findIdx isAct)) = true := by simpa using h2
      by_cases h3 : fits (kindOf (l.take (l.findIdx isAct))) (l.getD (l.findIdx isAct) 0) = false
      · rw [if_pos h3] at h; cases h
      · rw [if_neg h3] at h
        have hp := path_len _ h2'
        generalize l.take (l.findIdx isAct) = p at *
        generalize l.drop (l.findIdx isAct + 1) = v at *
        generalize l.getD (l.findIdx isAct) 0 = a at *
        unfold operand at h
        split at h
        · split at h
          · rename_i hv
            cases h
            unfold val at hv; simp at hv
            exact ⟨hp, by simp; omega, by simp, by simp, h2'⟩
          · cases h
        · split at h
          · split at h
            · rename_i n hn
              cases h
              have := num_ok _ _ hn
              exact ⟨hp, by simp; omega, by simp; omega, by simp; omega, h2'⟩
            · cases h
          · split at h
            · rename_i hv
              cases h
              exact ⟨hp, by simp [hv], by simp, by simp, h2'⟩
            · cases h

theorem read_err (l : Bs) (m : Nat) (h : read l = .inl m) : 0 < m ∧ m ≤ 6 := by
  unfold read readAt operand at h
  repeat' split at h
  all_goals first | (cases h; omega) | (cases h; done)

end Go.Proofs.YtoiiaankpnhppaaGreatDoor.Thk

