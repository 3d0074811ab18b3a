import Derived.Test.YtoiiaankpnhppaaGreatDoorPart01
import Derived.Test.YtoiiaankpnhppaaGreatDoorPart02
set_option linter.unusedVariables false
set_option linter.unusedSimpArgs false
namespace Go.Proofs.YtoiiaankpnhppaaGreatDoor
open Go.RowKit

structure Chg (M : Nat → Prop) (w w' : World) : Prop where
  os : w'.os = w.os
  tape : w'.tape = w.tape
  output : w'.output = w.output
  size : w.heap.size ≤ w'.heap.size
  block : ∀ k, k < w.heap.size → ¬ M k → w'.heap[k]? = w.heap[k]?

theorem Chg.refl (M : Nat → Prop) (w : World) : Chg M w w := ⟨rfl, rfl, rfl, Nat.le_refl _, fun _ _ _ => rfl⟩
theorem Chg.trans {M : Nat → Prop} {a b c : World} (h : Chg M a b) (k : Chg M b c) : Chg M a c :=
  ⟨k.os.trans h.os, k.tape.trans h.tape, k.output.trans h.output, Nat.le_trans h.size k.size, fun i hi hm => (k.block i (Nat.lt_of_lt_of_le hi h.size) hm).trans (h.block i hi hm)⟩
theorem Chg.mono {M N : Nat → Prop} {a b : World} (h : Chg M a b) (hN : ∀ k, k < a.heap.size → M k → N k) : Chg N a b := ⟨h.os, h.tape, h.output, h.size, fun k hk hn => h.block k hk fun hm => hn (hN k hk hm)⟩
theorem Chg.of_below {M : Nat → Prop} {a b : World} (h : Below a.heap.size a b) : Chg M a b := ⟨h.os, h.tape, h.output, h.size, fun k hk _ => h.block k hk⟩
theorem Chg.setCell {M : Nat → Prop} {a w : World} (h : Chg M a w) {p : Addr} (hp : M p.block) (u : Value) : Chg M a (w.setCell p u) :=
  ⟨h.os, h.tape, h.output, by simpa [World.setCell] using h.size, fun k hk hm => (Below.heap_setCell w p u k (fun e => hm (by rw [e]; exact hp))).trans (h.block k hk hm)⟩
theorem Chg.below {M : Nat → Prop} {a b c : World} (h : Chg M a b) (hb : Below b.heap.size b c) : Chg M a c := h.trans (Chg.of_below hb)
theorem Chg.grown {M : Nat → Prop} {a b c : World} {row : Option Nat} (h : Chg M a b) (hg : b.grownBy c row) (hr : ∀ k, row = some k → M k ∨ a.heap.size ≤ k) : Chg M a c :=
  ⟨hg.os.trans h.os, hg.tape.trans h.tape, hg.output.trans h.output, Nat.le_trans h.size hg.size, fun k hk hm => (hg.block k (Nat.lt_of_lt_of_le hk h.size) (fun e => by rcases hr k e.symm with h1 | h1; exact hm h1; omega)).trans (h.block k hk hm)⟩

def Tagged (w : World) (b : Nat) (t : TypeId) : Prop := ∃ cur, w.heap[b]? = some (.cells cur t (0, 0))
theorem Tagged.lt {w : World} {b : Nat} {t : TypeId} (h : Tagged w b t) : b < w.heap.size := by
  obtain ⟨cur, h⟩ := h
  rcases Nat.lt_or_ge b w.heap.size with h1 | h1
  · exact h1
  · rw [Array.getElem?_eq_none h1] at h; cases h
theorem Tagged.ne {w : World} {b c : Nat} {s t : TypeId} (h : Tagged w b s) (k : Tagged w c t) (hst : s ≠ t) : b ≠ c := by
  rintro rfl
  obtain ⟨x, h⟩ := h; obtain ⟨y, k⟩ := k
  rw [h] at k; cases k; exact hst rfl
theorem Tagged.chg {M : Nat → Prop} {w w' : World} {b : Nat} {t : TypeId} (h : Tagged w b t) (hc : Chg M w w') (hm : ¬ M b) : Tagged w' b t := by
  obtain ⟨x, hx⟩ := h; exact ⟨x, (hc.block b (Tagged.lt ⟨x, hx⟩) hm).trans hx⟩
theorem Tagged.frozen {w : World} {b : Nat} {t : TypeId} (h : Tagged w b t) (j : Nat) : w.frozen? ⟨b, j, none⟩ = false := by
  obtain ⟨x, hx⟩ := h; simp [World.frozen?, hx]
theorem Tagged.setCell {w : World} {b : Nat} {t : TypeId} (h : Tagged w b t) (p : Addr) (u : Value) : Tagged (w.setCell p u) b t := by
  obtain ⟨x, hx⟩ := h
  by_cases e : b = p.block
  · subst e; simp only [Tagged, World.setCell, Array.getElem?_modify, hx]; simp
  · exact ⟨x, by rw [Below.heap_setCell _ _ _ _ e]; exact hx⟩
theorem Tagged.below {w w' : World} {b : Nat} {t : TypeId} (h : Tagged w b t) (hb : Below w.heap.size w w') : Tagged w' b t := by
  obtain ⟨x, hx⟩ := h; exact ⟨x, (hb.block b (Tagged.lt ⟨x, hx⟩)).trans hx⟩

def SliceT (t : TypeId) (w : World) (v : Value) (xs : List Value) : Prop :=
  (v = .slice none 0 0 ∧ xs = []) ∨
    ∃ b off cap, v = .slice (some ⟨b, off, none⟩) xs.length cap ∧ xs.length ≤ cap ∧ Tagged w b t ∧ ∀ j (h : j < xs.length), w.cell? ⟨b, off + j, none⟩ = some xs[j]
theorem SliceT.toIn {t : TypeId} {w : World} {v : Value} {xs : List Value} (h : SliceT t w v xs) : SliceIn w.heap.size w v xs := by
  rcases h with h | ⟨b, off, cap, h1, h2, h3, h4⟩
  · exact Or.inl h
  · exact Or.inr ⟨b, off, cap, h1, h2, h3.lt, h4⟩
theorem SliceT.chg {M : Nat → Prop} {t : TypeId} {w w' : World} {v : Value} {xs : List Value} (h : SliceT t w v xs) (hc : Chg M w w') (hm : ∀ b, Tagged w b t → ¬ M b) : SliceT t w' v xs := by
  rcases h with h | ⟨b, off, cap, h1, h2, h3, h4⟩
  · exact Or.inl h
  · exact Or.inr ⟨b, off, cap, h1, h2, h3.chg hc (hm b h3), fun j hj => (World.cell?_of_block (w := w) (hc.block b h3.lt (hm b h3))).trans (h4 j hj)⟩
theorem SliceT.shape {t : TypeId} {w : World} {v : Value} {xs : List Value} (h : SliceT t w v xs) : ∃ ao cap, v = .slice ao xs.length cap ∧ xs.length ≤ cap := by
  rcases h with ⟨rfl, rfl⟩ | ⟨b, off, cap, h1, h2, h3, h4⟩
  · exact ⟨none, 0, rfl, Nat.le_refl _⟩
  · exact ⟨_, cap, h1, h2⟩
theorem own_sliceT {w : World} {B : Nat} {e : TypeId} {v : Value} {n : Nat} {xs : List Value} (h : w.ownsRow B e 1 v n xs) : SliceT e w v xs := by
  have h0 := h
  obtain ⟨hl, h | ⟨g, cap, cur, rfl, hg, hh, hc, hm, hs, hx⟩⟩ := h
  · exact Or.inl ⟨h.1, List.eq_nil_of_length_eq_zero (by rw [hl, h.2])⟩
  · refine Or.inr ⟨g, 0, cap, by rw [hl, Nat.mul_one], by omega, ⟨cur, hh⟩, fun j hj => ?_⟩
    rw [Nat.zero_add, h0.cellAt j (by omega), List.getElem?_eq_getElem hj]

theorem cs_same {w : World} {b o : Nat} {v u : Value} (h : w.cell? ⟨b, o, none⟩ = some u) : (w.setCell ⟨b, o, none⟩ v).cell? ⟨b, o, none⟩ = some v := by
  apply World.cell?_setCell_same'; rw [h]; (first | done | rfl)
theorem cs_oth {w : World} {b o b' o' : Nat} {v : Value} (h : b ≠ b' ∨ o ≠ o') : (w.setCell ⟨b, o, none⟩ v).cell? ⟨b', o', none⟩ = w.cell? ⟨b', o', none⟩ := by
  apply World.cell?_setCell_other; intro e; cases e; rcases h with h | h <;> exact h rfl
theorem ownsRow_chg {M : Nat → Prop} {w w' : World} {B : Nat} {e : TypeId} {v : Value} {n size : Nat} {xs : List Value} (h : w.ownsRow B e size v n xs) (hc : Chg M w w') (hm : ∀ g, v.ownBlock = some g → ¬ M g) : w'.ownsRow B e size v n xs := by
  have h0 := h
  obtain ⟨hx, h1 | ⟨g, cap, cur, rfl, hg, hh, r⟩⟩ := h
  · exact ⟨hx, Or.inl h1⟩
  · exact ⟨hx, Or.inr ⟨g, cap, cur, rfl, hg, (hc.block g (h0.lt g rfl).2 (hm g rfl)).trans hh, r⟩⟩

def evCells (es : List Ev) (svs : List Value) : List Value := (es.zip svs).flatMap fun (e, sv) => [.string e.p, .int .u8 (e.a.toNat : Int), .string e.v, .int .i64 e.n, sv]
def ints (l : List Int) : List Value := l.map (Value.int .i64)

structure RepZ (w : World) (rb off : Nat) : Prop where
  c2 : w.cell? ⟨rb, off + 2, none⟩ = some (.slice none 0 0)
  c3 : w.cell? ⟨rb, off + 3, none⟩ = some (.slice none 0 0)
  c4 : w.cell? ⟨rb, off + 4, none⟩ = some (.bool false)
  c5 : w.cell? ⟨rb, off + 5, none⟩ = some (.int .i64 0)
  c6 : w.cell? ⟨rb, off + 6, none⟩ = some (.int .i64 0)
  c8 : w.cell? ⟨rb, off + 8, none⟩ = some (.int .i64 0)
theorem RepZ.of {w w' : World} {rb off : Nat} (h : RepZ w rb off) (hc : ∀ i, i = 2 ∨ i = 3 ∨ i = 4 ∨ i = 5 ∨ i = 6 ∨ i = 8 → w'.cell? ⟨rb, off + i, none⟩ = w.cell? ⟨rb, off + i, none⟩) : RepZ w' rb off :=
  ⟨(hc 2 (by simp)).trans h.c2, (hc 3 (by simp)).trans h.c3, (hc 4 (by simp)).trans h.c4, (hc 5 (by simp)).trans h.c5, (hc 6 (by simp)).trans h.c6, (hc 8 (by simp)).trans h.c8⟩
structure RepAt (w : World) (rb off : Nat) (known : List Bool) (most : Nat) : Prop where
  c0 : ∃ kv, w.cell? ⟨rb, off, none⟩ = some kv ∧ SliceT 4 w kv (bools known)
  c1 : w.cell? ⟨rb, off + 1, none⟩ = some (.bool false)
  c7 : w.cell? ⟨rb, off + 7, none⟩ = some (.bool false)
  c9 : ∃ m : Nat, w.cell? ⟨rb, off + 9, none⟩ = some (.int .i64 (m : Int)) ∧ m ≤ most
  c10 : ∃ kp kl, w.cell? ⟨rb, off + 10, none⟩ = some kp ∧ SliceT 3 w kp (ints kl) ∧ kl.length ≤ 50
  c12 : ∃ m : Nat, w.cell? ⟨rb, off + 12, none⟩ = some (.int .i64 (m : Int)) ∧ m ≤ most
  z : RepZ w rb off

structure RefAt (w : World) (c rb : Nat) (evv fv : Value) (av : Nat → Value) (room : Nat) (es : List Ev) (acc most : Nat) (knowns : List (List Bool)) : Prop where
  tc : Tagged w c 152
  trb : Tagged w rb 147
  room50 : room ≤ 50
  n6 : knowns.length ≤ 6
  n500 : es.length ≤ 500
  f0 : w.cell? ⟨c, 0, none⟩ = some (.int .i64 (room : Int))
  f1 : ∃ cap, w.cell? ⟨c, 1, none⟩ = some (.slice (some ⟨rb, 0, none⟩) knowns.length cap) ∧ knowns.length ≤ cap
  f2 : w.cell? ⟨c, 2, none⟩ = some evv
  f3 : w.cell? ⟨c, 3, none⟩ = some (.int .i64 (acc : Int))
  a500 : acc ≤ 500
  m500 : most ≤ 1000
  evs : ∃ svs : List Value, svs.length = es.length ∧ w.ownsRow 0 207 5 evv es.length (evCells es svs) ∧ ∀ j (h : j < svs.length) (h' : j < es.length), SliceT 4 w svs[j] (bools es[j].saw)
  ok : ∀ e ∈ es, EvOk e
  reps : ∀ i (h : i < knowns.length), RepAt w rb (i * 13) knowns[i] most
  kn : ∀ k ∈ knowns, k.length ≤ es.length
  f4 : w.cell? ⟨c, 4, none⟩ = some fv
  a11 : ∀ i, i < knowns.length → w.cell? ⟨rb, i * 13 + 11, none⟩ = some (av i)

def IntsKept (w w' : World) : Prop := ∀ (b : Nat) (cur : Array Value), w.heap[b]? = some (.cells cur 3 (0, 0)) → ∃ cur' : Array Value, w'.heap[b]? = some (.cells cur' 3 (0, 0)) ∧ ∀ (j : Nat) (m : Int), cur[j]? = some (.int .i64 m) → ∃ m' : Int, cur'[j]? = some (.int .i64 m')
theorem IntsKept.of_chg {M : Nat → Prop} {w w' : World} (hc : Chg M w w') (h : ∀ b, Tagged w b 3 → ¬ M b) : IntsKept w w' := fun b cur hb => ⟨cur, (hc.block b (Tagged.lt ⟨cur, hb⟩) (h b ⟨cur, hb⟩)).trans hb, fun j m hm => ⟨m, hm⟩⟩
theorem IntsKept.of_below {w w' : World} (hb : Below w.heap.size w w') : IntsKept w w' := IntsKept.of_chg (M := fun _ => False) (Chg.of_below hb) (fun _ _ h => h)
theorem IntsKept.trans {a b c : World} (h : IntsKept a b) (k : IntsKept b c) : IntsKept a c := fun x cur hx => by
  obtain ⟨cur', h1, h2⟩ := h x cur hx
  obtain ⟨cur'', h3, h4⟩ := k x cur' h1
  exact ⟨cur'', h3, fun j m hm => by obtain ⟨m', hm'⟩ := h2 j m hm; exact h4 j m' hm'⟩
theorem IntsKept.set (w : World) (b o : Nat) (m : Int) : IntsKept w (w.setCell ⟨b, o, none⟩ (.int .i64 m)) := fun x cur hx => by
  by_cases e : x = b
  · subst e
    refine ⟨cur.setIfInBounds o (.int .i64 m), ?_, fun j k hk => ?_⟩
    · simp [World.setCell, Array.getElem?_modify, hx]
    · rw [Array.getElem?_setIfInBounds]
      split
      · rename_i e2
        subst e2
        have : o < cur.size := by
          rcases Nat.lt_or_ge o cur.size with h | h
          · exact h
          · rw [Array.getElem?_eq_none h] at hk; cases hk
        rw [if_pos this]; exact ⟨m, rfl⟩
      · exact ⟨k, hk⟩
  · exact ⟨cur, (Below.heap_setCell _ _ _ _ e).trans hx, fun j k hk => ⟨k, hk⟩⟩
theorem SliceT.numbers {w w' : World} {v : Value} {kl : List Int} (h : SliceT 3 w v (ints kl)) (hk : IntsKept w w') : ∃ kl' : List Int, kl'.length = kl.length ∧ SliceT 3 w' v (ints kl') := by
  rcases h with ⟨h1, h2⟩ | ⟨b, off, cap, h1, h2, ⟨cur, h3⟩, h4⟩
  · exact ⟨kl, rfl, Or.inl ⟨h1, h2⟩⟩
  · obtain ⟨cur', h5, h6⟩ := hk b cur h3
    have hl : (ints kl).length = kl.length := by simp [ints]
    have hc : ∀ j, j < kl.length → ∃ m, w'.cell? ⟨b, off + j, none⟩ = some (.int .i64 m) := fun j hj => by
      have := h4 j (by omega)
      simp only [World.cell?, h3] at this
      have e : (ints kl)[j]'(by omega) = .int .i64 kl[j] := by simp [ints]
      rw [e] at this
      obtain ⟨m, hm⟩ := h6 _ _ this
      exact ⟨m, by simp only [World.cell?, h5]; exact hm⟩
    refine ⟨(List.range kl.length).map (fun j => if h : j < kl.length then (hc j h).choose else 0), by simp, Or.inr ⟨b, off, cap, ?_, ?_, ⟨cur', h5⟩, fun j hj => ?_⟩⟩
    · rw [h1, hl]; simp [ints]
    · rw [hl] at h2; simpa [ints] using h2
    · have hj' : j < kl.length := by simpa [ints] using hj
      rw [(hc j hj').choose_spec]
      simp [ints, hj']
theorem SliceT.below {t : TypeId} {w w' : World} {v : Value} {xs : List Value} (h : SliceT t w v xs) (hb : Below w.heap.size w w') : SliceT t w' v xs := h.chg (M := fun _ => False) (Chg.of_below hb) (fun _ _ h => h)
theorem RepAt.below {w w' : World} {rb off : Nat} {known : List Bool} {most : Nat} (h : RepAt w rb off known most) (hb : Below w.heap.size w w') (hr : rb < w.heap.size) : RepAt w' rb off known most := by
  obtain ⟨⟨kv, a0, b0⟩, a1, a7, ⟨m9, a9, b9⟩, ⟨kp, kl, a10, b10, d10⟩, ⟨m12, a12, b12⟩, hz⟩ := h
  have hc : ∀ o, w'.cell? ⟨rb, o, none⟩ = w.cell? ⟨rb, o, none⟩ := fun o => hb.cell (p := ⟨rb, o, none⟩) hr
  exact ⟨⟨kv, (hc _).trans a0, b0.below hb⟩, (hc _).trans a1, (hc _).trans a7, ⟨m9, (hc _).trans a9, b9⟩, ⟨kp, kl, (hc _).trans a10, b10.below hb, d10⟩, ⟨m12, (hc _).trans a12, b12⟩, hz.of (fun i _ => hc _)⟩
theorem RefAt.below {w w' : World} {c rb : Nat} {evv fv : Value} {av : Nat → Value} {room : Nat} {es : List Ev} {acc most : Nat} {knowns : List (List Bool)} (h : RefAt w c rb evv fv av room es acc most knowns) (hb : Below w.heap.size w w') : RefAt w' c rb evv fv av room es acc most knowns := by
  have hc : ∀ o, w'.cell? ⟨c, o, none⟩ = w.cell? ⟨c, o, none⟩ := fun o => hb.cell (p := ⟨c, o, none⟩) h.tc.lt
  obtain ⟨cap, f1, hcap⟩ := h.f1
  obtain ⟨svs, e1, e2, e3⟩ := h.evs
  exact ⟨h.tc.below hb, h.trb.below hb, h.room50, h.n6, h.n500, (hc 0).trans h.f0, ⟨cap, (hc 1).trans f1, hcap⟩, (hc 2).trans h.f2, (hc 3).trans h.f3, h.a500, h.m500, ⟨svs, e1, own_below e2 hb, fun j h1 h2 => (e3 j h1 h2).below hb⟩, h.ok, fun i hi => (h.reps i hi).below hb h.trb.lt, h.kn, (hc 4).trans h.f4, fun i hi => (hb.cell (p := ⟨rb, i * 13 + 11, none⟩) h.trb.lt).trans (h.a11 i hi)⟩

set_option maxHeartbeats 400000 in
theorem Up_any (w : World) (c rb : Nat) (evv fv : Value) (av : Nat → Value) (room : Nat) (es : List Ev) (acc most : Nat) (knowns : List (List Bool)) (h : RefAt w c rb evv fv av room es acc most knowns) (i : Int) :
    Calls Tryz.prog 83 #[.pointer (some ⟨c, 0, none⟩), .int .i64 i] w fun e w' => e = .returned (.int .i64 (if 0 ≤ i ∧ i < knowns.length then 0 else 2)) ∧ w' = w := by
  obtain ⟨cap, f1, hcap⟩ := h.f1
  have h6 := h.n6
  by_cases h0 : i < 0
  · rw [if_neg (by omega)]
    go_enter Tryz.func83, Tryz.ntmps83
    go_wp2
    go_ret
    exact ⟨rfl, rfl⟩
  · obtain ⟨k, rfl⟩ := Int.eq_ofNat_of_zero_le (show 0 ≤ i by omega)
    by_cases h1 : k < knowns.length
    · have hd := (h.reps k h1).c1
      rw [if_pos (by omega)]
      go_enter Tryz.func83, Tryz.ntmps83
      go_wp2
      go_ret
      exact ⟨rfl, rfl⟩
    · rw [if_neg (by omega)]
      go_enter Tryz.func83, Tryz.ntmps83
      go_wp2
      go_ret
      exact ⟨rfl, rfl⟩


theorem toL_get (t : ByteArray) (k : Nat) (h : k < t.size) : (toL t)[k]'(by rw [toL_length]; exact h) = t[k] := byte_at t k h

def NumEnd (neg : Bool) (t : ByteArray) (e : Ending) : Prop := ∃ m : Int, e = .returned (.tuple #[.int .i64 m, .bool (Thk.numAbs neg (toL t)).isSome]) ∧ ∀ x, Thk.numAbs neg (toL t) = some x → m = x

theorem numBad_iff (neg : Bool) (t : ByteArray) : Thk.numBad neg (toL t) = true ↔ (t.size < 1 ∨ 10 < t.size ∨ (∃ h : 0 < t.size, (t[0].toNat : Int) = 48 ∧ (1 < t.size ∨ neg = true))) := by
  unfold Thk.numBad
  by_cases h : 0 < t.size
  · rw [head_toL t h, toL_length]
    simp only [Bool.or_eq_true, Bool.and_eq_true, decide_eq_true_eq, beq_iff_eq, Option.some.injEq]
    have e : t[0] = 48 ↔ (t[0].toNat : Int) = 48 := by
      constructor
      · intro h; rw [h]; (first | done | rfl)
      · intro h; apply UInt8.toNat_inj.1; have : (48 : UInt8).toNat = 48 := rfl; omega
    rw [e]
    constructor
    · rintro ((a | b) | c)
      · exact Or.inl a
      · exact Or.inr (Or.inl b)
      · exact Or.inr (Or.inr ⟨h, c⟩)
    · rintro (a | b | ⟨_, c⟩)
      · exact Or.inl (Or.inl a)
      · exact Or.inl (Or.inr b)
      · exact Or.inr c
  · rw [toL_length]
    constructor
    · intro _; left; omega
    · intro _; have : decide (t.size < 1) = true := by rw [decide_eq_true_iff]; omega
      rw [this]; (first | done | rfl)

theorem num_bad {neg : Bool} {t : ByteArray} (h : Thk.numBad neg (toL t) = true) : Thk.numAbs neg (toL t) = none := by unfold Thk.numAbs; rw [h]; (first | done | rfl)
theorem num_not_dig {neg : Bool} {t : ByteArray} {k : Nat} (hk : k < t.size) (h : ¬ (48 ≤ (t[k].toNat : Int) ∧ (t[k].toNat : Int) ≤ 57)) : Thk.numAbs neg (toL t) = none := by
  have : (toL t).all Thk.isDig = false := by
    rw [List.all_eq_false]
    refine ⟨(toL t)[k]'(by rw [toL_length]; exact hk), List.getElem_mem _, ?_⟩
    rw [toL_get t k hk]
    unfold Thk.isDig; simp; omega
  unfold Thk.numAbs; rw [this]; simp
theorem num_end {neg : Bool} {t : ByteArray} (hb : Thk.numBad neg (toL t) = false) (hall : ((toL t).take t.size).all Thk.isDig = true) :
    Thk.numAbs neg (toL t) = if Thk.numv ((toL t).take t.size) ≤ 1000000000 then some (if neg then -(Thk.numv ((toL t).take t.size) : Int) else (Thk.numv ((toL t).take t.size) : Int)) else none := by
  have e : (toL t).take t.size = toL t := by rw [← toL_length t, List.take_length]
  rw [e] at hall ⊢
  unfold Thk.numAbs; rw [hb, hall]; simp

set_option maxHeartbeats 2000000 in
theorem number_pos (s : ByteArray) (w : World) (hs : s.size ≤ 1048576) (hne : Hid ((toL s).head? ≠ some 45)) :
    Calls Tryz.prog 198 #[.string s] w fun e w' => NumEnd false s e ∧ w' = w := by
  have h0 : ∀ h : 0 < s.size, ((s[0].toNat : Int) == 45) = false := by
    intro h; rw [beq_eq_false_iff_ne]; intro h2; apply hne.out; rw [head_toL s h]; congr 1; apply UInt8.toNat_inj.1; have : (45 : UInt8).toNat = 45 := rfl; omega
  cases hbad : Thk.numBad false (toL s)
  · have hnb := (not_congr (numBad_iff false s)).1 (by rw [hbad]; simp)
    have Hbad : Hid (Thk.numBad false (toL s) = false) := hbad
    clear hbad
    have h1 : 0 < s.size := by omega
    have h2 : s.size ≤ 10 := by omega
    have h3 : ((s[0].toNat : Int) == 45) = false := h0 h1
    have h4 : ¬ ((s[0].toNat : Int) = 48 ∧ 1 < s.size) := fun h => hnb (Or.inr (Or.inr ⟨h1, h.1, Or.inl h.2⟩))
    clear h0 hnb
    by_cases h5 : (s[0].toNat : Int) = 48
    · have h6 : ¬ 1 < s.size := fun h => h4 ⟨h5, h⟩
      have h5' : ((s[0].toNat : Int) == 48) = true := by rw [h5]; (first | done | rfl)
      clear h4 h5
      go_enter Tryz.func198, Tryz.ntmps198
      go_wp2
      go_loop [5, 6] (fun n i => ∃ k : Nat, k ≤ s.size ∧ i = .int .i64 k ∧ n = .int .i64 (Thk.numv ((toL s).take k) : Int) ∧ Hid (((toL s).take k).all Thk.isDig = true)) (fun _ i => s.size - (intOf i).toNat)
      case atStart => exact ⟨0, by omega, rfl, by simp [Thk.numv], by simp [Hid]⟩
      case round =>
        obtain ⟨k, hk, rfl, rfl, Hall⟩ := hrel
        have hlt10 : Thk.numv ((toL s).take k) < 10000000000 := by
          have h := Thk.numv_lt _ Hall.out
          have : ((toL s).take k).length ≤ 10 := by simp [toL_length]; omega
          exact Nat.lt_of_lt_of_le h (Nat.le_trans (Nat.pow_le_pow_right (by omega) this) (by decide))
        by_cases hlt : k < s.size
        · by_cases hdig : 48 ≤ (s[k].toNat : Int) ∧ (s[k].toNat : Int) ≤ 57
          · obtain ⟨ha, hb⟩ := hdig
            have hts : (toL s).take (k + 1) = (toL s).take k ++ [s[k]] := by
              rw [List.take_succ_eq_append_getElem (by rw [toL_length]; exact hlt), toL_get s k hlt]
            have Hn : Hid ((Thk.numv ((toL s).take (k + 1)) : Int) = 10 * (Thk.numv ((toL s).take k) : Int) + ((s[k].toNat : Int) - 48)) := by
              unfold Hid; rw [hts, Thk.numv_snoc]; unfold Thk.dgt; omega
            have Hall2 : Hid (((toL s).take (k + 1)).all Thk.isDig = true) := by
              unfold Hid; rw [hts, List.all_append, Hall.out]; unfold Thk.isDig; simp; omega
            clear hts Hall
            generalize Thk.numv ((toL s).take k) = m at *
            go_wp2
            all_goals
              go_round
              case rel => exact ⟨k + 1, by omega, by go_num, by rw [Hn.out], Hall2⟩
              case measure => simp [intOf]; omega
          · have hfin : Hid (Thk.numAbs false (toL s) = none) := num_not_dig hlt hdig
            rcases (show (s[k].toNat : Int) < 48 ∨ 57 < (s[k].toNat : Int) from by omega) with h | h
            all_goals clear hdig Hall
            all_goals
              go_wp2
              all_goals
                go_ret2
                exact ⟨⟨0, by rw [hfin.out]; (first | done | rfl), by rw [hfin.out]; intro x h; cases h⟩, rfl⟩
        · have hkt : k = s.size := by omega
          subst hkt
          have hfin : Hid (_) := num_end (neg := false) Hbad.out Hall.out
          clear Hall
          generalize Thk.numv ((toL s).take s.size) = m at *
          go_wp2
          all_goals
            go_ret2
            refine ⟨⟨(m : Int), ?_, ?_⟩, rfl⟩
            · rw [hfin.out]
              by_cases hm : m ≤ 1000000000
              · simp [hm] <;> omega
              · simp [hm] <;> omega
            · rw [hfin.out]
              intro x h
              by_cases hm : m ≤ 1000000000
              · simp [hm] at h; omega
              · simp [hm] at h
    · have h5' : ((s[0].toNat : Int) == 48) = false := by simpa using h5
      clear h4 h5
      go_enter Tryz.func198, Tryz.ntmps198
      go_wp2
      go_loop [5, 6] (fun n i => ∃ k : Nat, k ≤ s.size ∧ i = .int .i64 k ∧ n = .int .i64 (Thk.numv ((toL s).take k) : Int) ∧ Hid (((toL s).take k).all Thk.isDig = true)) (fun _ i => s.size - (intOf i).toNat)
      case atStart => exact ⟨0, by omega, rfl, by simp [Thk.numv], by simp [Hid]⟩
      case round =>
        obtain ⟨k, hk, rfl, rfl, Hall⟩ := hrel
        have hlt10 : Thk.numv ((toL s).take k) < 10000000000 := by
          have h := Thk.numv_lt _ Hall.out
          have : ((toL s).take k).length ≤ 10 := by simp [toL_length]; omega
          exact Nat.lt_of_lt_of_le h (Nat.le_trans (Nat.pow_le_pow_right (by omega) this) (by decide))
        by_cases hlt : k < s.size
        · by_cases hdig : 48 ≤ (s[k].toNat : Int) ∧ (s[k].toNat : Int) ≤ 57
          · obtain ⟨ha, hb⟩ := hdig
            have hts : (toL s).take (k + 1) = (toL s).take k ++ [s[k]] := by
              rw [List.take_succ_eq_append_getElem (by rw [toL_length]; exact hlt), toL_get s k hlt]
            have Hn : Hid ((Thk.numv ((toL s).take (k + 1)) : Int) = 10 * (Thk.numv ((toL s).take k) : Int) + ((s[k].toNat : Int) - 48)) := by
              unfold Hid; rw [hts, Thk.numv_snoc]; unfold Thk.dgt; omega
            have Hall2 : Hid (((toL s).take (k + 1)).all Thk.isDig = true) := by
              unfold Hid; rw [hts, List.all_append, Hall.out]; unfold Thk.isDig; simp; omega
            clear hts Hall
            generalize Thk.numv ((toL s).take k) = m at *
            go_wp2
            all_goals
              go_round
              case rel => exact ⟨k + 1, by omega, by go_num, by rw [Hn.out], Hall2⟩
              case measure => simp [intOf]; omega
          · have hfin : Hid (Thk.numAbs false (toL s) = none) := num_not_dig hlt hdig
            rcases (show (s[k].toNat : Int) < 48 ∨ 57 < (s[k].toNat : Int) from by omega) with h | h
            all_goals clear hdig Hall
            all_goals
              go_wp2
              all_goals
                go_ret2
                exact ⟨⟨0, by rw [hfin.out]; (first | done | rfl), by rw [hfin.out]; intro x h; cases h⟩, rfl⟩
        · have hkt : k = s.size := by omega
          subst hkt
          have hfin : Hid (_) := num_end (neg := false) Hbad.out Hall.out
          clear Hall
          generalize Thk.numv ((toL s).take s.size) = m at *
          go_wp2
          all_goals
            go_ret2
            refine ⟨⟨(m : Int), ?_, ?_⟩, rfl⟩
            · rw [hfin.out]
              by_cases hm : m ≤ 1000000000
              · simp [hm] <;> omega
              · simp [hm] <;> omega
            · rw [hfin.out]
              intro x h
              by_cases hm : m ≤ 1000000000
              · simp [hm] at h; omega
              · simp [hm] at h
  · have hnb := (numBad_iff false s).1 hbad
    have hfin : Hid (Thk.numAbs false (toL s) = none) := num_bad hbad
    clear hbad
    rcases hnb with h | h | ⟨h, h4, h5⟩
    · clear h0
      go_enter Tryz.func198, Tryz.ntmps198
      go_wp2
      all_goals
        go_ret2
        exact ⟨⟨0, by rw [hfin.out]; (first | done | rfl), by rw [hfin.out]; intro x h; cases h⟩, rfl⟩
    · have h3 := h0 (by omega)
      clear h0
      go_enter Tryz.func198, Tryz.ntmps198
      go_wp2
      all_goals
        go_ret2
        exact ⟨⟨0, by rw [hfin.out]; (first | done | rfl), by rw [hfin.out]; intro x h; cases h⟩, rfl⟩
    · have h3 := h0 h
      have h5' : ((s[0].toNat : Int) == 48) = true := by rw [h4]; (first | done | rfl)
      have h6 : 1 < s.size := by simpa using h5
      clear h0 h4 h5
      go_enter Tryz.func198, Tryz.ntmps198
      go_wp2
      all_goals
        go_ret2
        exact ⟨⟨0, by rw [hfin.out]; (first | done | rfl), by rw [hfin.out]; intro x h; cases h⟩, rfl⟩

set_option maxHeartbeats 2000000 in
theorem number_neg (s : ByteArray) (w : World) (hs : s.size ≤ 1048576) (h0 : 0 < s.size) (hne : (s[0].toNat : Int) = 45) :
    Calls Tryz.prog 198 #[.string s] w fun e w' => NumEnd true (s.extract 1 s.size) e ∧ w' = w := by
  have h3 : ((s[0].toNat : Int) == 45) = true := by rw [hne]; (first | done | rfl)
  have ht : (s.extract 1 s.size).size = s.size - 1 := by simp [ByteArray.size_extract]
  clear hne
  cases hbad : Thk.numBad true (toL (s.extract 1 s.size))
  · have hnb := (not_congr (numBad_iff true (s.extract 1 s.size))).1 (by rw [hbad]; simp)
    have Hbad : Hid (Thk.numBad true (toL (s.extract 1 s.size)) = false) := hbad
    clear hbad
    have h1 : 0 < (s.extract 1 s.size).size := by omega
    have h2 : (s.extract 1 s.size).size ≤ 10 := by omega
    have h5' : (((s.extract 1 s.size)[0].toNat : Int) == 48) = false := by rw [beq_eq_false_iff_ne]; exact fun h => hnb (Or.inr (Or.inr ⟨h1, h, Or.inr rfl⟩))
    have k1 : 1 ≤ s.size - 1 := by omega
    have k2 : s.size - 1 ≤ 10 := by omega
    clear hnb ht
    go_enter Tryz.func198, Tryz.ntmps198
    go_wp2
    clear h5'
    generalize ((s.extract 1 s.size)[0]'h1).toNat = b0 at *
    generalize hT : s.extract 1 s.size = t at *
    have HT : Hid (s.extract 1 s.size = t) := hT
    clear hT
    go_loop [5, 6] (fun n i => ∃ k : Nat, k ≤ t.size ∧ i = .int .i64 k ∧ n = .int .i64 (Thk.numv ((toL t).take k) : Int) ∧ Hid (((toL t).take k).all Thk.isDig = true)) (fun _ i => t.size - (intOf i).toNat)
    case atStart => exact ⟨0, by omega, rfl, by simp [Thk.numv], by simp [Hid]⟩
    case round =>
      obtain ⟨k, hk, rfl, rfl, Hall⟩ := hrel
      have hlt10 : Thk.numv ((toL t).take k) < 10000000000 := by
        have h := Thk.numv_lt _ Hall.out
        have : ((toL t).take k).length ≤ 10 := by simp [toL_length]; omega
        exact Nat.lt_of_lt_of_le h (Nat.le_trans (Nat.pow_le_pow_right (by omega) this) (by decide))
      by_cases hlt : k < t.size
      · by_cases hdig : 48 ≤ (t[k].toNat : Int) ∧ (t[k].toNat : Int) ≤ 57
        · obtain ⟨ha, hb⟩ := hdig
          have hts : (toL t).take (k + 1) = (toL t).take k ++ [t[k]] := by
            rw [List.take_succ_eq_append_getElem (by rw [toL_length]; exact hlt), toL_get t k hlt]
          have Hn : Hid ((Thk.numv ((toL t).take (k + 1)) : Int) = 10 * (Thk.numv ((toL t).take k) : Int) + ((t[k].toNat : Int) - 48)) := by
            unfold Hid; rw [hts, Thk.numv_snoc]; unfold Thk.dgt; omega
          have Hall2 : Hid (((toL t).take (k + 1)).all Thk.isDig = true) := by
            unfold Hid; rw [hts, List.all_append, Hall.out]; unfold Thk.isDig; simp; omega
          clear hts Hall
          generalize Thk.numv ((toL t).take k) = m at *
          go_wp2
          all_goals
            go_round
            case rel => exact ⟨k + 1, by omega, by go_num, by rw [Hn.out], Hall2⟩
            case measure => simp [intOf]; omega
        · have hfin : Hid (Thk.numAbs true (toL t) = none) := num_not_dig hlt hdig
          rcases (show (t[k].toNat : Int) < 48 ∨ 57 < (t[k].toNat : Int) from by omega) with h | h
          all_goals clear hdig Hall
          all_goals
            go_wp2
            all_goals
              go_ret2
              rw [HT.out]; exact ⟨⟨0, by rw [hfin.out]; (first | done | rfl), by rw [hfin.out]; intro x h; cases h⟩, rfl⟩
      · have hkt : k = t.size := by omega
        subst hkt
        have hfin : Hid (_) := num_end (neg := true) Hbad.out Hall.out
        clear Hall
        generalize Thk.numv ((toL t).take t.size) = m at *
        go_wp2
        all_goals
          go_ret2
          rw [HT.out]; refine ⟨⟨-(m : Int), ?_, ?_⟩, rfl⟩
          · rw [hfin.out]
            by_cases hm : m ≤ 1000000000
            · simp [hm] <;> omega
            · simp [hm] <;> omega
          · rw [hfin.out]
            intro x h
            by_cases hm : m ≤ 1000000000
            · simp [hm] at h; omega
            · simp [hm] at h
  · have hnb := (numBad_iff true (s.extract 1 s.size)).1 hbad
    have hfin : Hid (Thk.numAbs true (toL (s.extract 1 s.size)) = none) := num_bad hbad
    clear hbad
    rcases hnb with h | h | ⟨h, h4, h5⟩
    · have k1 : s.size - 1 < 1 := by omega
      clear ht h
      go_enter Tryz.func198, Tryz.ntmps198
      go_wp2
      all_goals
        go_ret2
        exact ⟨⟨0, by rw [hfin.out]; (first | done | rfl), by rw [hfin.out]; intro x h; cases h⟩, rfl⟩
    · have k1 : 10 < s.size - 1 := by omega
      clear ht h
      go_enter Tryz.func198, Tryz.ntmps198
      go_wp2
      all_goals
        go_ret2
        exact ⟨⟨0, by rw [hfin.out]; (first | done | rfl), by rw [hfin.out]; intro x h; cases h⟩, rfl⟩
    · have h5' : (((s.extract 1 s.size)[0].toNat : Int) == 48) = true := by rw [h4]; (first | done | rfl)
      by_cases k2 : 10 < s.size - 1
      · clear h4 h5 ht h5'
        go_enter Tryz.func198, Tryz.ntmps198
        go_wp2
        all_goals
          go_ret2
          exact ⟨⟨0, by rw [hfin.out]; (first | done | rfl), by rw [hfin.out]; intro x h; cases h⟩, rfl⟩
      · have k1 : 1 ≤ s.size - 1 := by omega
        clear h4 h5 ht
        go_enter Tryz.func198, Tryz.ntmps198
        go_wp2
        all_goals
          go_ret2
          exact ⟨⟨0, by rw [hfin.out]; (first | done | rfl), by rw [hfin.out]; intro x h; cases h⟩, rfl⟩

theorem num_cases (s : ByteArray) : ((toL s).head? ≠ some 45 ∧ Thk.num (toL s) = Thk.numAbs false (toL s)) ∨ (∃ h : 0 < s.size, (s[0].toNat : Int) = 45 ∧ Thk.num (toL s) = Thk.numAbs true (toL (s.extract 1 s.size))) := by
  by_cases h : (toL s).head? = some 45
  · right
    have hp : 0 < s.size := by
      rcases Nat.eq_zero_or_pos s.size with e | e
      · have : toL s = [] := List.eq_nil_of_length_eq_zero (by rw [toL_length, e])
        rw [this] at h; cases h
      · exact e
    refine ⟨hp, ?_, ?_⟩
    · rw [head_toL s hp] at h; simp only [Option.some.injEq] at h; rw [h]; (first | done | rfl)
    · unfold Thk.num; rw [if_pos h, toL_extract]
      congr 1
      rw [← toL_length s, List.take_length, List.drop_one]
  · left; exact ⟨h, by unfold Thk.num; rw [if_neg h]⟩

theorem number_any (s : ByteArray) (w : World) (hs : s.size ≤ 1048576) :
    Calls Tryz.prog 198 #[.string s] w fun e w' => (∃ m : Int, e = .returned (.tuple #[.int .i64 m, .bool (Thk.num (toL s)).isSome]) ∧ ∀ x, Thk.num (toL s) = some x → m = x) ∧ w' = w := by
  rcases num_cases s with ⟨h, e⟩ | ⟨h0, h, e⟩
  · rw [e]; exact number_pos s w hs h
  · rw [e]; exact number_neg s w hs h0 h


set_option maxHeartbeats 400000 in
theorem value_any (s : ByteArray) (w : World) (hs : s.size ≤ 1048576) :
    Calls Tryz.prog 197 #[.string s] w fun e w' => e = .returned (.bool (Thk.val s.data.toList)) ∧ w' = w := by
  go_enter Tryz.func197, Tryz.ntmps197
  go_wp2
  go_loop [3] (fun i => ∃ k : Nat, k ≤ s.size ∧ i = .int .i64 k ∧ ∀ j (h : j < s.data.toList.length), j < k → (Thk.isLow s.data.toList[j] || Thk.isDig s.data.toList[j]) = true) (fun i => s.size - (intOf i).toNat)
  case atStart => exact ⟨0, by omega, rfl, fun j _ b => by omega⟩
  case round =>
    obtain ⟨k, hk, rfl, hall⟩ := hrel
    have Hall : Hid (∀ j (h : j < s.data.toList.length), j < k → (Thk.isLow s.data.toList[j] || Thk.isDig s.data.toList[j]) = true) := hall
    clear hall
    by_cases hlt : k < s.size
    · by_cases hgood : (97 ≤ (s[k].toNat : Int) ∧ (s[k].toNat : Int) ≤ 122) ∨ (48 ≤ (s[k].toNat : Int) ∧ (s[k].toNat : Int) ≤ 57)
      · have hnext : Hid (∀ j (h : j < s.data.toList.length), j < k + 1 → (Thk.isLow s.data.toList[j] || Thk.isDig s.data.toList[j]) = true) := by
          intro j h b
          by_cases e : j = k
          · subst e; rw [byte_at s j hlt]; unfold Thk.isLow Thk.isDig; simp; omega
          · exact Hall.out j h (by omega)
        clear Hall
        rcases hgood with ⟨ha, hb⟩ | ⟨ha, hb⟩
        all_goals
          go_wp2
          all_goals
            go_round
            case rel => exact ⟨k + 1, by omega, by go_num, hnext.out⟩
            case measure => simp [intOf]; omega
      · have hfin : Hid (Thk.val s.data.toList = false) := Thk.val_false_at _ k (by simpa using hlt) (by rw [byte_at s k hlt, Bool.eq_false_iff]; unfold Thk.isLow Thk.isDig; simp; omega)
        rcases (show (s[k].toNat : Int) < 48 ∨ (57 < (s[k].toNat : Int) ∧ (s[k].toNat : Int) < 97) ∨ 122 < (s[k].toNat : Int) from by omega) with h | ⟨h, h'⟩ | h
        all_goals clear hgood
        all_goals
          go_wp2
          all_goals
            go_ret
            exact ⟨ret_bool hfin.out.symm, rfl⟩
    · have hfin : Hid (Thk.val s.data.toList = (decide (1 ≤ s.size) && decide (s.size ≤ 8))) := by
        have h := Thk.val_eq s.data.toList (fun i h => Hall.out i h (by simp at h; omega))
        exact h.trans (by simp)
      go_wp2
      all_goals
        go_ret
        refine ⟨ret_bool ?_, rfl⟩
        rw [hfin.out, Bool.eq_iff_iff]
        simp
        try omega

def fitsB (k a : UInt8) : Bool :=
  if k.toNat = 115 then a.toNat == 43 || a.toNat == 45 || a.toNat == 33
  else if k.toNat = 102 then a.toNat == 94 || a.toNat == 95 || a.toNat == 33
  else if k.toNat = 114 then a.toNat == 61 || a.toNat == 33
  else if k.toNat = 99 then a.toNat == 62 || a.toNat == 33
  else a.toNat == 33

set_option maxHeartbeats 400000 in
theorem fits_any (k a : UInt8) (w : World) :
    Calls Tryz.prog 196 #[.int .u8 (k.toNat : Int), .int .u8 (a.toNat : Int)] w fun e w' => e = .returned (.bool (fitsB k a)) ∧ w' = w := by
  go_enter Tryz.func196, Tryz.ntmps196
  go_wp2
  all_goals
    go_ret
    refine ⟨ret_bool ?_, rfl⟩
    unfold fitsB
    rw [Bool.eq_iff_iff]
    repeat' split
    all_goals simp only [Bool.or_eq_true, beq_iff_eq, beq_eq_false_iff_ne, Bool.true_eq_false, Bool.false_eq_true, true_iff, false_iff, iff_true, iff_false, eq_self] at *
    all_goals omega

end Go.Proofs.YtoiiaankpnhppaaGreatDoor

namespace Go.Proofs.YtoiiaankpnhppaaGreatDoor.Thk

def fits (k a : UInt8) : Bool :=
  if k.toNat = 115 then a.toNat == 43 || a.toNat == 45 || a.toNat == 33
  else if k.toNat = 102 then a.toNat == 94 || a.toNat == 95 || a.toNat == 33
  else if k.toNat = 114 then a.toNat == 61 || a.toNat == 33
  else if k.toNat = 99 then a.toNat == 62 || a.toNat == 33
  else a.toNat == 33

structure Ch where
  path : Bs
  act : UInt8
  val : Bs
  n : Int

def operand (p : Bs) (a : UInt8) (v : Bs) : Nat ⊕ Ch :=
  if a.toNat = 43 ∨ a.toNat = 45 ∨ a.toNat = 61 then (if val v then .inr ⟨p, a, v, 0⟩ else .inl 5)
  else if a.toNat = 62 then (match num v with | some n => .inr ⟨p, a, v, n⟩ | none => .inl 5)
  else if v = [] then .inr ⟨p, a, v, 0⟩ else .inl 5
def readAt (l : Bs) (k : Nat) : Nat ⊕ Ch :=
  if path (l.take k) = false then .inl 4
  else if fits (kindOf (l.take k)) (l.getD k 0) = false then .inl 6
  else operand (l.take k) (l.getD k 0) (l.drop (k + 1))
def read (l : Bs) : Nat ⊕ Ch := if l.findIdx isAct = l.length then .inl 4 else readAt l (l.findIdx isAct)

theorem read_none (l : Bs) (h : ∀ j (hj : j < l.length), isAct l[j] = false) : read l = .inl 4 := by
  have : l.findIdx isAct = l.length := List.findIdx_eq_length.2 (fun x hx => by obtain ⟨i, hi, rfl⟩ := List.getElem_of_mem hx; exact h i hi)
  unfold read; rw [if_pos this]
theorem read_some (l : Bs) (k : Nat) (hk : k < l.length) (h : ∀ j (hj : j < l.length), j < k → isAct l[j] = false) (ha : isAct l[k] = true) : read l = readAt l k := by
  have : l.findIdx isAct = k := by
    rw [List.findIdx_eq hk]; exact ⟨ha, fun j hj => h j (by omega) hj⟩
  unfold read; rw [this, if_neg (by omega)]

end Go.Proofs.YtoiiaankpnhppaaGreatDoor.Thk

