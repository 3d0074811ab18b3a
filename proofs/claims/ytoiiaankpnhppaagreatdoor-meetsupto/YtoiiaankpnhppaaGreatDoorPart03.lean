import Derived.Laws.CopyOwn
import Derived.Handy
import Derived.Test.YtoiiaankpnhppaaGreatDoorPart02
set_option linter.unusedVariables false
set_option linter.unusedSimpArgs false
namespace Go.Proofs.YtoiiaankpnhppaaGreatDoor
open Go.RowKit

theorem Tryz.info4 : (Tryz.prog.info? 4).map (fun i => (i.zero, i.size, i.bytes)) = some (some (.bool false), 1, 1) := by kernel_rfl
theorem Tryz.infoEv : (Tryz.prog.info? 207).map (fun i => (i.zero, i.size, i.bytes)) = some (some zeroEv, 5, 72) := by kernel_rfl

theorem RepAt.keepI {w w' : World} {rb off : Nat} {known : List Bool} {most most' : Nat} (h : RepAt w rb off known most) (hm : most ≤ most') (hS : ∀ v xs, SliceT 4 w v xs → SliceT 4 w' v xs) (hI : IntsKept w w')
    (hcell : ∀ i, i < 13 → w'.cell? ⟨rb, off + i, none⟩ = w.cell? ⟨rb, off + i, none⟩) : RepAt w' rb off known most' := by
  obtain ⟨⟨kv, a0, b0⟩, a1, a7, ⟨m9, a9, b9⟩, ⟨kp, kl, a10, b10, d10⟩, ⟨m12, a12, b12⟩, hz⟩ := h
  obtain ⟨kl', hl', b10'⟩ := b10.numbers hI
  exact ⟨⟨kv, (hcell 0 (by omega)).trans a0, hS _ _ b0⟩, (hcell 1 (by omega)).trans a1, (hcell 7 (by omega)).trans a7, ⟨m9, (hcell 9 (by omega)).trans a9, by omega⟩, ⟨kp, kl', (hcell 10 (by omega)).trans a10, b10', by omega⟩, ⟨m12, (hcell 12 (by omega)).trans a12, by omega⟩, hz.of (fun i hi => hcell i (by omega))⟩
theorem RefAt.chg {M : Nat → Prop} {w w' : World} {c rb : Nat} {evv fv : Value} {av : Nat → Value} {room : Nat} {es : List Ev} {acc most : Nat} {knowns : List (List Bool)} (h : RefAt w c rb evv fv av room es acc most knowns) (hc : Chg M w w')
    (h1 : ¬ M c) (h2 : ¬ M rb) (h3 : ∀ g, evv.ownBlock = some g → ¬ M g) (h4 : ∀ b, Tagged w b 4 → ¬ M b) (h5 : IntsKept w w') : RefAt w' c rb evv fv av room es acc most knowns := by
  have hcc : ∀ o, w'.cell? ⟨c, o, none⟩ = w.cell? ⟨c, o, none⟩ := fun o => World.cell?_of_block (w := w) (hc.block c h.tc.lt h1)
  have hrr : ∀ o, w'.cell? ⟨rb, o, none⟩ = w.cell? ⟨rb, o, none⟩ := fun o => World.cell?_of_block (w := w) (hc.block rb h.trb.lt h2)
  obtain ⟨cap, f1, hcap⟩ := h.f1
  obtain ⟨svs, e1, e2, e3⟩ := h.evs
  exact ⟨h.tc.chg hc h1, h.trb.chg hc h2, h.room50, h.n6, h.n500, (hcc 0).trans h.f0, ⟨cap, (hcc 1).trans f1, hcap⟩, (hcc 2).trans h.f2, (hcc 3).trans h.f3, h.a500, h.m500, ⟨svs, e1, ownsRow_chg e2 hc h3, fun j a b => (e3 j a b).chg hc h4⟩, h.ok, fun i hi => (h.reps i hi).keepI (Nat.le_refl _) (fun v xs hs => hs.chg hc h4) h5 (fun j _ => hrr _), h.kn, (hcc 4).trans h.f4, fun i hi => (hrr _).trans (h.a11 i hi)⟩

theorem RefAt.evLt {w : World} {c rb : Nat} {evv fv : Value} {av : Nat → Value} {room : Nat} {es : List Ev} {acc most : Nat} {knowns : List (List Bool)} (h : RefAt w c rb evv fv av room es acc most knowns) : ∀ g, evv.ownBlock = some g → g < w.heap.size ∧ Tagged w g 207 := by
  intro g hg
  obtain ⟨svs, e1, e2, e3⟩ := h.evs
  refine ⟨(e2.lt g hg).2, ?_⟩
  obtain ⟨_, h1 | ⟨g', cap, cur, rfl, _, hh, _⟩⟩ := e2
  · rw [h1.1] at hg; cases hg
  · cases hg; exact ⟨cur, hh⟩

theorem RefAt.more {w w6 : World} {c rb : Nat} {evv evv' fv : Value} {av : Nat → Value} {room : Nat} {es : List Ev} {acc most : Nat} {knowns : List (List Bool)} (h : RefAt w c rb evv fv av room es acc most knowns) (hc : Chg (fun x => evv.ownBlock = some x) w w6)
    (e : Ev) (hok : EvOk e) (sv : Value) (hsv : SliceT 4 w sv (bools e.saw)) (svs : List Value) (hsl : svs.length = es.length) (hsvs : ∀ j (h : j < svs.length) (h' : j < es.length), SliceT 4 w svs[j] (bools es[j].saw)) (hn : es.length + 1 ≤ 500)
    (hown : w6.ownsRow 0 207 5 evv' (es.length + 1) (evCells es svs ++ [.string e.p, .int .u8 (e.a.toNat : Int), .string e.v, .int .i64 e.n, sv])) : RefAt (w6.setCell ⟨c, 2, none⟩ evv') c rb evv' fv av room (es ++ [e]) acc most knowns := by
  have hm : ∀ t b, t ≠ 207 → Tagged w b t → ¬ evv.ownBlock = some b := fun t b ht hb he => hb.ne (h.evLt b he).2 ht rfl
  have hc1 := hm _ c (by decide) h.tc
  have hc2 := hm _ rb (by decide) h.trb
  have hS : ∀ t v xs, (t = 4 ∨ t = 3) → SliceT t w v xs → SliceT t w6 v xs := fun t v xs ht hs => hs.chg hc (fun b hb => hm t b (by rcases ht with rfl | rfl <;> decide) hb)
  have t6 : Tagged w6 c 152 := h.tc.chg hc hc1
  have tr6 : Tagged w6 rb 147 := h.trb.chg hc hc2
  have hS7 : ∀ t v xs, (t = 4 ∨ t = 3) → SliceT t w v xs → SliceT t (w6.setCell ⟨c, 2, none⟩ evv') v xs := fun t v xs ht hs => (hS t v xs ht hs).chgT (b := c) ((Chg.refl (fun x => x = c) w6).setCell (p := ⟨c, 2, none⟩) rfl _) t6 (by rcases ht with rfl | rfl <;> decide)
  have hcc : ∀ o, w6.cell? ⟨c, o, none⟩ = w.cell? ⟨c, o, none⟩ := fun o => World.cell?_of_block (w := w) (hc.block c h.tc.lt hc1)
  have hrr : ∀ o, w6.cell? ⟨rb, o, none⟩ = w.cell? ⟨rb, o, none⟩ := fun o => World.cell?_of_block (w := w) (hc.block rb h.trb.lt hc2)
  have hne : c ≠ rb := h.tc.ne h.trb (by decide)
  obtain ⟨cap, f1, hcap⟩ := h.f1
  refine ⟨t6.setCell _ _, tr6.setCell _ _, h.room50, h.n6, by simpa using hn, (cs_oth (Or.inr (by omega))).trans ((hcc 0).trans h.f0), ⟨cap, (cs_oth (Or.inr (by omega))).trans ((hcc 1).trans f1), hcap⟩, cs_same ((hcc 2).trans h.f2), (cs_oth (Or.inr (by omega))).trans ((hcc 3).trans h.f3), h.a500, h.m500,
    ⟨svs ++ [sv], by simp [hsl], ?_, ?_⟩, ?_, fun i hi => (h.reps i hi).keep (Nat.le_refl _) hS7 (fun j _ => (cs_oth (Or.inl hne)).trans (hrr _)), fun k hk => by have := h.kn k hk; simp; omega, (cs_oth (Or.inr (by omega))).trans ((hcc 4).trans h.f4), fun i hi => (cs_oth (Or.inl hne)).trans ((hrr _).trans (h.a11 i hi))⟩
  · rw [evCells_snoc es svs hsl, List.length_append]
    refine ownsRow_chg (M := fun x => x = c) hown ((Chg.refl (fun x => x = c) w6).setCell (p := ⟨c, 2, none⟩) rfl _) ?_
    intro g hg e'
    obtain ⟨_, h1 | ⟨g', cap', cur, rfl, _, hh, _⟩⟩ := hown
    · rw [h1.1] at hg; cases hg
    · cases hg; exact (Tagged.ne ⟨cur, hh⟩ t6 (by decide)) e'
  · intro j h1 h2
    by_cases hj : j < es.length
    · have e1 : (svs ++ [sv])[j] = svs[j]'(by omega) := List.getElem_append_left (by omega)
      have e2 : (es ++ [e])[j] = es[j] := List.getElem_append_left hj
      rw [e1, e2]; exact hS7 _ _ _ (Or.inl rfl) (hsvs j (by omega) hj)
    · have hje : j = es.length := by simp at h2; omega
      have e1 : (svs ++ [sv])[j] = sv := by rw [List.getElem_append_right (by omega)]; simp
      have e2 : (es ++ [e])[j] = e := by rw [List.getElem_append_right (by omega)]; simp
      rw [e1, e2]; exact hS7 _ _ _ (Or.inl rfl) hsv
  · intro x hx
    rcases List.mem_append.1 hx with h1 | h1
    · exact h.ok x h1
    · simp at h1; rw [h1]; exact hok

theorem RefAt.accept {w : World} {c rb : Nat} {evv fv : Value} {av : Nat → Value} {room : Nat} {es : List Ev} {acc most : Nat} {knowns : List (List Bool)} (h : RefAt w c rb evv fv av room es acc most knowns) (n : Nat) (hn : n ≤ 500) : RefAt (w.setCell ⟨c, 3, none⟩ (.int .i64 (n : Int))) c rb evv fv av room es n most knowns := by
  have hc : Chg (fun x => x = c) w (w.setCell ⟨c, 3, none⟩ (.int .i64 (n : Int))) := (Chg.refl (fun x => x = c) w).setCell (p := ⟨c, 3, none⟩) rfl _
  have hne : c ≠ rb := h.tc.ne h.trb (by decide)
  have hS : ∀ t v xs, (t = 4 ∨ t = 3) → SliceT t w v xs → SliceT t (w.setCell ⟨c, 3, none⟩ (.int .i64 (n : Int))) v xs := fun t v xs ht hs => hs.chgT hc h.tc (by rcases ht with rfl | rfl <;> decide)
  obtain ⟨cap, f1, hcap⟩ := h.f1
  obtain ⟨svs, e1, e2, e3⟩ := h.evs
  exact ⟨h.tc.setCell _ _, h.trb.setCell _ _, h.room50, h.n6, h.n500, (cs_oth (Or.inr (by omega))).trans h.f0, ⟨cap, (cs_oth (Or.inr (by omega))).trans f1, hcap⟩, (cs_oth (Or.inr (by omega))).trans h.f2, cs_same h.f3, hn, h.m500,
    ⟨svs, e1, ownsRow_chg e2 hc (fun g hg e => ((h.evLt g hg).2.ne h.tc (by decide)) e), fun j a b => hS _ _ _ (Or.inl rfl) (e3 j a b)⟩, h.ok, fun i hi => (h.reps i hi).keep (Nat.le_refl _) hS (fun j _ => cs_oth (Or.inl hne)), h.kn, (cs_oth (Or.inr (by omega))).trans h.f4, fun i hi => (cs_oth (Or.inl hne)).trans (h.a11 i hi)⟩

theorem Blk5.set4 {b : Nat} {v0 v1 v2 v3 v4 : Value} {w : World} (h : Blk5 b v0 v1 v2 v3 v4 w) (u : Value) (ht : ∀ j, (w.setCell ⟨b, 4, none⟩ u).frozen? ⟨b, j, none⟩ = false) : Blk5 b v0 v1 v2 v3 u (w.setCell ⟨b, 4, none⟩ u) :=
  ⟨(cs_oth (Or.inr (by omega))).trans h.c0, (cs_oth (Or.inr (by omega))).trans h.c1, (cs_oth (Or.inr (by omega))).trans h.c2, (cs_oth (Or.inr (by omega))).trans h.c3, cs_same h.c4, ht⟩

theorem Chg.trans' {M N : Nat → Prop} {a b c : World} (h : Chg M a b) (k : Chg N b c) (hN : ∀ x, x < a.heap.size → N x → M x) : Chg M a c :=
  ⟨k.os.trans h.os, k.tape.trans h.tape, k.output.trans h.output, Nat.le_trans h.size k.size, fun i hi hm => (k.block i (Nat.lt_of_lt_of_le hi h.size) (fun hn => hm (hN i hi hn))).trans (h.block i hi hm)⟩
theorem setA {W3 w5 : World} {e0 : Nat} {v0 v1 v2 v3 v4 : Value} {t : TypeId} (hE : Blk5 e0 v0 v1 v2 v3 v4 W3) (hT : Tagged W3 e0 t) (hb : Below W3.heap.size W3 w5) (u : Value) :
    Blk5 e0 v0 v1 v2 v3 u (w5.setCell ⟨e0, 4, none⟩ u) ∧ Chg (fun x => x = e0) W3 (w5.setCell ⟨e0, 4, none⟩ u) :=
  ⟨(hE.below hb hT.lt).set4 u (fun j => ((hT.below hb).setCell _ _).frozen j), (Chg.of_below (M := fun x => x = e0) hb).setCell (p := ⟨e0, 4, none⟩) rfl _⟩

theorem own_full {w : World} {B g n : Nat} {e : TypeId} {xs : List Value} (h : w.ownsRow B e 1 (.slice (some ⟨g, 0, none⟩) n n) n xs) : w.heap[g]? = some (.cells xs.toArray e (0, 0)) := by
  obtain ⟨hl, ⟨h1, _⟩ | ⟨g', cap, cur, hv, _, hh, _, _, hs, ht⟩⟩ := h
  · cases h1
  · simp only [Value.slice.injEq, Option.some.injEq, Addr.mk.injEq, true_and, and_true] at hv
    obtain ⟨rfl, rfl⟩ := hv
    have : cur.toList = xs := by rw [← ht, List.take_of_length_le (by rw [Array.length_toList, hs]; exact Nat.le_refl _)]
    rw [hh, ← this]

theorem cell_of_heap {w : World} {g : Nat} {xs : List Value} {e : TypeId} (h : w.heap[g]? = some (.cells xs.toArray e (0, 0))) (j : Nat) : w.cell? ⟨g, j, none⟩ = xs[j]? := by
  simp [World.cell?, h]

def moreOf (known : List Bool) (n : Nat) : List Bool := known ++ List.replicate (n - known.length) false ++ [true]
theorem moreOf_length (known : List Bool) (n : Nat) (h : known.length ≤ n) : (moreOf known n).length = n + 1 := by unfold moreOf; simp; omega

theorem more_slice {w9 : World} {g n : Nat} {known : List Bool} (hk : known.length ≤ n) (hg : w9.heap[g]? = some (.cells (splice (List.replicate (n + 1) (.bool false)) 0 (bools known)).toArray 4 (0, 0))) :
    SliceT 4 (w9.setCell ⟨g, n, none⟩ (.bool true)) (.slice (some ⟨g, 0, none⟩) (n + 1) (n + 1)) (bools (moreOf known n)) ∧ w9.cell? ⟨g, n, none⟩ = some (.bool false) := by
  have hsp : ∀ j, (splice (List.replicate (n + 1) (.bool false)) 0 (bools known))[j]? = if j < known.length then (bools known)[j]? else if j < n + 1 then some (.bool false) else none := by
    intro j
    unfold splice
    simp only [List.take_zero, List.nil_append, Nat.zero_add]
    have hl : (bools known).length = known.length := by simp [bools]
    by_cases h : j < known.length
    · rw [if_pos h, List.getElem?_append_left (by omega)]
    · rw [if_neg h, List.getElem?_append_right (by omega), List.getElem?_drop, List.getElem?_replicate, hl]
      by_cases h2 : j < n + 1
      · rw [if_pos h2, if_pos (by omega)]
      · rw [if_neg h2, if_neg (by omega)]
  have hcn : w9.cell? ⟨g, n, none⟩ = some (.bool false) := by rw [cell_of_heap hg, hsp, if_neg (by omega), if_pos (by omega)]
  refine ⟨Or.inr ⟨g, 0, n + 1, ?_, ?_, Tagged.setCell ⟨_, hg⟩ _ _, ?_⟩, hcn⟩
  · simp [bools, moreOf_length _ _ hk]
  · simp [bools, moreOf_length _ _ hk]
  · intro j hj
    have hjl : j < n + 1 := by simpa [bools, moreOf_length _ _ hk] using hj
    rw [Nat.zero_add]
    have he : (bools (moreOf known n))[j] = .bool ((moreOf known n)[j]'(by simpa [bools] using hj)) := by simp [bools]
    rw [he]
    by_cases h : j = n
    · subst h
      rw [cs_same hcn]
      congr 2
      unfold moreOf
      rw [List.getElem_append_right (by simp; omega)]; simp
    · rw [cs_oth (Or.inr (by omega)), cell_of_heap hg, hsp]
      by_cases h2 : j < known.length
      · rw [if_pos h2, List.getElem?_eq_getElem (by simpa [bools] using h2)]
        congr 1
        simp only [bools, List.getElem_map]
        congr 1
        unfold moreOf
        rw [List.getElem_append_left (by simp; omega), List.getElem_append_left h2]
      · rw [if_neg h2, if_pos hjl]
        congr 2
        unfold moreOf
        rw [List.getElem_append_left (by simp; omega), List.getElem_append_right (by omega)]; simp

theorem made_bool (m : Nat) : (madeCells (Value.bool false).cells m).toList = List.replicate m (.bool false) := by
  apply List.ext_getElem
  · simp [madeCells]
  · intro i h1 h2
    simp [madeCells, Value.cells, Nat.mod_one]

theorem wrap_in (n : Int) (h0 : -9223372036854775808 ≤ n) (h1 : n ≤ 9223372036854775807) : IntKind.i64.wrap n = n := by
  unfold IntKind.wrap
  simp [IntKind.bits, IntKind.signed]
  omega

set_option maxHeartbeats 400000 in
theorem num_any (e : Int) (w : World) : Calls Tryz.prog 82 #[.int .i64 e] w fun r w' => r = .returned (.int .i64 e) ∧ w' = w := by
  go_enter Tryz.func82, Tryz.ntmps82
  go_wp2
  go_ret
  exact ⟨rfl, rfl⟩


def Thk.isAln (c : UInt8) : Bool := Thk.isLow c || Thk.isDig c
def Thk.word (p : UInt8 → Bool) (m : Nat) (l : Thk.Bs) : Bool := decide (1 ≤ l.length) && decide (l.length ≤ m) && l.all p

set_option maxHeartbeats 400000 in
theorem isLetter_any (c : UInt8) (w : World) :
    Calls Tryz.prog 126 #[.int .u8 (c.toNat : Int)] w fun e w' => e = .returned (.bool (Thk.isLow c)) ∧ w' = w := by
  go_enter Tryz.func126, Tryz.ntmps126
  go_wp2
  all_goals
    go_ret
    refine ⟨ret_bool ?_, rfl⟩
    unfold Thk.isLow
    rw [Bool.eq_iff_iff]
    simp
    try omega

set_option maxHeartbeats 400000 in
theorem isLetterOrDigit_any (c : UInt8) (w : World) :
    Calls Tryz.prog 116 #[.int .u8 (c.toNat : Int)] w fun e w' => e = .returned (.bool (Thk.isLow c || Thk.isDig c)) ∧ w' = w := by
  cases hl : Thk.isLow c
  · have Hl : Hid (_) := hl
    have hl2 : ¬ (97 ≤ c.toNat ∧ c.toNat ≤ 122) := by unfold Thk.isLow at hl; simp at hl; omega
    clear hl
    go_enter Tryz.func116, Tryz.ntmps116
    go_wp2_with (go_at_call 126; refine (isLetter_any _ _).mono ?_; rintro e w' ⟨rfl, rfl⟩; rw [Hl.out])
    all_goals
      go_ret
      refine ⟨ret_bool ?_, rfl⟩
      unfold Thk.isDig
      rw [Bool.eq_iff_iff]
      simp
      try omega
  · have Hl : Hid (_) := hl
    clear hl
    go_enter Tryz.func116, Tryz.ntmps116
    go_wp2_with (go_at_call 126; refine (isLetter_any _ _).mono ?_; rintro e w' ⟨rfl, rfl⟩; rw [Hl.out])
    go_ret
    exact ⟨ret_bool rfl, rfl⟩

theorem isAln_any (c : UInt8) (w : World) : Calls Tryz.prog 116 #[.int .u8 (c.toNat : Int)] w fun e w' => e = .returned (.bool (Thk.isAln c)) ∧ w' = w := isLetterOrDigit_any c w
theorem word_false_len (p : UInt8 → Bool) (l : Thk.Bs) (m : Nat) (h : l.length < 1 ∨ m < l.length) : Thk.word p m l = false := by
  unfold Thk.word
  rcases h with h | h
  · have : decide (1 ≤ l.length) = false := by rw [decide_eq_false_iff_not]; omega
    rw [this]; rfl
  · have : decide (l.length ≤ m) = false := by rw [decide_eq_false_iff_not]; omega
    rw [this]; simp
theorem word_false_at (p : UInt8 → Bool) (s : ByteArray) (m k : Nat) (hk : k < s.size) (h : p s[k] = false) : Thk.word p m (toL s) = false := by
  have : (toL s).all p = false := by
    rw [List.all_eq_false]; refine ⟨(toL s)[k]'(by rw [toL_length]; exact hk), List.getElem_mem _, ?_⟩
    rw [toL_get s k hk, h]; simp
  unfold Thk.word; rw [this]; simp
theorem word_true (p : UInt8 → Bool) (s : ByteArray) (m : Nat) (h1 : 1 ≤ s.size) (h2 : s.size ≤ m) (h : ∀ j (hj : j < s.size), p s[j] = true) : Thk.word p m (toL s) = true := by
  have : (toL s).all p = true := by
    rw [List.all_eq_true]; intro x hx
    obtain ⟨i, hi, rfl⟩ := List.getElem_of_mem hx
    rw [toL_length] at hi
    rw [toL_get s i hi]; exact h i hi
  unfold Thk.word; rw [this, toL_length]; simp [h1, h2]

set_option maxHeartbeats 400000 in
theorem isWord_letters (s : ByteArray) (m : Nat) (w : World) (hs : s.size ≤ 1048576) (hm : m ≤ 100) :
    Calls Tryz.prog 115 #[.string s, .int .i64 (m : Int), .func (.func 126) #[] #[]] w fun e w' => e = .returned (.bool (Thk.word Thk.isLow m (toL s))) ∧ w' = w := by
  by_cases hl : s.size < 1 ∨ m < s.size
  · have hfin : Hid (Thk.word Thk.isLow m (toL s) = false) := word_false_len _ _ _ (by rw [toL_length]; exact hl)
    rcases hl with hl | hl
    all_goals
      go_enter Tryz.func115, Tryz.ntmps115
      go_wp2
      all_goals first | (go_ret; exact ⟨ret_bool hfin.out.symm, rfl⟩) | (exfalso; omega)
  · have h1 : ¬ s.size < 1 := by omega
    have h2 : ¬ m < s.size := by omega
    clear hl
    go_enter Tryz.func115, Tryz.ntmps115
    go_wp2
    go_loop [19] (fun i => ∃ k : Nat, k ≤ s.size ∧ i = .int .i64 k ∧ Hid (∀ j (hj : j < s.size), j < k → Thk.isLow s[j] = true)) (fun i => s.size - (intOf i).toNat)
    case atStart => exact ⟨0, by omega, rfl, fun j _ h => by omega⟩
    case round =>
      obtain ⟨k, hk, rfl, Hall⟩ := hrel
      by_cases hlt : k < s.size
      · cases hp : Thk.isLow s[k]
        · have hfin : Hid (Thk.word Thk.isLow m (toL s) = false) := word_false_at _ s m k hlt hp
          have Hp : Hid (_) := hp
          clear hp Hall
          go_wp2_with (go_at_call 126; refine (isLetter_any _ _).mono ?_; rintro e w' ⟨rfl, rfl⟩; rw [Hp.out])
          go_ret
          exact ⟨ret_bool hfin.out.symm, rfl⟩
        · have Hn : Hid (∀ j (hj : j < s.size), j < k + 1 → Thk.isLow s[j] = true) := by
            intro j hj h
            by_cases e : j = k
            · subst e; exact hp
            · exact Hall.out j hj (by omega)
          have Hp : Hid (_) := hp
          clear hp Hall
          go_wp2_with (go_at_call 126; refine (isLetter_any _ _).mono ?_; rintro e w' ⟨rfl, rfl⟩; rw [Hp.out])
          go_round
          case rel => exact ⟨k + 1, by omega, by go_num, Hn⟩
          case measure => simp [intOf]; omega
      · have hfin : Hid (Thk.word Thk.isLow m (toL s) = true) := word_true _ s m (by omega) (by omega) (fun j hj => Hall.out j hj (by omega))
        clear Hall
        go_wp2
        go_ret
        exact ⟨ret_bool hfin.out.symm, rfl⟩

set_option maxHeartbeats 400000 in
theorem isWord_alnum (s : ByteArray) (m : Nat) (w : World) (hs : s.size ≤ 1048576) (hm : m ≤ 100) :
    Calls Tryz.prog 115 #[.string s, .int .i64 (m : Int), .func (.func 116) #[] #[]] w fun e w' => e = .returned (.bool (Thk.word Thk.isAln m (toL s))) ∧ w' = w := by
  by_cases hl : s.size < 1 ∨ m < s.size
  · have hfin : Hid (Thk.word Thk.isAln m (toL s) = false) := word_false_len _ _ _ (by rw [toL_length]; exact hl)
    rcases hl with hl | hl
    all_goals
      go_enter Tryz.func115, Tryz.ntmps115
      go_wp2
      all_goals first | (go_ret; exact ⟨ret_bool hfin.out.symm, rfl⟩) | (exfalso; omega)
  · have h1 : ¬ s.size < 1 := by omega
    have h2 : ¬ m < s.size := by omega
    clear hl
    go_enter Tryz.func115, Tryz.ntmps115
    go_wp2
    go_loop [19] (fun i => ∃ k : Nat, k ≤ s.size ∧ i = .int .i64 k ∧ Hid (∀ j (hj : j < s.size), j < k → Thk.isAln s[j] = true)) (fun i => s.size - (intOf i).toNat)
    case atStart => exact ⟨0, by omega, rfl, fun j _ h => by omega⟩
    case round =>
      obtain ⟨k, hk, rfl, Hall⟩ := hrel
      by_cases hlt : k < s.size
      · cases hp : Thk.isAln s[k]
        · have hfin : Hid (Thk.word Thk.isAln m (toL s) = false) := word_false_at _ s m k hlt hp
          have Hp : Hid (_) := hp
          clear hp Hall
          go_wp2_with (go_at_call 116; refine (isAln_any _ _).mono ?_; rintro e w' ⟨rfl, rfl⟩; rw [Hp.out])
          go_ret
          exact ⟨ret_bool hfin.out.symm, rfl⟩
        · have Hn : Hid (∀ j (hj : j < s.size), j < k + 1 → Thk.isAln s[j] = true) := by
            intro j hj h
            by_cases e : j = k
            · subst e; exact hp
            · exact Hall.out j hj (by omega)
          have Hp : Hid (_) := hp
          clear hp Hall
          go_wp2_with (go_at_call 116; refine (isAln_any _ _).mono ?_; rintro e w' ⟨rfl, rfl⟩; rw [Hp.out])
          go_round
          case rel => exact ⟨k + 1, by omega, by go_num, Hn⟩
          case measure => simp [intOf]; omega
      · have hfin : Hid (Thk.word Thk.isAln m (toL s) = true) := word_true _ s m (by omega) (by omega) (fun j hj => Hall.out j hj (by omega))
        clear Hall
        go_wp2
        go_ret
        exact ⟨ret_bool hfin.out.symm, rfl⟩

end Go.Proofs.YtoiiaankpnhppaaGreatDoor

