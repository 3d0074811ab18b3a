import Derived.Laws.CopyOwn
import Derived.Lib.ParseIntB
import Derived.Lib.ItoaNum
import Derived.Deep.OwnRows
import Derived.Test.YtoiiaankpnhppaaGreatDoorPart03
import Derived.Test.YtoiiaankpnhppaaGreatDoorPart04
set_option linter.unusedVariables false
set_option linter.unusedSimpArgs false
namespace Go.Proofs.YtoiiaankpnhppaaGreatDoor
open Go.RowKit

theorem Tryz.info4 : (Tryz.prog.info? 4).map (fun i => (i.zero, i.size, i.bytes)) = some (some (.bool false), 1, 1) := by kernel_rfl
theorem Tryz.infoEv : (Tryz.prog.info? 207).map (fun i => (i.zero, i.size, i.bytes)) = some (some zeroEv, 5, 72) := by kernel_rfl

theorem RepAt.keepI {w w' : World} {rb off : Nat} {known : List Bool} {most most' : Nat} (h : RepAt w rb off known most) (hm : most ≤ most') (hS : ∀ v xs, SliceT 4 w v xs → SliceT 4 w' v xs) (hI : IntsKept w w')
    (hcell : ∀ i, i < 13 → w'.cell? ⟨rb, off + i, none⟩ = w.cell? ⟨rb, off + i, none⟩) : RepAt w' rb off known most' := by
  obtain ⟨⟨kv, a0, b0⟩, a1, a7, ⟨m9, a9, b9⟩, ⟨kp, kl, a10, b10, d10⟩, ⟨m12, a12, b12⟩, hz⟩ := h
  obtain ⟨kl', hl', b10'⟩ := b10.numbers hI
  exact ⟨⟨kv, (hcell 0 (by omega)).trans a0, hS _ _ b0⟩, (hcell 1 (by omega)).trans a1, (hcell 7 (by omega)).trans a7, ⟨m9, (hcell 9 (by omega)).trans a9, by omega⟩, ⟨kp, kl', (hcell 10 (by omega)).trans a10, b10', by omega⟩, ⟨m12, (hcell 12 (by omega)).trans a12, by omega⟩, hz.of (fun i hi => hcell i (by omega))⟩
theorem RefAt.chg {M : Nat → Prop} {w w' : World} {c rb : Nat} {evv fv : Value} {av : Nat → Value} {room : Nat} {es : List Ev} {acc most : Nat} {knowns : List (List Bool)} (h : RefAt w c rb evv fv av room es acc most knowns) (hc : Chg M w w')
    (h1 : ¬ M c) (h2 : ¬ M rb) (h3 : ∀ g, evv.ownBlock = some g → ¬ M g) (h4 : ∀ b, Tagged w b 4 → ¬ M b) (h5 : IntsKept w w') : RefAt w' c rb evv fv av room es acc most knowns := by
  have hcc : ∀ o, w'.cell? ⟨c, o, none⟩ = w.cell? ⟨c, o, none⟩ := fun o => World.cell?_of_block (w := w) (hc.block c h.tc.lt h1)
  have hrr : ∀ o, w'.cell? ⟨rb, o, none⟩ = w.cell? ⟨rb, o, none⟩ := fun o => World.cell?_of_block (w := w) (hc.block rb h.trb.lt h2)
  obtain ⟨cap, f1, hcap⟩ := h.f1
  obtain ⟨svs, e1, e2, e3⟩ := h.evs
  exact ⟨h.tc.chg hc h1, h.trb.chg hc h2, h.room50, h.n6, h.n500, (hcc 0).trans h.f0, ⟨cap, (hcc 1).trans f1, hcap⟩, (hcc 2).trans h.f2, (hcc 3).trans h.f3, h.a500, h.m500, ⟨svs, e1, ownsRow_chg e2 hc h3, fun j a b => (e3 j a b).chg hc h4⟩, h.ok, fun i hi => (h.reps i hi).keepI (Nat.le_refl _) (fun v xs hs => hs.chg hc h4) h5 (fun j _ => hrr _), h.kn, (hcc 4).trans h.f4, fun i hi => (hrr _).trans (h.a11 i hi)⟩

theorem RefAt.evLt {w : World} {c rb : Nat} {evv fv : Value} {av : Nat → Value} {room : Nat} {es : List Ev} {acc most : Nat} {knowns : List (List Bool)} (h : RefAt w c rb evv fv av room es acc most knowns) : ∀ g, evv.ownBlock = some g → g < w.heap.size ∧ Tagged w g 207 := by
  intro g hg
  obtain ⟨svs, e1, e2, e3⟩ := h.evs
  refine ⟨(e2.lt g hg).2, ?_⟩
  obtain ⟨_, h1 | ⟨g', cap, cur, rfl, _, hh, _⟩⟩ := e2
  · rw [h1.1] at hg; cases hg
  · cases hg; exact ⟨cur, hh⟩

theorem RefAt.more {w w6 : World} {c rb : Nat} {evv evv' fv : Value} {av : Nat → Value} {room : Nat} {es : List Ev} {acc most : Nat} {knowns : List (List Bool)} (h : RefAt w c rb evv fv av room es acc most knowns) (hc : Chg (fun x => evv.ownBlock = some x) w w6)
    (e : Ev) (hok : EvOk e) (sv : Value) (hsv : SliceT 4 w sv (bools e.saw)) (svs : List Value) (hsl : svs.length = es.length) (hsvs : ∀ j (h : j < svs.length) (h' : j < es.length), SliceT 4 w svs[j] (bools es[j].saw)) (hn : es.length + 1 ≤ 500)
    (hown : w6.ownsRow 0 207 5 evv' (es.length + 1) (evCells es svs ++ [.string e.p, .int .u8 (e.a.toNat : Int), .string e.v, .int .i64 e.n, sv])) : RefAt (w6.setCell ⟨c, 2, none⟩ evv') c rb evv' fv av room (es ++ [e]) acc most knowns := by
  have hm : ∀ t b, t ≠ 207 → Tagged w b t → ¬ evv.ownBlock = some b := fun t b ht hb he => hb.ne (h.evLt b he).2 ht rfl
  have hc1 := hm _ c (by decide) h.tc
  have hc2 := hm _ rb (by decide) h.trb
  have hS : ∀ t v xs, (t = 4 ∨ t = 3) → SliceT t w v xs → SliceT t w6 v xs := fun t v xs ht hs => hs.chg hc (fun b hb => hm t b (by rcases ht with rfl | rfl <;> decide) hb)
  have t6 : Tagged w6 c 152 := h.tc.chg hc hc1
  have tr6 : Tagged w6 rb 147 := h.trb.chg hc hc2
  have hS7 : ∀ t v xs, (t = 4 ∨ t = 3) → SliceT t w v xs → SliceT t (w6.setCell ⟨c, 2, none⟩ evv') v xs := fun t v xs ht hs => (hS t v xs ht hs).chgT (b := c) ((Chg.refl (fun x => x = c) w6).setCell (p := ⟨c, 2, none⟩) rfl _) t6 (by rcases ht with rfl | rfl <;> decide)
  have hcc : ∀ o, w6.cell? ⟨c, o, none⟩ = w.cell? ⟨c, o, none⟩ := fun o => World.cell?_of_block (w := w) (hc.block c h.tc.lt hc1)
  have hrr : ∀ o, w6.cell? ⟨rb, o, none⟩ = w.cell? ⟨rb, o, none⟩ := fun o => World.cell?_of_block (w := w) (hc.block rb h.trb.lt hc2)
  have hne : c ≠ rb := h.tc.ne h.trb (by decide)
  obtain ⟨cap, f1, hcap⟩ := h.f1
  refine ⟨t6.setCell _ _, tr6.setCell _ _, h.room50, h.n6, by simpa using hn, (cs_oth (Or.inr (by omega))).trans ((hcc 0).trans h.f0), ⟨cap, (cs_oth (Or.inr (by omega))).trans ((hcc 1).trans f1), hcap⟩, cs_same ((hcc 2).trans h.f2), (cs_oth (Or.inr (by omega))).trans ((hcc 3).trans h.f3), h.a500, h.m500,
    ⟨svs ++ [sv], by simp [hsl], ?_, ?_⟩, ?_, fun i hi => (h.reps i hi).keep (Nat.le_refl _) hS7 (fun j _ => (cs_oth (Or.inl hne)).trans (hrr _)), fun k hk => by have := h.kn k hk; simp; omega, (cs_oth (Or.inr (by omega))).trans ((hcc 4).trans h.f4), fun i hi => (cs_oth (Or.inl hne)).trans ((hrr _).trans (h.a11 i hi))⟩
  · rw [evCells_snoc es svs hsl, List.length_append]
    refine ownsRow_chg (M := fun x => x = c) hown ((Chg.refl (fun x => x = c) w6).setCell (p := ⟨c, 2, none⟩) rfl _) ?_
    intro g hg e'
    obtain ⟨_, h1 | ⟨g', cap', cur, rfl, _, hh, _⟩⟩ := hown
    · rw [h1.1] at hg; cases hg
    · cases hg; exact (Tagged.ne ⟨cur, hh⟩ t6 (by decide)) e'
  · intro j h1 h2
    by_cases hj : j < es.length
    · have e1 : (svs ++ [sv])[j] = svs[j]'(by omega) := List.getElem_append_left (by omega)
      have e2 : (es ++ [e])[j] = es[j] := List.getElem_append_left hj
      rw [e1, e2]; exact hS7 _ _ _ (Or.inl rfl) (hsvs j (by omega) hj)
    · have hje : j = es.length := by simp at h2; omega
      have e1 : (svs ++ [sv])[j] = sv := by rw [List.getElem_append_right (by omega)]; simp
      have e2 : (es ++ [e])[j] = e := by rw [List.getElem_append_right (by omega)]; simp
      rw [e1, e2]; exact hS7 _ _ _ (Or.inl rfl) hsv
  · intro x hx
    rcases List.mem_append.1 hx with h1 | h1
    · exact h.ok x h1
    · simp at h1; rw [h1]; exact hok

theorem RefAt.accept {w : World} {c rb : Nat} {evv fv : Value} {av : Nat → Value} {room : Nat} {es : List Ev} {acc most : Nat} {knowns : List (List Bool)} (h : RefAt w c rb evv fv av room es acc most knowns) (n : Nat) (hn : n ≤ 500) : RefAt (w.setCell ⟨c, 3, none⟩ (.int .i64 (n : Int))) c rb evv fv av room es n most knowns := by
  have hc : Chg (fun x => x = c) w (w.setCell ⟨c, 3, none⟩ (.int .i64 (n : Int))) := (Chg.refl (fun x => x = c) w).setCell (p := ⟨c, 3, none⟩) rfl _
  have hne : c ≠ rb := h.tc.ne h.trb (by decide)
  have hS : ∀ t v xs, (t = 4 ∨ t = 3) → SliceT t w v xs → SliceT t (w.setCell ⟨c, 3, none⟩ (.int .i64 (n : Int))) v xs := fun t v xs ht hs => hs.chgT hc h.tc (by rcases ht with rfl | rfl <;> decide)
  obtain ⟨cap, f1, hcap⟩ := h.f1
  obtain ⟨svs, e1, e2, e3⟩ := h.evs
  exact ⟨h.tc.setCell _ _, h.trb.setCell _ _, h.room50, h.n6, h.n500, (cs_oth (Or.inr (by omega))).trans h.f0, ⟨cap, (cs_oth (Or.inr (by omega))).trans f1, hcap⟩, (cs_oth (Or.inr (by omega))).trans h.f2, cs_same h.f3, hn, h.m500,
    ⟨svs, e1, ownsRow_chg e2 hc (fun g hg e => ((h.evLt g hg).2.ne h.tc (by decide)) e), fun j a b => hS _ _ _ (Or.inl rfl) (e3 j a b)⟩, h.ok, fun i hi => (h.reps i hi).keep (Nat.le_refl _) hS (fun j _ => cs_oth (Or.inl hne)), h.kn, (cs_oth (Or.inr (by omega))).trans h.f4, fun i hi => (cs_oth (Or.inl hne)).trans (h.a11 i hi)⟩

theorem Blk5.set4 {b : Nat} {v0 v1 v2 v3 v4 : Value} {w : World} (h : Blk5 b v0 v1 v2 v3 v4 w) (u : Value) (ht : ∀ j, (w.setCell ⟨b, 4, none⟩ u).frozen? ⟨b, j, none⟩ = false) : Blk5 b v0 v1 v2 v3 u (w.setCell ⟨b, 4, none⟩ u) :=
  ⟨(cs_oth (Or.inr (by omega))).trans h.c0, (cs_oth (Or.inr (by omega))).trans h.c1, (cs_oth (Or.inr (by omega))).trans h.c2, (cs_oth (Or.inr (by omega))).trans h.c3, cs_same h.c4, ht⟩

theorem Chg.trans' {M N : Nat → Prop} {a b c : World} (h : Chg M a b) (k : Chg N b c) (hN : ∀ x, x < a.heap.size → N x → M x) : Chg M a c :=
  ⟨k.os.trans h.os, k.tape.trans h.tape, k.output.trans h.output, Nat.le_trans h.size k.size, fun i hi hm => (k.block i (Nat.lt_of_lt_of_le hi h.size) (fun hn => hm (hN i hi hn))).trans (h.block i hi hm)⟩
theorem setA {W3 w5 : World} {e0 : Nat} {v0 v1 v2 v3 v4 : Value} {t : TypeId} (hE : Blk5 e0 v0 v1 v2 v3 v4 W3) (hT : Tagged W3 e0 t) (hb : Below W3.heap.size W3 w5) (u : Value) :
    Blk5 e0 v0 v1 v2 v3 u (w5.setCell ⟨e0, 4, none⟩ u) ∧ Chg (fun x => x = e0) W3 (w5.setCell ⟨e0, 4, none⟩ u) :=
  ⟨(hE.below hb hT.lt).set4 u (fun j => ((hT.below hb).setCell _ _).frozen j), (Chg.of_below (M := fun x => x = e0) hb).setCell (p := ⟨e0, 4, none⟩) rfl _⟩

theorem own_full {w : World} {B g n : Nat} {e : TypeId} {xs : List Value} (h : w.ownsRow B e 1 (.slice (some ⟨g, 0, none⟩) n n) n xs) : w.heap[g]? = some (.cells xs.toArray e (0, 0)) := by
  obtain ⟨hl, ⟨h1, _⟩ | ⟨g', cap, cur, hv, _, hh, _, _, hs, ht⟩⟩ := h
  · cases h1
  · simp only [Value.slice.injEq, Option.some.injEq, Addr.mk.injEq, true_and, and_true] at hv
    obtain ⟨rfl, rfl⟩ := hv
    have : cur.toList = xs := by rw [← ht, List.take_of_length_le (by rw [Array.length_toList, hs]; exact Nat.le_refl _)]
    rw [hh, ← this]

theorem cell_of_heap {w : World} {g : Nat} {xs : List Value} {e : TypeId} (h : w.heap[g]? = some (.cells xs.toArray e (0, 0))) (j : Nat) : w.cell? ⟨g, j, none⟩ = xs[j]? := by
  simp [World.cell?, h]

def moreOf (known : List Bool) (n : Nat) : List Bool := known ++ List.replicate (n - known.length) false ++ [true]
theorem moreOf_length (known : List Bool) (n : Nat) (h : known.length ≤ n) : (moreOf known n).length = n + 1 := by unfold moreOf; simp; omega

theorem more_slice {w9 : World} {g n : Nat} {known : List Bool} (hk : known.length ≤ n) (hg : w9.heap[g]? = some (.cells (splice (List.replicate (n + 1) (.bool false)) 0 (bools known)).toArray 4 (0, 0))) :
    SliceT 4 (w9.setCell ⟨g, n, none⟩ (.bool true)) (.slice (some ⟨g, 0, none⟩) (n + 1) (n + 1)) (bools (moreOf known n)) ∧ w9.cell? ⟨g, n, none⟩ = some (.bool false) := by
  have hsp : ∀ j, (splice (List.replicate (n + 1) (.bool false)) 0 (bools known))[j]? = if j < known.length then (bools known)[j]? else if j < n + 1 then some (.bool false) else none := by
    intro j
    unfold splice
    simp only [List.take_zero, List.nil_append, Nat.zero_add]
    have hl : (bools known).length = known.length := by simp [bools]
    by_cases h : j < known.length
    · rw [if_pos h, List.getElem?_append_left (by omega)]
    · rw [if_neg h, List.getElem?_append_right (by omega), List.getElem?_drop, List.getElem?_replicate, hl]
      by_cases h2 : j < n + 1
      · rw [if_pos h2, if_pos (by omega)]
      · rw [if_neg h2, if_neg (by omega)]
  have hcn : w9.cell? ⟨g, n, none⟩ = some (.bool false) := by rw [cell_of_heap hg, hsp, if_neg (by omega), if_pos (by omega)]
  refine ⟨Or.inr ⟨g, 0, n + 1, ?_, ?_, Tagged.setCell ⟨_, hg⟩ _ _, ?_⟩, hcn⟩
  · simp [bools, moreOf_length _ _ hk]
  · simp [bools, moreOf_length _ _ hk]
  · intro j hj
    have hjl : j < n + 1 := by simpa [bools, moreOf_length _ _ hk] using hj
    rw [Nat.zero_add]
    have he : (bools (moreOf known n))[j] = .bool ((moreOf known n)[j]'(by simpa [bools] using hj)) := by simp [bools]
    rw [he]
    by_cases h : j = n
    · subst h
      rw [cs_same hcn]
      congr 2
      unfold moreOf
      rw [List.getElem_append_right (by simp; omega)]; simp
    · rw [cs_oth (Or.inr (by omega)), cell_of_heap hg, hsp]
      by_cases h2 : j < known.length
      · rw [if_pos h2, List.getElem?_eq_getElem (by simpa [bools] using h2)]
        congr 1
        simp only [bools, List.getElem_map]
        congr 1
        unfold moreOf
        rw [List.getElem_append_left (by simp; omega), List.getElem_append_left h2]
      · rw [if_neg h2, if_pos hjl]
        congr 2
        unfold moreOf
        rw [List.getElem_append_left (by simp; omega), List.getElem_append_right (by omega)]; simp

theorem made_bool (m : Nat) : (madeCells (Value.bool false).cells m).toList = List.replicate m (.bool false) := by
  apply List.ext_getElem
  · simp [madeCells]
  · intro i h1 h2
    simp [madeCells, Value.cells, Nat.mod_one]

theorem wrap_in (n : Int) (h0 : -9223372036854775808 ≤ n) (h1 : n ≤ 9223372036854775807) : IntKind.i64.wrap n = n := by
  unfold IntKind.wrap
  simp [IntKind.bits, IntKind.signed]
  omega
end Go.Proofs.YtoiiaankpnhppaaGreatDoor
namespace Go.Proofs.YtoiiaankpnhppaaGreatDoor
namespace Thk
open Go

theorem foldl_ge (r : Bs) : ∀ n, n ≤ r.foldl (fun n c => 10 * n + dgt c) n := by
  induction r with
  | nil => intro n; exact Nat.le_refl _
  | cons x r ih => intro n; simp only [List.foldl_cons]; have := ih (10 * n + dgt x); omega

theorem parse_ok (M : Nat) (hM : 1000000000 ≤ M) : ∀ (r : Bs) (acc : Nat), r.all isDig = true → r.foldl (fun n c => 10 * n + dgt c) acc ≤ 1000000000 →
    Lib.parseUintM M acc r = .ok (r.foldl (fun n c => 10 * n + dgt c) acc) := by
  intro r
  induction r with
  | nil => intro acc _ _; rfl
  | cons x r ih =>
    intro acc hd hf
    simp only [List.all_cons, Bool.and_eq_true] at hd
    simp only [List.foldl_cons] at hf ⊢
    have hg := foldl_ge r (10 * acc + dgt x)
    have hx := hd.1
    unfold isDig at hx
    simp only [Bool.and_eq_true, decide_eq_true_eq] at hx
    have e : acc * 10 + (x.toNat - 48) = 10 * acc + dgt x := by unfold dgt; omega
    rw [Lib.parseUintM, if_pos hx, if_neg (by omega), e, if_neg (by omega)]
    exact ih _ hd.2 hf

theorem numv_pos (l : Bs) (h0 : l ≠ []) (hd : l.all isDig = true) (hh : l.head? ≠ some 48) : 1 ≤ numv l := by
  cases l with
  | nil => exact absurd rfl h0
  | cons x r =>
    unfold numv
    simp only [List.foldl_cons]
    have hg := foldl_ge r (10 * 0 + dgt x)
    simp only [List.all_cons, Bool.and_eq_true] at hd
    have hx := hd.1
    unfold isDig at hx
    simp only [Bool.and_eq_true, decide_eq_true_eq] at hx
    have h48 : x.toNat ≠ 48 := by
      intro h; apply hh; simp only [List.head?_cons, Option.some.injEq]
      exact UInt8.toNat_inj.1 h
    unfold dgt at hg ⊢
    omega

theorem ofNat_dgt (c : UInt8) (h : isDig c = true) : UInt8.ofNat (48 + dgt c) = c := by
  unfold isDig at h
  simp only [Bool.and_eq_true, decide_eq_true_eq] at h
  apply UInt8.toNat_inj.1
  unfold dgt
  rw [show 48 + (c.toNat - 48) = c.toNat by omega]
  simp

theorem dgt_le (c : UInt8) (h : isDig c = true) : dgt c ≤ 9 := by
  unfold isDig at h
  simp only [Bool.and_eq_true, decide_eq_true_eq] at h
  unfold dgt; omega

theorem dec_numv : ∀ (n : Nat) (l : Bs), l.length = n → l ≠ [] → l.all isDig = true → (l.head? ≠ some 48 ∨ l.length = 1) → Lib.decDigits (numv l) = l := by
  intro n
  induction n with
  | zero => intro l h0 h1; cases l with
    | nil => exact absurd rfl h1
    | cons => simp at h0
  | succ n ih =>
    intro l hl h1 hd hh
    obtain ⟨i, c, rfl⟩ : ∃ i c, l = i ++ [c] := ⟨l.dropLast, l.getLast h1, (List.dropLast_concat_getLast h1).symm⟩
    simp only [List.all_append, List.all_cons, List.all_nil, Bool.and_true, Bool.and_eq_true] at hd
    simp only [List.length_append, List.length_cons, List.length_nil] at hl hh
    have hc := dgt_le c hd.2
    rw [numv_snoc]
    by_cases hi : i = []
    · subst hi
      have : numv [] = 0 := rfl
      rw [this, Lib.decDigits, dif_pos (by omega), show 48 + (10 * 0 + dgt c) = 48 + dgt c by omega, ofNat_dgt c hd.2]; (first | done | rfl)
    · have hil : 0 < i.length := List.length_pos_iff.2 hi
      have hih : i.head? ≠ some 48 := by
        rcases hh with hh | hh
        · cases i with
          | nil => exact absurd rfl hi
          | cons => simpa using hh
        · omega
      have hp := numv_pos i hi hd.1 hih
      rw [Lib.decDigits, dif_neg (by omega), show (10 * numv i + dgt c) / 10 = numv i by omega, show (10 * numv i + dgt c) % 10 = dgt c by omega, ofNat_dgt c hd.2,
        ih i (by omega) hi hd.1 (.inl hih)]

theorem dig_of (d : Nat) (h : d < 10) : isDig (UInt8.ofNat (48 + d)) = true ∧ dgt (UInt8.ofNat (48 + d)) = d := by
  have : (UInt8.ofNat (48 + d)).toNat = 48 + d := by simp; omega
  unfold isDig dgt
  rw [this]
  simp; omega

theorem dec_facts (u : Nat) : (Lib.decDigits u).all isDig = true ∧ numv (Lib.decDigits u) = u ∧ Lib.decDigits u ≠ [] ∧ (1 ≤ u → (Lib.decDigits u).head? ≠ some 48) := by
  induction u using Nat.strongRecOn with
  | ind u ih =>
    rw [Lib.decDigits]
    by_cases h : u < 10
    · rw [dif_pos h]
      have hd := dig_of u h
      refine ⟨by rw [List.all_cons, hd.1]; (first | done | rfl), by unfold numv; rw [List.foldl_cons, hd.2]; simp, by simp, ?_⟩
      intro h1 h2
      simp only [List.head?_cons, Option.some.injEq] at h2
      have := hd.2
      rw [h2] at this
      have h3 : dgt 48 = 0 := rfl
      omega
    · rw [dif_neg h]
      obtain ⟨h1, h2, h3, h4⟩ := ih (u / 10) (by omega)
      have hd := dig_of (u % 10) (by omega)
      refine ⟨by rw [List.all_append, h1, List.all_cons, hd.1]; (first | done | rfl), by rw [numv_snoc, h2, hd.2]; omega, by simp, ?_⟩
      intro _
      have h5 := h4 (by omega)
      cases hi : Lib.decDigits (u / 10) with
      | nil => exact absurd hi h3
      | cons => rw [hi] at h5; simpa using h5

theorem nD_le : ∀ (k u : Nat), u < 10 ^ (k + 1) → Lib.nDigits u ≤ k + 1 := by
  intro k
  induction k with
  | zero => intro u h; rw [Lib.nDigits_small (by simpa using h)]; omega
  | succ k ih =>
    intro u h
    by_cases h1 : u < 10
    · rw [Lib.nDigits_small h1]; omega
    · rw [Lib.nDigits_big h1]
      have := ih (u / 10) (by rw [Nat.pow_succ] at h; omega)
      omega

theorem dec_len (u : Nat) (h : u ≤ 1000000000) : (Lib.decDigits u).length ≤ 10 := by
  rw [Lib.decDigits_length]; exact nD_le 9 u (by omega)

theorem numAbs_dec (neg : Bool) (u : Nat) (h : u ≤ 1000000000) (hn : neg = true → 1 ≤ u) :
    numAbs neg (Lib.decDigits u) = some (if neg then -(u : Int) else (u : Int)) := by
  obtain ⟨h1, h2, h3, h4⟩ := dec_facts u
  have hl := dec_len u h
  have hl0 : 0 < (Lib.decDigits u).length := List.length_pos_iff.2 h3
  have hb : numBad neg (Lib.decDigits u) = false := by
    unfold numBad
    by_cases hu : 1 ≤ u
    · have := h4 hu
      have e1 : ((Lib.decDigits u).head? == some 48) = false := by simpa using this
      rw [e1, Bool.false_and, Bool.or_false]; simp only [Bool.or_eq_false_iff, decide_eq_false_iff_not]; omega
    · have hneg : neg = false := by cases neg <;> simp_all
      have hu0 : u = 0 := by omega
      subst hu0 hneg
      rw [Lib.decDigits, dif_pos (by omega)]; simp
  unfold numAbs
  rw [hb, h1, h2]
  simp [h]

def progNum (l : Bs) : Option Int := match Lib.parseIntB 64 l with
  | .ok v => if Lib.itoa v = l ∧ -1000000000 ≤ v ∧ v ≤ 1000000000 then some v else none
  | _ => none

theorem num_itoa (v : Int) (h1 : -1000000000 ≤ v) (h2 : v ≤ 1000000000) : num (Lib.itoa v) = some v := by
  unfold num Lib.itoa
  by_cases h : v < 0
  · rw [if_pos h]
    simp only [List.head?_cons, List.tail_cons, if_true]
    rw [numAbs_dec true v.natAbs (by omega) (by omega)]
    simp; omega
  · rw [if_neg h]
    obtain ⟨e1, e2, e3, e4⟩ := dec_facts v.toNat
    have : (Lib.decDigits v.toNat).head? ≠ some 45 := by
      cases hd : Lib.decDigits v.toNat with
      | nil => exact absurd hd e3
      | cons x r =>
        rw [hd] at e1
        simp only [List.all_cons, Bool.and_eq_true] at e1
        intro hx
        simp only [List.head?_cons, Option.some.injEq] at hx
        rw [hx] at e1
        exact absurd e1.1 (by decide)
    rw [if_neg this, numAbs_dec false v.toNat (by omega) (by simp)]
    simp; omega

theorem numAbs_inv (neg : Bool) (l : Bs) (v : Int) (h : numAbs neg l = some v) :
    l ≠ [] ∧ l.all isDig = true ∧ (l.head? ≠ some 48 ∨ (l.length = 1 ∧ neg = false)) ∧ numv l ≤ 1000000000 ∧ v = (if neg then -(numv l : Int) else (numv l : Int)) := by
  unfold numAbs at h
  split at h
  · cases h
  · rename_i hb
    split at h
    · rename_i hd
      simp only [Bool.and_eq_true, decide_eq_true_eq] at hd
      simp only [Option.some.injEq] at h
      unfold numBad at hb
      simp only [Bool.or_eq_true, Bool.and_eq_true, decide_eq_true_eq, beq_iff_eq, not_or, not_and] at hb
      refine ⟨?_, hd.1, ?_, hd.2, h.symm⟩
      · intro h0; rw [h0] at hb; simp at hb
      · by_cases hh : l.head? = some 48
        · right
          have := hb.2 hh
          refine ⟨by omega, by simpa using this.2⟩
        · exact .inl hh
    · cases h

theorem prog_of_num (l : Bs) (v : Int) (h : num l = some v) : Lib.parseIntB 64 l = .ok v ∧ Lib.itoa v = l ∧ -1000000000 ≤ v ∧ v ≤ 1000000000 := by
  unfold num at h
  split at h
  · rename_i h45
    cases l with
    | nil => simp at h45
    | cons x r =>
      simp only [List.head?_cons, Option.some.injEq] at h45
      subst h45
      simp only [List.tail_cons] at h
      obtain ⟨e1, e2, e3, e4, e5⟩ := numAbs_inv _ _ _ h
      have e3' : r.head? ≠ some 48 := by rcases e3 with e3 | e3; exact e3; simp at e3
      have hp := numv_pos r e1 e2 e3'
      have hpar : Lib.parseUintB 64 r = .ok (numv r) := by
        unfold Lib.parseUintB; rw [if_neg e1, parse_ok _ (by decide) r 0 e2 e4]; (first | done | rfl)
      simp only [if_true] at e5
      refine ⟨?_, ?_, by omega, by omega⟩
      · unfold Lib.parseIntB
        have c45 : (45 : UInt8).toNat = 45 := rfl
        simp only [c45]
        rw [if_pos (Or.inr trivial), hpar]
        simp only [not_true, false_and, if_false, true_and]
        rw [if_neg (by omega), if_pos trivial, e5]
      · unfold Lib.itoa
        rw [if_pos (by omega), e5, show (-(numv r : Int)).natAbs = numv r by omega, dec_numv _ r rfl e1 e2 (.inl e3')]
  · rename_i h45
    obtain ⟨e1, e2, e3, e4, e5⟩ := numAbs_inv _ _ _ h
    have hpar : Lib.parseUintB 64 l = .ok (numv l) := by
      unfold Lib.parseUintB; rw [if_neg e1, parse_ok _ (by decide) l 0 e2 e4]; (first | done | rfl)
    simp only [Bool.false_eq_true, if_false] at e5
    refine ⟨?_, ?_, by omega, by omega⟩
    · cases l with
      | nil => exact absurd rfl e1
      | cons x r =>
        simp only [List.all_cons, Bool.and_eq_true] at e2
        have hx := e2.1
        unfold isDig at hx
        simp only [Bool.and_eq_true, decide_eq_true_eq] at hx
        have n45 : ¬ (x.toNat = 45) := by omega
        unfold Lib.parseIntB
        have n43 : ¬ (x.toNat = 43) := by omega
        simp only [n45, n43, or_self, if_false, hpar, not_false_eq_true, true_and, false_and]
        rw [if_neg (by omega), e5]
    · unfold Lib.itoa
      rw [if_neg (by omega), e5, show (numv l : Int).toNat = numv l by omega, dec_numv _ l rfl e1 e2 ?_]
      rcases e3 with e3 | e3
      · exact .inl e3
      · exact .inr e3.1

theorem progNum_eq (l : Bs) : progNum l = num l := by
  cases hn : num l with
  | some v =>
    obtain ⟨h1, h2, h3, h4⟩ := prog_of_num l v hn
    unfold progNum; rw [h1]; simp [h2, h3, h4]
  | none =>
    unfold progNum
    cases hp : Lib.parseIntB 64 l with
    | ok v =>
      simp only
      by_cases hc : Lib.itoa v = l ∧ -1000000000 ≤ v ∧ v ≤ 1000000000
      · have := num_itoa v hc.2.1 hc.2.2
        rw [hc.1, hn] at this
        cases this
      · rw [if_neg hc]
    | range => rfl
    | _ => rfl

end Thk
end Go.Proofs.YtoiiaankpnhppaaGreatDoor
namespace Go.Proofs.YtoiiaankpnhppaaGreatDoor
open Go.RowKit Go.Deep

def repCells (av : Value) : List Value := [.slice none 0 0, .bool false, .slice none 0 0, .slice none 0 0, .bool false, .int .i64 0, .int .i64 0, .bool false, .int .i64 0, .int .i64 0, .slice none 0 0, av, .int .i64 0]
def repFlat (avs : List Value) : List Value := avs.flatMap repCells
theorem repFlat_get : ∀ (avs : List Value) (i : Nat) (h : i < avs.length) (j : Nat), j < 13 → (repFlat avs)[i * 13 + j]? = (repCells avs[i])[j]? := by
  intro avs
  induction avs with
  | nil => intro i h; simp at h
  | cons a r ih =>
    intro i h j hj
    have e : repFlat (a :: r) = repCells a ++ repFlat r := rfl
    have hl : (repCells a).length = 13 := rfl
    rw [e]
    cases i with
    | zero => rw [List.getElem?_append_left (by rw [hl]; omega)]; simp
    | succ i =>
      rw [List.getElem?_append_right (by rw [hl]; omega), hl, show (i + 1) * 13 + j - 13 = i * 13 + j by omega]
      exact ih i (by simpa using h) j hj
theorem repFlat_snoc (avs : List Value) (av : Value) : repFlat (avs ++ [av]) = repFlat avs ++ repCells av := by unfold repFlat; simp

def AvAt (w : World) (r B : Nat) (v : Value) : Prop := ∃ b, ∃ kl : List Int, v = .slice (some ⟨b, 0, none⟩) r r ∧ B ≤ b ∧ kl.length = r ∧ SliceT 3 w v (ints kl)
def AvsAt (w : World) (r B : Nat) (avs : List Value) : Prop := ∀ a ∈ avs, AvAt w r B a
theorem AvAt.chg {M : Nat → Prop} {w w' : World} {r B : Nat} {v : Value} (h : AvAt w r B v) (hc : Chg M w w') (hM : ∀ b, Tagged w b 3 → ¬ M b) : AvAt w' r B v := by
  obtain ⟨b, kl, h1, h2, h3, h4⟩ := h
  exact ⟨b, kl, h1, h2, h3, h4.chg hc hM⟩
theorem AvAt.new (w : World) (r : Nat) (o : Obj) : AvAt ((w.alloc (.cells (madeCells #[.int .i64 0] r) 3)).alloc o) r w.heap.size (.slice (some ⟨w.heap.size, 0, none⟩) r r) := by
  have hm : (madeCells #[.int .i64 0] r).toList = List.replicate r (.int .i64 0) := by
    apply List.ext_getElem
    · simp [madeCells]
    · intro i h1 h2
      simp [madeCells, Nat.mod_one]
  have hb : ((w.alloc (.cells (madeCells #[.int .i64 0] r) 3)).alloc o).heap[w.heap.size]? = some (.cells (madeCells #[.int .i64 0] r) 3 (0, 0)) := (((Below.refl (w.alloc (.cells (madeCells #[.int .i64 0] r) 3)).heap.size _).alloc (Nat.le_refl _) o).block w.heap.size (by simp)).trans (heap_alloc_new w _)
  refine ⟨w.heap.size, List.replicate r 0, rfl, Nat.le_refl _, by simp, Or.inr ⟨w.heap.size, 0, r, by simp [ints], by simp [ints], ⟨_, hb⟩, fun j hj => ?_⟩⟩
  have hj' : j < r := by simpa [ints] using hj
  simp only [World.cell?, hb, Nat.zero_add]
  show (madeCells #[.int .i64 0] r)[j]? = _
  rw [← Array.getElem?_toList, hm]
  simp [ints, hj']
theorem own_tag {w : World} {B n size : Nat} {e : TypeId} {v : Value} {xs : List Value} (h : w.ownsRow B e size v n xs) : ∀ g, v.ownBlock = some g → Tagged w g e := by
  intro g hg
  obtain ⟨_, h1 | ⟨g', cap, cur, rfl, _, hh, _⟩⟩ := h
  · rw [h1.1] at hg; cases hg
  · cases hg; exact ⟨cur, hh⟩
theorem own_noint {w : World} {B n size : Nat} {e : TypeId} {v : Value} {xs : List Value} (h : w.ownsRow B e size v n xs) (he : e ≠ 3) : ∀ b, Tagged w b 3 → ¬ v.ownBlock = some b := fun b hb hg => Tagged.ne (own_tag h b hg) hb he rfl

theorem Tryz.infoRep : (Tryz.prog.info? 147).map (fun i => (i.zero, i.size, i.bytes)) = some (some (.agg (repCells (.slice none 0 0)).toArray), 13, 184) := by kernel_rfl

theorem Blk5.set1 {b : Nat} {v0 v1 v2 v3 v4 : Value} {w : World} (h : Blk5 b v0 v1 v2 v3 v4 w) (u : Value) (ht : ∀ j, (w.setCell ⟨b, 1, none⟩ u).frozen? ⟨b, j, none⟩ = false) : Blk5 b v0 u v2 v3 v4 (w.setCell ⟨b, 1, none⟩ u) :=
  ⟨(cs_oth (Or.inr (by omega))).trans h.c0, cs_same h.c1, (cs_oth (Or.inr (by omega))).trans h.c2, (cs_oth (Or.inr (by omega))).trans h.c3, (cs_oth (Or.inr (by omega))).trans h.c4, ht⟩

theorem fresh_ref {w : World} {c rb room r cap : Nat} {avs : List Value} (hb : Blk5 c (.int .i64 (room : Int)) (.slice (some ⟨rb, 0, none⟩) r cap) (.slice none 0 0) (.int .i64 0) (.slice none 0 0) w) (ht : Tagged w c 152)
    (base : Nat) (hown : w.ownsRow base 147 13 (.slice (some ⟨rb, 0, none⟩) r cap) r (repFlat avs)) (hl : avs.length = r) (hr6 : r ≤ 6) (h50 : room ≤ 50) : RefAt w c rb (.slice none 0 0) (.slice none 0 0) (fun i => avs.getD i .nilFunc) room [] 0 0 (List.replicate r []) := by
  have hcells : ∀ i, i < r → ∀ j, j < 13 → w.cell? ⟨rb, i * 13 + j, none⟩ = (repCells (avs.getD i .nilFunc))[j]? := by
    intro i hi j hj
    rw [hown.cellAt _ (by omega), repFlat_get avs i (by omega) j hj]
    congr 2
    rw [List.getD_eq_getElem?_getD, List.getElem?_eq_getElem (by omega)]; (first | done | rfl)
  obtain ⟨hx, ⟨h1, _⟩ | ⟨g, cp, cur, hv, _, hh, hcap, _⟩⟩ := hown
  · cases h1
  · simp only [Value.slice.injEq, Option.some.injEq, Addr.mk.injEq, true_and, and_true] at hv
    obtain ⟨rfl, rfl⟩ := hv
    refine ⟨ht, ⟨cur, hh⟩, h50, by simpa using hr6, by simp, hb.c0, ⟨cap, by simpa using hb.c1, by simpa using hcap⟩, hb.c2, by simpa using hb.c3, by omega, by omega, ⟨[], rfl, World.ownsRow_nil _ _ _ _, fun j h => by simp at h⟩, by simp, ?_, ?_, ?_, ?_⟩
    · intro i hi
      have hi' : i < r := by simpa using hi
      rw [List.getElem_replicate]
      have e0 := hcells i hi' 0 (by omega)
      rw [Nat.add_zero] at e0
      exact ⟨⟨_, e0, Or.inl ⟨rfl, rfl⟩⟩, hcells i hi' 1 (by omega), hcells i hi' 7 (by omega), ⟨0, hcells i hi' 9 (by omega), Nat.le_refl _⟩, ⟨_, [], hcells i hi' 10 (by omega), Or.inl ⟨rfl, rfl⟩, by simp⟩, ⟨0, hcells i hi' 12 (by omega), Nat.le_refl _⟩, ⟨hcells i hi' 2 (by omega), hcells i hi' 3 (by omega), hcells i hi' 4 (by omega), hcells i hi' 5 (by omega), hcells i hi' 6 (by omega), hcells i hi' 8 (by omega)⟩⟩
    · intro k hk; have := List.eq_of_mem_replicate hk; rw [this]; simp
    · exact hb.c4
    · intro i hi
      exact hcells i (by simpa using hi) 11 (by omega)

set_option maxHeartbeats 400000 in
theorem Fresh_bad (r room : Int) (w : World) (h : r < 1 ∨ 6 < r ∨ room < 0 ∨ 50 < room) :
    Calls Tryz.prog 81 #[.int .i64 r, .int .i64 room] w fun e w' => e = .returned (.pointer none) ∧ w' = w := by
  have hd : (decide (r < 1) || decide (6 < r) || decide (room < 0) || decide (50 < room)) = true := by simp; omega
  go_enter Tryz.func81, Tryz.ntmps81
  go_wp2
  all_goals first | (go_ret; exact ⟨rfl, rfl⟩) | (exfalso; omega)

set_option maxHeartbeats 4000000 in
set_option maxRecDepth 100000 in
theorem Fresh_good (r room : Nat) (w : World) (h1 : 1 ≤ r) (h6 : r ≤ 6) (h50 : room ≤ 50) :
    Calls Tryz.prog 81 #[.int .i64 (r : Int), .int .i64 (room : Int)] w fun e w' => ∃ rb avs, e = .returned (.pointer (some ⟨w.heap.size, 0, none⟩)) ∧ RefAt w' w.heap.size rb (.slice none 0 0) (.slice none 0 0) (fun i => avs.getD i .nilFunc) room [] 0 0 (List.replicate r []) ∧ AvsAt w' r w.heap.size avs ∧ avs.length = r ∧ Below w.heap.size w w' ∧ w.heap.size ≤ rb := by
  obtain ⟨iR, hiR, hzR0, hzR1, hzR2⟩ := info_parts Tryz.infoRep
  have hmk : ∀ wx : World, (Instr.makeSlice 42 (.int .i64 (r : Int)) (.int .i64 (r : Int))).run Tryz.prog wx = .ok (.slice (some ⟨wx.heap.size, 0, none⟩) r r) (wx.alloc (.cells (madeCells #[.int .i64 0] r) 3)) := fun wx => run_make_row' 42 3 (.int .i64 0) 8 Tryz.underlying42 Tryz.info3 rfl .i64 .i64 r (by omega) (by omega) wx
  go_enter Tryz.func81, Tryz.ntmps81
  go_wp2
  go_loopw [6] (fun i wr => ∃ (k : Nat) (avs : List Value) (rv : Value), k ≤ r ∧ i = .int .i64 (k : Int) ∧ (avs.length = k ∧ AvsAt wr r w.heap.size avs) ∧ Blk5 w.heap.size (.int .i64 (room : Int)) rv (.slice none 0 0) (.int .i64 0) (.slice none 0 0) wr ∧ Tagged wr w.heap.size 152 ∧ wr.ownsRow (w.heap.size + 1) 147 13 rv k (repFlat avs) ∧ Below w.heap.size w wr ∧ w.heap.size + 1 ≤ wr.heap.size) (fun i _ => r - (intOf i).toNat)
  case atStart => exact ⟨0, [], .slice none 0 0, by omega, rfl, ⟨rfl, fun a h => absurd h (by simp)⟩, blk5 (Below.refl (w.heap.size + 1) _) (by omega), ⟨_, heap_alloc_new w _⟩, World.ownsRow_nil _ _ _ _, (Below.refl _ _).alloc (Nat.le_refl _) _, by simp⟩
  case round =>
    obtain ⟨k, avs, rv, hk, rfl, ⟨hal, hav⟩, hB5, hT, hown, hnx, hsz⟩ := hrel
    have Hav : Hid (AvsAt wr r w.heap.size avs) := hav
    clear hav
    by_cases hlt : k < r
    · have Hown : Hid (wr.ownsRow (w.heap.size + 1) 147 13 rv k (repFlat avs)) := hown
      have HB5 : Hid (Blk5 w.heap.size (.int .i64 (room : Int)) rv (.slice none 0 0) (.int .i64 0) (.slice none 0 0) wr) := hB5
      have HT : Hid (Tagged wr w.heap.size 152) := hT
      have c1 := hB5.c1
      have hwl : w.heap.size < wr.heap.size := by omega
      have c1A : ∀ o, (wr.alloc o).cell? ⟨w.heap.size, 1, none⟩ = some rv := fun o => (((Below.refl _ wr).alloc (Nat.le_refl _) o).cell (p := ⟨w.heap.size, 1, none⟩) hwl).trans c1
      have c1B : ∀ o o', ((wr.alloc o).alloc o').cell? ⟨w.heap.size, 1, none⟩ = some rv := fun o o' => ((((Below.refl wr.heap.size wr).alloc (Nat.le_refl _) o).alloc (by simp) o').cell (p := ⟨w.heap.size, 1, none⟩) hwl).trans c1
      have m1 : Hid (k + 1 ≤ maxLen) := by unfold Hid maxLen; omega
      have m2 : Hid ((k + 1) * 184 ≤ 140737488355328) := by unfold Hid; omega
      have hone : Hid (∀ av : Value, av.oneCell' = true → ∀ u ∈ repCells av, u.oneCell' = true) := by
        intro av hav u hu; simp only [repCells, List.mem_cons, List.mem_nil_iff, or_false] at hu; rcases hu with rfl | rfl | rfl | rfl | rfl | rfl | rfl | rfl | rfl | rfl | rfl | rfl | rfl <;> first | rfl | exact hav
      clear hown hB5 hT
      have HAv : Hid (∀ o, AvAt ((wr.alloc (.cells (madeCells #[.int .i64 0] r) 3)).alloc o) r wr.heap.size (.slice (some ⟨wr.heap.size, 0, none⟩) r r)) := fun o => AvAt.new wr r o
      have HAvD : Hid (∀ o, AvAt ((wr.drew.alloc (.cells (madeCells #[.int .i64 0] r) 3)).alloc o) r wr.heap.size (.slice (some ⟨wr.heap.size, 0, none⟩) r r)) := fun o => AvAt.new wr.drew r o
      have hwz : Hid (w.heap.size ≤ wr.heap.size) := by unfold Hid; omega
      go_wp2_with fail
      go_region_law (refine step_append_own rfl (.tmp 33) (.tmp 37) 148 rfl (w.heap.size + 1) 147 iR (.agg (repCells (.slice none 0 0)).toArray) 13 184 Tryz.underlying148 hiR hzR0 hzR1 hzR2 rfl (by decide) rv k (repFlat avs) rfl ?_ _ 1 1 (repCells (.slice (some ⟨wr.heap.size, 0, none⟩) r r)) rfl rfl ?_ (hone.out _ rfl) m1.out m2.out ?_ ?_; (first | exact (Hown.out.alloc _).alloc _ | exact Hown.out.alloc _); (intro j u hj; match j, hj with | 0, hj => (cases hj; simp [Addr.add]) | 1, hj => (cases hj; simp [Addr.add]) | 2, hj => (cases hj; simp [Addr.add]) | 3, hj => (cases hj; simp [Addr.add]) | 4, hj => (cases hj; simp [Addr.add]) | 5, hj => (cases hj; simp [Addr.add]) | 6, hj => (cases hj; simp [Addr.add]) | 7, hj => (cases hj; simp [Addr.add]) | 8, hj => (cases hj; simp [Addr.add]) | 9, hj => (cases hj; simp [Addr.add]) | 10, hj => (cases hj; simp [Addr.add]) | 11, hj => (cases hj; simp [Addr.add]) | 12, hj => (cases hj; simp [Addr.add])); (simp; omega); intro v6 w6 hown6 hg6; obtain ⟨g6, c6, rfl⟩ := own_some hown6 (Nat.succ_pos _); have hC6 : Chg (fun x => rv.ownBlock = some x) wr w6 := Chg.grown (Chg.of_below (by go_grown)) hg6 (fun k hk => Or.inl hk); have hN6 : AvAt w6 r wr.heap.size (.slice (some ⟨wr.heap.size, 0, none⟩) r r) := AvAt.chg (by first | exact HAv.out _ | exact HAvD.out _) (Chg.grown (M := fun x => rv.ownBlock = some x) (Chg.refl _ _) hg6 (fun k hk => Or.inl hk)) (own_noint (by first | exact (Hown.out.alloc _).alloc _ | exact Hown.out.alloc _) (by decide)); have k1 := (World.cell?_of_block (w := wr) (a := ⟨w.heap.size, 1, none⟩) (hC6.block w.heap.size hwl (fun h => Tagged.ne (own_tag Hown.out _ h) HT.out (by decide) rfl))).trans c1; have kf : ∀ j, w6.frozen? ⟨w.heap.size, j, none⟩ = false := fun j => (World.frozen?_of_block (w := wr) (a := ⟨w.heap.size, j, none⟩) (hC6.block w.heap.size hwl (fun h => Tagged.ne (own_tag Hown.out _ h) HT.out (by decide) rfl))).trans (HT.out.frozen j))
      all_goals
        go_wp2
        go_roundw
        case rel =>
          have hB6 : Below (w.heap.size + 1) wr w6 := ⟨hC6.os, hC6.tape, hC6.output, hC6.size, fun i hi => hC6.block i (by omega) (fun h => by have := (Hown.out.lt i h).1; omega)⟩
          have hT6 : Tagged w6 w.heap.size 152 := by
            obtain ⟨cur, hh⟩ := HT.out
            exact ⟨cur, (hB6.block w.heap.size (by omega)).trans hh⟩
          have hB7 := (HB5.out.below hB6 (by omega)).set1 (.slice (some ⟨g6, 0, none⟩) (k + 1) c6) (fun j => (hT6.setCell _ _).frozen j)
          have hn6 : Below w.heap.size w (w6.setCell ⟨w.heap.size, 1, none⟩ (.slice (some ⟨g6, 0, none⟩) (k + 1) c6)) := (hnx.trans (hB6.mono (by omega))).setCell (p := ⟨w.heap.size, 1, none⟩) (Nat.le_refl _) _
          have hs7 : Chg (fun x => x = w.heap.size) w6 (w6.setCell ⟨w.heap.size, 1, none⟩ (.slice (some ⟨g6, 0, none⟩) (k + 1) c6)) := (Chg.refl (fun x => x = w.heap.size) w6).setCell (p := ⟨w.heap.size, 1, none⟩) rfl _
          have hav7 : AvsAt (w6.setCell ⟨w.heap.size, 1, none⟩ (.slice (some ⟨g6, 0, none⟩) (k + 1) c6)) r w.heap.size (avs ++ [.slice (some ⟨wr.heap.size, 0, none⟩) r r]) := by
            intro a ha
            rcases List.mem_append.1 ha with h1 | h1
            · exact ((Hav.out a h1).chg hC6 (own_noint Hown.out (by decide))).chg hs7 (fun b hb e => Tagged.ne hb hT6 (by decide) e)
            · have e : a = _ := List.mem_singleton.1 h1
              rw [e]
              obtain ⟨b, kl, h2, h3, h4⟩ := hN6
              exact AvAt.chg (w := w6) ⟨b, kl, h2, Nat.le_trans hwz.out h3, h4⟩ hs7 (fun b hb e => Tagged.ne hb hT6 (by decide) e)
          exact ⟨k + 1, avs ++ [.slice (some ⟨wr.heap.size, 0, none⟩) r r], .slice (some ⟨g6, 0, none⟩) (k + 1) c6, by omega, by go_num, ⟨by simp [hal], hav7⟩, hB7, hT6.setCell _ _, by rw [repFlat_snoc]; exact ownsRow_setCell_below hown6 (by show w.heap.size < w.heap.size + 1; omega) _, hn6, by have := hB6.size; simp; omega⟩
        case measure => simp [intOf]; omega
    · have hkr : k = r := by omega
      subst hkr
      obtain ⟨rb, cap, rfl⟩ := own_some hown (by omega)
      have HF : Hid (_) := fresh_ref hB5 hT _ hown hal h6 h50
      have hrb : w.heap.size ≤ rb := by have := (hown.lt rb rfl).1; omega
      clear hown hB5 hT
      go_wp2
      go_ret
      exact ⟨rb, avs, rfl, HF.out, Hav.out, hal, hnx, hrb⟩

end Go.Proofs.YtoiiaankpnhppaaGreatDoor
namespace Go.Proofs.YtoiiaankpnhppaaGreatDoor

structure FrD where
  src : Nat
  dst : Nat
  ack : Nat
  known : List Bool
  bytes : ByteArray
def bothL (a b : List Bool) : List Bool := (List.range (max a.length b.length)).map fun k => a.getD k false || b.getD k false
theorem getD_len {known : List Bool} {j : Nat} (hj : known.length ≤ j) : known.getD j false = false := by rw [List.getD_eq_getElem?_getD, List.getElem?_eq_none hj]; (first | done | rfl)
theorem bothL_getD (a b : List Bool) (i : Nat) : (bothL a b).getD i false = (a.getD i false || b.getD i false) := by
  unfold bothL
  by_cases h : i < max a.length b.length
  · rw [List.getD_eq_getElem?_getD, List.getElem?_map, List.getElem?_range h]
    rfl
  · rw [getD_len (by simp; omega), getD_len (known := a) (by omega), getD_len (known := b) (by omega)]; (first | done | rfl)
theorem bothL_len (a b : List Bool) : (bothL a b).length = max a.length b.length := by unfold bothL; simp
end Go.Proofs.YtoiiaankpnhppaaGreatDoor

