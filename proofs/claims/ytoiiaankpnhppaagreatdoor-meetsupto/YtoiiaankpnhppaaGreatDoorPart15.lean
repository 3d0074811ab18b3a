import Derived.Deep.RegionHeld3
import Derived.Test.YtoiiaankpnhppaaGreatDoorPart14
set_option linter.unusedVariables false
set_option linter.unusedSimpArgs false
namespace Go.Proofs.YtoiiaankpnhppaaGreatDoor
open Go.RowKit

theorem ltB_iff : ∀ (a b : Thk.Bs), Thk.ltB a b = true ↔ a < b
  | [], [] => by simp [Thk.ltB]
  | [], _ :: _ => by simp [Thk.ltB]
  | _ :: _, [] => by simp [Thk.ltB]
  | a :: l, b :: m => by
    rw [Thk.ltB, List.cons_lt_cons_iff, ← ltB_iff l m]
    simp only [Bool.or_eq_true, Bool.and_eq_true, decide_eq_true_eq, beq_iff_eq, UInt8.lt_iff_toNat_lt]
theorem ltB_irr : ∀ a : Thk.Bs, Thk.ltB a a = false
  | [] => rfl
  | a :: l => by rw [Thk.ltB, ltB_irr l]; simp
theorem ltB_trans : ∀ (a b c : Thk.Bs), Thk.ltB a b = true → Thk.ltB b c = true → Thk.ltB a c = true
  | [], [], _, h, _ => by simp [Thk.ltB] at h
  | [], _ :: _, [], _, h => by simp [Thk.ltB] at h
  | [], _ :: _, _ :: _, _, _ => rfl
  | _ :: _, [], _, h, _ => by simp [Thk.ltB] at h
  | _ :: _, _ :: _, [], _, h => by simp [Thk.ltB] at h
  | a :: l, b :: m, c :: n, h1, h2 => by
    simp only [Thk.ltB, Bool.or_eq_true, Bool.and_eq_true, decide_eq_true_eq, beq_iff_eq] at h1 h2 ⊢
    rcases h1 with h1 | ⟨rfl, h1⟩
    · rcases h2 with h2 | ⟨rfl, h2⟩
      · exact Or.inl (by omega)
      · exact Or.inl h1
    · rcases h2 with h2 | ⟨rfl, h2⟩
      · exact Or.inl h2
      · exact Or.inr ⟨rfl, ltB_trans l m n h1 h2⟩
theorem ltB_tri : ∀ (a b : Thk.Bs), Thk.ltB a b = true ∨ a = b ∨ Thk.ltB b a = true
  | [], [] => Or.inr (Or.inl rfl)
  | [], _ :: _ => Or.inl rfl
  | _ :: _, [] => Or.inr (Or.inr rfl)
  | a :: l, b :: m => by
    simp only [Thk.ltB, Bool.or_eq_true, Bool.and_eq_true, decide_eq_true_eq, beq_iff_eq]
    by_cases h : a.toNat < b.toNat
    · exact Or.inl (Or.inl h)
    · by_cases h2 : b.toNat < a.toNat
      · exact Or.inr (Or.inr (Or.inl h2))
      · have e : a = b := UInt8.toNat_inj.1 (by omega)
        subst e
        rcases ltB_tri l m with h3 | h3 | h3
        · exact Or.inl (Or.inr ⟨rfl, h3⟩)
        · exact Or.inr (Or.inl (by rw [h3]))
        · exact Or.inr (Or.inr (Or.inr ⟨rfl, h3⟩))
theorem le_ltB (a b : Thk.Bs) : decide (a ≤ b) = !Thk.ltB b a := by
  have h := ltB_iff b a
  by_cases h1 : b < a
  · have : ¬ a ≤ b := fun h2 => h2 h1
    rw [h.2 h1]; simp [this]
  · have h2 : a ≤ b := h1
    have h3 : Thk.ltB b a = false := by rw [← Bool.not_eq_true]; exact fun h4 => h1 (h.1 h4)
    rw [h3]; simp [h2]

def SortL (l : List Thk.Bs) : Prop := l.Pairwise fun a b => Thk.ltB a b = true
theorem SortL.nodup {l : List Thk.Bs} (h : SortL l) : l.Nodup := List.Pairwise.imp (fun {a b} h e => by rw [e, ltB_irr] at h; cases h) h
theorem sort_unique {l m : List Thk.Bs} (h1 : SortL l) (h2 : SortL m) (h : ∀ x, x ∈ l ↔ x ∈ m) : l = m :=
  List.Perm.eq_of_pairwise (fun a b _ _ h3 h4 => by have := ltB_trans _ _ _ h3 h4; rw [ltB_irr] at this; cases this) h1 h2 ((List.perm_ext_iff_of_nodup h1.nodup h2.nodup).2 h)

theorem compact_sort {zs : List Thk.Bs} (hs : zs.Pairwise fun a b => Thk.ltB b a = false) : SortL (Lib.compact zs) ∧ ∀ x, x ∈ Lib.compact zs ↔ x ∈ zs := by
  have hget : ∀ j, j < zs.length → zs.toArray[j]! = zs.getD j [] := fun j hj => by simp [hj]
  have hle : ∀ i j, i < j → j < zs.length → Thk.ltB (zs.getD j []) (zs.getD i []) = false := fun i j hij hj => by
    have := (List.pairwise_iff_getElem.1 hs) i j (by omega) hj hij
    rw [List.getD_eq_getElem?_getD, List.getD_eq_getElem?_getD, List.getElem?_eq_getElem hj, List.getElem?_eq_getElem (show i < zs.length by omega)]
    exact this
  constructor
  · unfold SortL Lib.compact Lib.compactUpTo
    rw [List.pairwise_map]
    have hf : ((List.range zs.length).filter (Lib.keeps zs.toArray)).Pairwise (· < ·) := List.Pairwise.filter _ List.pairwise_lt_range
    refine List.Pairwise.imp_of_mem ?_ hf
    intro i j hi hj hij
    rw [List.mem_filter, List.mem_range] at hi hj
    have hk := hj.2
    unfold Lib.keeps at hk
    simp only [decide_eq_true_eq] at hk
    have hne : zs.toArray[j]! ≠ zs.toArray[j - 1]! := by rcases hk with h | h; omega; exact h
    rw [hget j hj.1, hget (j - 1) (by omega)] at hne
    rw [hget i hi.1, hget j hj.1]
    have h1 : Thk.ltB (zs.getD (j - 1) []) (zs.getD j []) = true := by
      rcases ltB_tri (zs.getD (j - 1) []) (zs.getD j []) with h | h | h
      · exact h
      · exact absurd h.symm hne
      · rw [hle (j - 1) j (by omega) hj.1] at h; cases h
    by_cases e : i = j - 1
    · rw [e]; exact h1
    · rcases ltB_tri (zs.getD i []) (zs.getD (j - 1) []) with h | h | h
      · exact ltB_trans _ _ _ h h1
      · rw [h]; exact h1
      · rw [hle i (j - 1) (by omega) (by omega)] at h; cases h
  · intro x
    unfold Lib.compact Lib.compactUpTo
    constructor
    · intro hx
      obtain ⟨i, hi, rfl⟩ := List.mem_map.1 hx
      rw [List.mem_filter, List.mem_range] at hi
      rw [hget i hi.1, List.getD_eq_getElem?_getD, List.getElem?_eq_getElem hi.1]
      exact List.getElem_mem _
    · intro hx
      obtain ⟨j, hj, rfl⟩ := List.getElem_of_mem hx
      have key : ∀ j (hj : j < zs.length), zs[j] ∈ ((List.range zs.length).filter (Lib.keeps zs.toArray)).map (zs.toArray[·]!) := by
        intro j
        induction j with
        | zero => intro hj; exact List.mem_map.2 ⟨0, List.mem_filter.2 ⟨List.mem_range.2 hj, by simp [Lib.keeps]⟩, by rw [hget 0 hj, List.getD_eq_getElem?_getD, List.getElem?_eq_getElem hj]; rfl⟩
        | succ j ih =>
          intro hj
          by_cases hk : Lib.keeps zs.toArray (j + 1) = true
          · exact List.mem_map.2 ⟨j + 1, List.mem_filter.2 ⟨List.mem_range.2 hj, hk⟩, by rw [hget _ hj, List.getD_eq_getElem?_getD, List.getElem?_eq_getElem hj]; rfl⟩
          · have h3 : zs.toArray[j + 1]! = zs.toArray[j]! := by
              unfold Lib.keeps at hk
              simp only [decide_eq_true_eq, not_or, ne_eq, Decidable.not_not] at hk
              exact hk.2
            rw [hget _ hj, hget j (by omega), List.getD_eq_getElem?_getD, List.getD_eq_getElem?_getD, List.getElem?_eq_getElem hj, List.getElem?_eq_getElem (show j < zs.length by omega)] at h3
            have := ih (by omega)
            rw [show zs[j + 1] = zs[j] from h3]
            exact this
      exact key j hj

theorem ins_mem (l : List Thk.Bs) (s x : Thk.Bs) : x ∈ Thk.ins l s ↔ x = s ∨ x ∈ l := by
  induction l with
  | nil => simp [Thk.ins]
  | cons y r ih =>
    unfold Thk.ins
    split
    · rename_i h; subst h; simp
    · split
      · simp
      · simp only [List.mem_cons, ih]
        constructor
        · rintro (h | h | h)
          · exact Or.inr (Or.inl h)
          · exact Or.inl h
          · exact Or.inr (Or.inr h)
        · rintro (h | h | h)
          · exact Or.inr (Or.inl h)
          · exact Or.inl h
          · exact Or.inr (Or.inr h)
theorem ins_sort {l : List Thk.Bs} (h : SortL l) (s : Thk.Bs) : SortL (Thk.ins l s) := by
  induction l with
  | nil => exact List.pairwise_singleton _ _
  | cons y r ih =>
    have h1 := List.pairwise_cons.1 h
    unfold Thk.ins
    split
    · exact h
    · split
      · rename_i h2 h3
        exact List.pairwise_cons.2 ⟨fun a ha => by
          rcases List.mem_cons.1 ha with e | ha
          · rw [e]; exact h3
          · exact ltB_trans _ _ _ h3 (h1.1 a ha), h⟩
      · rename_i h2 h3
        refine List.pairwise_cons.2 ⟨fun a ha => ?_, ih h1.2⟩
        rcases (ins_mem r s a).1 ha with e | ha
        · rw [e]
          rcases ltB_tri y s with h4 | h4 | h4
          · exact h4
          · exact absurd h4.symm h2
          · exact absurd h4 h3
        · exact h1.1 a ha

theorem less_ltB : ∀ (a b : Thk.Bs), Op.bytesLess a b = Thk.ltB a b
  | [], [] => rfl
  | [], _ :: _ => rfl
  | _ :: _, [] => rfl
  | a :: l, b :: m => by
    rw [Op.bytesLess, Thk.ltB, less_ltB l m]
    simp [UInt8.lt_iff_toNat_lt]

theorem withStep_done (s : Thk.Bs) : ∀ (l o : List Thk.Bs), (∀ x ∈ l, x ≠ s) → l.foldl (withStep s) (o, true) = (o ++ l, true)
  | [], o, _ => by simp
  | x :: r, o, h => by
    have hx : x ≠ s := h x (by simp)
    rw [List.foldl_cons]
    have e : withStep s (o, true) x = (o ++ [x], true) := by unfold withStep; simp [hx]
    rw [e, withStep_done s r _ (fun y hy => h y (by simp [hy]))]
    simp
theorem withL_ins (s : Thk.Bs) : ∀ (l o : List Thk.Bs), SortL l → (if (l.foldl (withStep s) (o, false)).2 then (l.foldl (withStep s) (o, false)).1 else (l.foldl (withStep s) (o, false)).1 ++ [s]) = o ++ Thk.ins l s
  | [], o, _ => by simp [Thk.ins]
  | x :: r, o, h => by
    have h1 := List.pairwise_cons.1 h
    rw [List.foldl_cons]
    unfold Thk.ins
    by_cases e : s = x
    · subst e
      have e2 : withStep s (o, false) s = (o ++ [s], true) := by unfold withStep; simp
      rw [e2, withStep_done s r _ (fun y hy he => by have := h1.1 y hy; rw [he, ltB_irr] at this; cases this)]
      simp
    · rw [if_neg e]
      cases hlt : Thk.ltB s x with
      | true =>
        have e2 : withStep s (o, false) x = (o ++ [s] ++ [x], true) := by unfold withStep; rw [less_ltB, hlt]; simp [Ne.symm e]
        rw [e2, withStep_done s r _ (fun y hy he => by have := ltB_trans _ _ _ hlt (h1.1 y hy); rw [he, ltB_irr] at this; cases this)]
        simp
      | false =>
        have e3 : (s == x) = false := by simpa using e
        have e2 : withStep s (o, false) x = (o ++ [x], false) := by unfold withStep; rw [less_ltB, hlt, e3]; simp [Ne.symm e]
        rw [e2, withL_ins s r _ h1.2]
        simp
theorem withL_eq {l : List Thk.Bs} (h : SortL l) (s : Thk.Bs) : withL l s = Thk.ins l s := by
  have := withL_ins s l [] h
  unfold withL
  rw [this]; simp
theorem fold_with : ∀ (L l : List Thk.Bs), SortL l → SortL (L.foldl withL l) ∧ ∀ x, x ∈ L.foldl withL l ↔ x ∈ l ∨ x ∈ L
  | [], l, h => ⟨h, fun x => by simp⟩
  | s :: L, l, h => by
    rw [List.foldl_cons, withL_eq h s]
    obtain ⟨h1, h2⟩ := fold_with L (Thk.ins l s) (ins_sort h s)
    refine ⟨h1, fun x => ?_⟩
    rw [h2, ins_mem]
    simp only [List.mem_cons]
    constructor
    · rintro ((h | h) | h)
      · exact Or.inr (Or.inl h)
      · exact Or.inl h
      · exact Or.inr (Or.inr h)
    · rintro (h | h | h)
      · exact Or.inl (Or.inr h)
      · exact Or.inl (Or.inl h)
      · exact Or.inr h
theorem joinTo_cons (x : Thk.Bs) (r : List Thk.Bs) : ∀ k, k ≤ r.length → Thk.joinTo (x :: r) (k + 1) = x ++ Lib.joinTail [44] (r.take k)
  | 0, _ => by simp [Thk.joinTo, Lib.joinTail]
  | k + 1, h => by
    have hk : k < r.length := by omega
    rw [Thk.joinTo, if_neg (by omega), joinTo_cons x r k (by omega), Lib.joinTail_take_succ [44] r k r[k] (List.getElem?_eq_getElem hk)]
    have : (x :: r).getD (k + 1) [] = r[k] := by simp [hk]
    rw [this]; simp
theorem joinTo_join (l : List Thk.Bs) : Thk.joinTo l l.length = Lib.join l [44] := by
  cases l with
  | nil => rfl
  | cons x r => rw [List.length_cons, joinTo_cons x r _ (Nat.le_refl _), List.take_length, Lib.join_cons]
theorem list_eq (L L' : List Thk.Bs) (h : ∀ x, x ∈ L ↔ x ∈ L') : Thk.joinTo (L.foldl withL []) (L.foldl withL []).length = listB L' := by
  rw [joinTo_join]
  unfold listB
  obtain ⟨h1, h2⟩ := fold_with L [] List.Pairwise.nil
  have hs : (L'.mergeSort fun x y => decide (x ≤ y)).Pairwise fun a b => Thk.ltB b a = false := by
    have := List.pairwise_mergeSort (le := fun x y : Thk.Bs => decide (x ≤ y)) (fun a b c => ?_) (fun a b => ?_) L'
    · refine List.Pairwise.imp ?_ this
      intro a b hab
      rw [le_ltB] at hab
      simpa using hab
    · rw [le_ltB, le_ltB, le_ltB]
      intro h3 h4
      simp only [Bool.not_eq_true'] at h3 h4 ⊢
      rcases ltB_tri a b with h5 | h5 | h5
      · rcases ltB_tri b c with h6 | h6 | h6
        · have := ltB_trans _ _ _ h5 h6
          rw [← Bool.not_eq_true]; intro h7
          have := ltB_trans _ _ _ this h7
          rw [ltB_irr] at this; cases this
        · subst h6; exact h3
        · rw [h4] at h6; cases h6
      · subst h5; exact h4
      · rw [h3] at h5; cases h5
    · rw [le_ltB, le_ltB]
      rcases ltB_tri a b with h5 | h5 | h5
      · have : Thk.ltB b a = false := by
          rw [← Bool.not_eq_true]; intro h7
          have := ltB_trans _ _ _ h5 h7
          rw [ltB_irr] at this; cases this
        simp [this]
      · subst h5; simp [ltB_irr]
      · have : Thk.ltB a b = false := by
          rw [← Bool.not_eq_true]; intro h7
          have := ltB_trans _ _ _ h5 h7
          rw [ltB_irr] at this; cases this
        simp [this]
  obtain ⟨h3, h4⟩ := compact_sort hs
  rw [sort_unique h1 h3 (fun x => by rw [h2, h4, (List.mergeSort_perm L' _).mem_iff, ← h]; simp)]
theorem digs_dec : ∀ n, Thk.digs n = Lib.decDigits n := by
  intro n
  induction n using Nat.strongRecOn with
  | _ n ih =>
    rw [Thk.digs, Lib.decDigits]
    split
    · rfl
    · rw [ih (n / 10) (by omega)]
theorem digits_itoa (n : Int) : Thk.digits n = Lib.itoa n := by
  unfold Thk.digits Lib.itoa
  rw [digs_dec]
  split
  · rfl
  · rw [show n.natAbs = n.toNat by omega]

def key (x : Itm) : Thk.Bs × Int × Thk.Bs × Int := (toL x.p, x.a, toL x.v, x.m)
def keyEv (e : Ev) : Thk.Bs × Int × Thk.Bs × Int := (toL e.p, (e.a.toNat : Int), toL (keptVal e.a e.v), e.n)
def evsOf (es : List Ev) (al : List Nat) : List Ev := al.filterMap (es[·]?)

theorem perm_sum {l m : List Int} (h : l.Perm m) : l.sum = m.sum := by
  induction h with
  | nil => rfl
  | cons x _ ih => simp [ih]
  | swap x y l => simp only [List.sum_cons]; omega
  | trans _ _ h1 h2 => exact h1.trans h2
theorem nodup_le : ∀ {l m : List Nat}, l.Nodup → (∀ x ∈ l, x ∈ m) → l.length ≤ m.length
  | [], _, _, _ => Nat.zero_le _
  | x :: l, m, hn, h => by
    obtain ⟨m1, m2, rfl⟩ := List.append_of_mem (h x (by simp))
    rw [List.nodup_cons] at hn
    have := nodup_le (m := m1 ++ m2) hn.2 (fun y hy => by
      have h1 := h y (by simp [hy])
      have h2 : y ≠ x := fun e => hn.1 (e ▸ hy)
      simp only [List.mem_append, List.mem_cons] at h1 ⊢
      rcases h1 with h1 | h1 | h1
      · exact Or.inl h1
      · exact absurd h1 h2
      · exact Or.inr h1)
    simp only [List.length_append, List.length_cons] at this ⊢
    omega
theorem cnt_range : ∀ (l : List Bool) (N : Nat), l.length ≤ N → ((List.range N).filter (fun k => l.getD k false)).length = cnt l
  | [], N, _ => by simp [cnt]
  | b :: l, 0, h => by simp at h
  | b :: l, N + 1, h => by
    have ih := cnt_range l N (by simpa using h)
    rw [List.range_succ_eq_map, List.filter_cons, List.filter_map]
    have e : ((fun k => (b :: l).getD k false) ∘ Nat.succ) = fun k => l.getD k false := by funext k; simp
    rw [e]
    unfold cnt at ih ⊢
    cases b <;> simpa using ih

section
variable {es : List Ev} {D : List Nat} {n : Nat} {known : List Bool} {K : Nat → Nat} {C : Nat → Option Thk.Ch}
theorem getD_D {D : List Nat} {i : Nat} (hi : i < D.length) : D[i]? = some (D.getD i 0) := by simp [hi]
theorem D_inj (hE : EvD es D n) {i j : Nat} (hi : i < D.length) (hj : j < D.length) (h : D.getD i 0 = D.getD j 0) : i = j := by
  have h1 : D[i] = D[j] := by
    rw [List.getD_eq_getElem?_getD, List.getD_eq_getElem?_getD, List.getElem?_eq_getElem hi, List.getElem?_eq_getElem hj] at h
    exact h
  have hp := List.pairwise_iff_getElem.1 hE.nd
  rcases Nat.lt_trichotomy i j with h2 | h2 | h2
  · exact absurd h1 (hp i j hi hj h2)
  · exact h2
  · exact absurd h1.symm (hp j i hj hi h2)
theorem nodup_mapD (hE : EvD es D n) {l : List Nat} (hl : l.Nodup) (hb : ∀ i ∈ l, i < D.length) : (l.map fun i => D.getD i 0).Nodup := by
  unfold List.Nodup
  rw [List.pairwise_map]
  refine List.Pairwise.imp_of_mem ?_ hl
  intro a b ha hb' hab e
  exact hab (D_inj hE (hb a ha) (hb b hb') e)

theorem Kn.perm (h : Kn es D known K C) (hE : EvD es D n) {xs : List Itm} (hx : SAll (itOf C) xs) : (xs.map key).Perm ((evsOf es (aliveTo es known es.length)).map keyEv) := by
  obtain ⟨⟨hnd, hmem⟩, hat⟩ := hx
  have hal : ∀ i, i ∈ aliveTo es known es.length ↔ i < D.length ∧ alive es known i = true := fun i => by unfold aliveTo; rw [List.mem_filter, List.mem_range, hE.len]
  have hp : (xs.map Itm.n).Perm ((aliveTo es known es.length).map fun i => D.getD i 0) := by
    refine (List.perm_ext_iff_of_nodup hnd ?_).2 fun d => ?_
    · exact nodup_mapD hE (List.Pairwise.filter _ List.nodup_range) (fun i hi => ((hal i).1 hi).1)
    · rw [hmem, itOf_none, List.mem_map]
      constructor
      · intro hc
        obtain ⟨i, e, h1, h2, _⟩ := h.sup hc
        have hi : i < D.length := by
          rcases Nat.lt_or_ge i D.length with h5 | h5
          · exact h5
          · rw [List.getElem?_eq_none h5] at h1; cases h1
        exact ⟨i, (hal i).2 ⟨hi, h2⟩, by rw [getD_D hi] at h1; exact Option.some.inj h1⟩
      · rintro ⟨i, hi, rfl⟩
        obtain ⟨h1, h2⟩ := (hal i).1 hi
        rw [h.c1 i _ (getD_D h1), if_pos h2]
        obtain ⟨⟨y, hy, _⟩, _⟩ := (alive_iff es known i).1 h2
        rw [hy]; simp
  have hk : ∀ x ∈ xs, key x = (match C x.n with | some c => (c.path, (c.act.toNat : Int), toL (keptVal c.act ⟨c.val.toArray⟩), c.n) | none => ([], 0, [], 0)) := fun x hx => by
    have h3 := hat x hx
    obtain ⟨c, hc, hv⟩ := itOf_v h3
    rw [hc]
    unfold chV at hv
    simp only [Value.agg.injEq, Array.mk.injEq, List.cons.injEq, Value.string.injEq, Value.int.injEq, true_and, and_true] at hv
    obtain ⟨q1, q2, q3, q4⟩ := hv
    unfold key
    rw [q1, q2, q3, q4]
    rfl
  have hl : xs.map key = (xs.map Itm.n).map fun d => (match C d with | some c => (c.path, (c.act.toNat : Int), toL (keptVal c.act ⟨c.val.toArray⟩), c.n) | none => ([], 0, [], 0)) := by
    rw [List.map_map]
    exact List.map_congr_left hk
  have hr : (evsOf es (aliveTo es known es.length)).map keyEv = ((aliveTo es known es.length).map fun i => D.getD i 0).map fun d => (match C d with | some c => (c.path, (c.act.toNat : Int), toL (keptVal c.act ⟨c.val.toArray⟩), c.n) | none => ([], 0, [], 0)) := by
    unfold evsOf
    generalize aliveTo es known es.length = al at hal
    have hal' : ∀ i ∈ al, i < D.length ∧ alive es known i = true := fun i hi => (hal i).1 hi
    clear hal hp
    induction al with
    | nil => rfl
    | cons i r ih =>
      obtain ⟨h1, h2⟩ := hal' i (by simp)
      obtain ⟨⟨y, hy, _⟩, _⟩ := (alive_iff es known i).1 h2
      have hc := h.c1 i _ (getD_D h1)
      rw [if_pos h2, hy] at hc
      rw [List.filterMap_cons, hy]
      simp only [List.map_cons]
      rw [ih (fun j hj => hal' j (by simp [hj])), hc]
      simp only [Option.map_some, chOf, keyEv, mk_toL]
  rw [hl, hr]
  exact hp.map _
theorem Kn.dle (h : Kn es D known K C) (hE : EvD es D n) (x : Nat) : K x ≤ es.length := by
  have : ((List.range (K x)).map fun m => mkD x (m + 1)).length ≤ D.length := by
    refine nodup_le ?_ (fun d hd => ?_)
    · unfold List.Nodup
      rw [List.pairwise_map]
      refine List.Pairwise.imp_of_mem ?_ List.nodup_range
      intro a b ha hb hab e
      rw [List.mem_range] at ha hb
      have h1 := (h.all x (a + 1) (by omega) (by omega)).1
      have h2 := (h.all x (b + 1) (by omega) (by omega)).1
      have := congrArg nth e
      rw [nth_mk h1, nth_mk h2] at this
      omega
    · rw [List.mem_map] at hd
      obtain ⟨m, hm, rfl⟩ := hd
      rw [List.mem_range] at hm
      exact (h.all x (m + 1) (by omega) (by omega)).2
  rw [List.length_map, List.length_range, hE.len] at this
  exact this
theorem sumTo_len (K : Nat → Nat) : ∀ n, ((List.range n).flatMap fun x => (List.range (K x)).map fun m => mkD x (m + 1)).length = sumTo K n
  | 0 => rfl
  | n + 1 => by rw [List.range_succ, List.flatMap_append, List.length_append, sumTo_len K n]; simp [sumTo]
theorem dots_nodup (K : Nat → Nat) (hK : ∀ x, K x ≤ 500) : ∀ n, ((List.range n).flatMap fun x => (List.range (K x)).map fun m => mkD x (m + 1)).Nodup
  | 0 => by simp
  | n + 1 => by
    rw [List.range_succ, List.flatMap_append, List.nodup_append]
    refine ⟨dots_nodup K hK n, ?_, fun a ha b hb e => ?_⟩
    · simp only [List.flatMap_cons, List.flatMap_nil, List.append_nil]
      unfold List.Nodup
      rw [List.pairwise_map]
      refine List.Pairwise.imp_of_mem ?_ List.nodup_range
      intro a b ha hb hab e
      rw [List.mem_range] at ha hb
      have := hK n
      have := congrArg nth e
      rw [nth_mk (by omega), nth_mk (by omega)] at this
      omega
    · simp only [List.mem_flatMap, List.mem_range, List.mem_map, List.flatMap_cons, List.flatMap_nil, List.append_nil] at ha hb
      obtain ⟨x, hx, m, hm, rfl⟩ := ha
      obtain ⟨m2, hm2, rfl⟩ := hb
      have := hK n
      have := hK x
      have := congrArg who e
      rw [who_mk (by omega), who_mk (by omega)] at this
      omega
theorem Kn.size (h : Kn es D known K C) (hE : EvD es D n) (hn : n ≤ 6) (hK : ∀ x, K x ≤ 500) : cnt known = sizeK K := by
  unfold sizeK
  rw [← cnt_range known es.length h.len, ← sumTo_len]
  have hp : (((List.range es.length).filter (fun k => known.getD k false)).map fun i => D.getD i 0).Perm ((List.range 6).flatMap fun x => (List.range (K x)).map fun m => mkD x (m + 1)) := by
    refine (List.perm_ext_iff_of_nodup (nodup_mapD hE (List.Pairwise.filter _ List.nodup_range) (fun i hi => by rw [List.mem_filter, List.mem_range] at hi; rw [hE.len]; exact hi.1)) (dots_nodup K hK 6)).2 fun d => ?_
    simp only [List.mem_map, List.mem_filter, List.mem_range, List.mem_flatMap]
    constructor
    · rintro ⟨i, ⟨hi, hk⟩, rfl⟩
      have hi' : i < D.length := by rw [hE.len]; exact hi
      have h1 := (h.vec i _ (getD_D hi')).1 hk
      have h2 := hE.ok _ (List.mem_of_getElem? (getD_D hi'))
      exact ⟨who (D.getD i 0), by omega, nth (D.getD i 0) - 1, by omega, by rw [show nth (D.getD i 0) - 1 + 1 = nth (D.getD i 0) by omega, mk_wn]⟩
    · rintro ⟨x, hx, m, hm, rfl⟩
      obtain ⟨h1, h2⟩ := h.all x (m + 1) (by omega) (by omega)
      obtain ⟨i, hi, he⟩ := List.getElem_of_mem h2
      have he' : D[i]? = some (mkD x (m + 1)) := by rw [List.getElem?_eq_getElem hi, he]
      have hd : D.getD i 0 = mkD x (m + 1) := by rw [List.getD_eq_getElem?_getD, he']; rfl
      refine ⟨i, ⟨by rw [← hE.len]; exact hi, (h.vec i _ he').2 ?_⟩, hd⟩
      rw [who_mk h1, nth_mk h1]
      omega
  have := hp.length_eq
  rw [List.length_map] at this
  exact this
end

theorem tellR_evs (es : List Ev) (al : List Nat) (path : Thk.Bs) : tellR es al path = tellB (Thk.kindOf path) ((evsOf es al).foldl (tstep (Thk.kindOf path) path) ⟨[], 0, false⟩) := by
  unfold tellR evsOf
  congr 1
  generalize (⟨[], 0, false⟩ : TSt) = st
  induction al generalizing st with
  | nil => rfl
  | cons i r ih =>
    rw [List.foldl_cons, ih, List.filterMap_cons]
    cases es[i]? <;> rfl

theorem fold_m (k : UInt8) (path : Thk.Bs) (hk : (k.toNat : Int) = 109) : ∀ (evs : List Ev) (st : TSt), (∀ e ∈ evs, toL e.p ≠ path) → (evs.foldl (tstep k path) st).l = ((evs.filter fun e => (path ++ [47]).isPrefixOf (toL e.p)).map fun e => stepSeg path (toL e.p)).foldl withL st.l
  | [], _, _ => rfl
  | e :: r, st, h => by
    have hne := h e (by simp)
    have hb := begins_prefix (toL e.p) path
    have h1 : (toL e.p == path) = false := by simpa using hne
    rw [List.foldl_cons, fold_m k path hk r _ (fun y hy => h y (by simp [hy])), List.filter_cons]
    unfold tstep
    rw [hb, h1]
    cases hp : (path ++ [47]).isPrefixOf (toL e.p)
    · simp
    · simp [hk, stepSeg]

theorem fold_n (k : UInt8) (path : Thk.Bs) (hk : (k.toNat : Int) ≠ 109) : ∀ (evs : List Ev) (st : TSt), evs.foldl (tstep k path) st = ⟨((evs.filter fun e => toL e.p == path).map fun e => toL e.v).foldl withL st.l, st.sum + ((evs.filter fun e => toL e.p == path).map Ev.n).sum, st.some || evs.any fun e => toL e.p == path⟩
  | [], st => by simp
  | e :: r, st => by
    have h1 : ((k.toNat : Int) == 109) = false := by simpa using hk
    rw [List.foldl_cons, fold_n k path hk r, List.filter_cons]
    unfold tstep
    rw [h1]
    cases hp : (toL e.p == path)
    · simp [hp]
    · simp [hp, Int.add_assoc]

structure EvFit (e : Ev) : Prop where
  fit : Thk.fits (Thk.kindOf (toL e.p)) e.a = true
  p : e.p.size ≤ 20
  v : e.v.size ≤ 20
  n1 : e.n ≤ 1000000000
  n2 : -1000000000 ≤ e.n
theorem atP_eq (p : Thk.Bs) (xs : List Itm) : atP ⟨p.toArray⟩ xs = xs.filter fun x => toL x.p == p := by
  unfold atP
  congr 1
  funext x
  rw [toList_eq, toList_eq]
  rfl
theorem atP_key (p : Thk.Bs) (xs : List Itm) : (atP ⟨p.toArray⟩ xs).map key = (xs.map key).filter fun y => y.1 == p := by
  rw [atP_eq, List.filter_map]
  rfl
theorem tell_eq {es : List Ev} {known : List Bool} {xs : List Itm} (path : Thk.Bs) (hf : ∀ e ∈ es, EvFit e) (hp : (xs.map key).Perm ((evsOf es (aliveTo es known es.length)).map keyEv)) : tellP path xs = tellR es (aliveTo es known es.length) path := by
  have hal : ∀ e ∈ evsOf es (aliveTo es known es.length), effB e.a = true ∧ EvFit e := by
    intro e he
    unfold evsOf at he
    obtain ⟨i, hi, hei⟩ := List.mem_filterMap.1 he
    unfold aliveTo at hi
    have ha := (List.mem_filter.1 hi).2
    unfold alive at ha
    rw [hei] at ha
    simp only [Bool.and_eq_true] at ha
    exact ⟨ha.1.1, hf e (List.mem_of_getElem? hei)⟩
  rw [tellR_evs]
  generalize evsOf es (aliveTo es known es.length) = evs at *
  have hkept : ∀ e ∈ evs, toL e.p = path → (Thk.kindOf path).toNat ≠ 109 ∧ ((Thk.kindOf path).toNat ≠ 102 → (Thk.kindOf path).toNat ≠ 99 → keptVal e.a e.v = e.v) := by
    intro e he hpe
    obtain ⟨h1, h2⟩ := hal e he
    have h3 := h2.fit
    rw [hpe] at h3
    unfold Thk.fits at h3
    unfold effB at h1
    simp only [Bool.or_eq_true, beq_iff_eq] at h1
    unfold keptVal
    refine ⟨fun h => ?_, fun h4 h5 => ?_⟩
    · rw [if_neg (by omega), if_neg (by omega), if_neg (by omega), if_neg (by omega)] at h3
      simp only [beq_iff_eq] at h3
      omega
    · by_cases h6 : (Thk.kindOf path).toNat = 115
      · rw [if_pos h6] at h3
        simp only [Bool.or_eq_true, beq_iff_eq] at h3
        rw [if_pos (by omega)]
      · rw [if_neg h6, if_neg h4] at h3
        by_cases h7 : (Thk.kindOf path).toNat = 114
        · rw [if_pos h7] at h3
          simp only [Bool.or_eq_true, beq_iff_eq] at h3
          rw [if_pos (by omega)]
        · rw [if_neg h7, if_neg h5] at h3
          simp only [beq_iff_eq] at h3
          omega
  have hmem : ∀ y, y ∈ xs.map key ↔ y ∈ evs.map keyEv := fun y => hp.mem_iff
  unfold tellP tellB
  by_cases k1 : (Thk.kindOf path).toNat = 109
  · rw [if_pos k1, if_neg (by omega), if_neg (by omega), fold_m _ path (by omega) evs _ (fun e he hpe => (hkept e he hpe).1 k1)]
    refine (list_eq _ _ fun s => ?_).symm
    simp only [List.mem_map, stepsOf, List.mem_filter]
    constructor
    · rintro ⟨e, ⟨he, h1⟩, rfl⟩
      obtain ⟨x, hx, hk⟩ := List.mem_map.1 ((hmem _).2 (List.mem_map.2 ⟨e, he, rfl⟩))
      have hpp : toL x.p = toL e.p := congrArg (·.1) hk
      exact ⟨⟨(stepSeg path (toL x.p)).toArray⟩, ⟨x, ⟨hx, by rw [hpp]; exact h1⟩, rfl⟩, by rw [hpp]; rfl⟩
    · rintro ⟨_, ⟨x, ⟨hx, h1⟩, rfl⟩, rfl⟩
      obtain ⟨e, he, hk⟩ := List.mem_map.1 ((hmem _).1 (List.mem_map.2 ⟨x, hx, rfl⟩))
      have hpp : toL e.p = toL x.p := congrArg (·.1) hk
      exact ⟨e, ⟨he, by rw [hpp]; exact h1⟩, by rw [hpp]; rfl⟩
  · have k1' : ((Thk.kindOf path).toNat : Int) ≠ 109 := by omega
    rw [if_neg k1, fold_n _ path k1' evs]
    by_cases k2 : (Thk.kindOf path).toNat = 102
    · have k2i : ((Thk.kindOf path).toNat : Int) = 102 := by omega
      rw [if_pos k2, if_pos k2i]
      have : (atP ⟨path.toArray⟩ xs ≠ []) ↔ (false || evs.any fun e => toL e.p == path) = true := by
        rw [Bool.false_or, List.any_eq_true]
        constructor
        · intro h
          obtain ⟨x, hx⟩ := List.exists_mem_of_ne_nil _ h
          rw [atP_eq] at hx
          obtain ⟨hx1, hx2⟩ := List.mem_filter.1 hx
          obtain ⟨e, he, hk⟩ := List.mem_map.1 ((hmem _).1 (List.mem_map.2 ⟨x, hx1, rfl⟩))
          have hpp : toL e.p = toL x.p := congrArg (·.1) hk
          exact ⟨e, he, by rw [hpp]; exact hx2⟩
        · rintro ⟨e, he, h1⟩
          obtain ⟨x, hx, hk⟩ := List.mem_map.1 ((hmem _).2 (List.mem_map.2 ⟨e, he, rfl⟩))
          have hpp : toL x.p = toL e.p := congrArg (·.1) hk
          refine List.ne_nil_of_mem (a := x) ?_
          rw [atP_eq]
          exact List.mem_filter.2 ⟨hx, by rw [hpp]; exact h1⟩
      by_cases h3 : atP ⟨path.toArray⟩ xs ≠ []
      · rw [if_pos h3]
        exact (if_pos (this.1 h3)).symm
      · rw [if_neg h3]
        exact (if_neg (fun h4 => h3 (this.2 h4))).symm
    · have k2i : ¬ ((Thk.kindOf path).toNat : Int) = 102 := by omega
      rw [if_neg k2, if_neg k2i]
      by_cases k3 : (Thk.kindOf path).toNat = 99
      · have k3i : ((Thk.kindOf path).toNat : Int) = 99 := by omega
        rw [if_pos k3, if_pos k3i, digits_itoa]
        congr 1
        have e1 : sumOf (atP ⟨path.toArray⟩ xs) = (((xs.map key).filter fun y => y.1 == path).map fun y => y.2.2.2).sum := by
          rw [← atP_key]; unfold sumOf; rw [List.map_map]; rfl
        have e2 : ((evs.filter fun e => toL e.p == path).map Ev.n).sum = (((evs.map keyEv).filter fun y => y.1 == path).map fun y => y.2.2.2).sum := by
          rw [List.filter_map, List.map_map]; rfl
        rw [e1]
        show _ = 0 + _
        rw [e2, Int.zero_add]
        exact perm_sum ((hp.filter _).map _)
      · have k3i : ¬ ((Thk.kindOf path).toNat : Int) = 99 := by omega
        rw [if_neg k3, if_neg k3i]
        refine (list_eq _ _ fun s => ?_).symm
        simp only [List.mem_map, atP_eq, List.mem_filter]
        constructor
        · rintro ⟨e, ⟨he, h1⟩, rfl⟩
          obtain ⟨x, hx, hk⟩ := List.mem_map.1 ((hmem _).2 (List.mem_map.2 ⟨e, he, rfl⟩))
          have hpp : toL x.p = toL e.p := congrArg (·.1) hk
          have hvv : toL x.v = toL (keptVal e.a e.v) := congrArg (·.2.2.1) hk
          rw [(hkept e he (by simpa using h1)).2 k2 k3] at hvv
          exact ⟨x.v, ⟨x, ⟨hx, by rw [hpp]; exact h1⟩, rfl⟩, hvv⟩
        · rintro ⟨_, ⟨x, ⟨hx, h1⟩, rfl⟩, rfl⟩
          have h1' : (toL x.p == path) = true := h1
          obtain ⟨e, he, hk⟩ := List.mem_map.1 ((hmem _).1 (List.mem_map.2 ⟨x, hx, rfl⟩))
          have hpp : toL e.p = toL x.p := congrArg (·.1) hk
          have hvv : toL (keptVal e.a e.v) = toL x.v := congrArg (·.2.2.1) hk
          rw [← hpp] at h1'
          rw [(hkept e he (by simpa using h1')).2 k2 k3] at hvv
          exact ⟨e, ⟨he, h1'⟩, hvv⟩

theorem txt_read {l : Thk.Bs} {c : Thk.Ch} (h : Thk.read l = .inr c) (he : effB c.act = true) : txtC c = l ∧ l.length = c.path.length + 1 + c.val.length := by
  unfold Thk.read at h
  split at h
  · cases h
  · rename_i h0
    have hle : l.findIdx Thk.isAct ≤ l.length := List.findIdx_le_length
    generalize l.findIdx Thk.isAct = k at *
    have hkl : k < l.length := by omega
    unfold Thk.readAt at h
    split at h
    · cases h
    · split at h
      · cases h
      · have e := operand_inr h
        have hl : l.take k ++ [l.getD k 0] ++ l.drop (k + 1) = l := by
          have h1 : l.drop k = l.getD k 0 :: l.drop (k + 1) := by rw [List.drop_eq_getElem_cons hkl]; simp [hkl]
          rw [List.append_assoc, List.singleton_append, ← h1, List.take_append_drop]
        have p1 : c.path = l.take k := by rw [e]
        have p2 : c.act = l.getD k 0 := by rw [e]
        have p3 : c.val = l.drop (k + 1) := by rw [e]
        refine ⟨?_, ?_⟩
        · rw [← p2] at h
          have hl' : c.path ++ [c.act] ++ c.val = l := by rw [p1, p2, p3]; exact hl
          unfold txtC textB
          have q1 : toL ⟨c.path.toArray⟩ = c.path := rfl
          rw [q1]
          unfold effB at he
          simp only [Bool.or_eq_true, beq_iff_eq] at he
          unfold Thk.operand at h
          by_cases h43 : c.act.toNat = 43 ∨ c.act.toNat = 45 ∨ c.act.toNat = 61
          · unfold keptVal
            rw [if_pos h43, if_neg (by omega), List.append_nil]
            exact hl'
          · rw [if_neg h43] at h
            unfold keptVal
            rw [if_neg h43]
            have q2 : toL ByteArray.empty = [] := rfl
            rw [q2, List.append_nil]
            by_cases h62 : c.act.toNat = 62
            · rw [if_pos h62]
              rw [if_pos h62] at h
              split at h
              · rename_i m hm
                have hn : c.n = m := (congrArg Thk.Ch.n (Sum.inr.inj h)).symm
                rw [hn, (Thk.prog_of_num _ _ hm).2.1, ← p3]
                exact hl'
              · cases h
            · rw [if_neg h62, List.append_nil]
              rw [if_neg h62] at h
              split at h
              · rename_i hv
                rw [← p3] at hv
                rw [hv, List.append_nil] at hl'
                exact hl'
              · cases h
        · rw [p1, p3]
          have := congrArg List.length hl
          simp only [List.length_append, List.length_singleton] at this
          exact this.symm

theorem itsC_wIt {C : Nat → Option Thk.Ch} {xs : List Itm} (hx : SAll (itOf C) xs) (hr : ∀ d c, C d = some c → Thk.read (txtC c) = .inr c) : itsC (wIt C xs) (wIt C xs).length = itOf C := by
  funext d
  unfold itsC
  rw [List.take_length]
  obtain ⟨⟨_, hmem⟩, _⟩ := hx
  cases hf : (wIt C xs).reverse.find? (fun x => x.1 == d) with
  | none =>
    rw [List.find?_eq_none] at hf
    have : C d = none := Classical.byContradiction fun hc => by
      have h1 := (hmem d).2 (itOf_none.2 hc)
      obtain ⟨x, hx1, hx2⟩ := List.mem_map.1 h1
      refine hf (x.n, _) (List.mem_reverse.2 (List.mem_map.2 ⟨x, hx1, rfl⟩)) ?_
      simpa using hx2
    unfold itOf
    rw [this]; rfl
  | some y =>
    have h1 := List.find?_some hf
    have h2 := List.mem_reverse.1 (List.mem_of_find?_eq_some hf)
    obtain ⟨x, hx1, rfl⟩ := List.mem_map.1 h2
    have hd : x.n = d := by simpa using h1
    have hc : C d ≠ none := itOf_none.1 ((hmem d).1 (List.mem_map.2 ⟨x, hx1, hd⟩))
    cases hcd : C d with
    | none => exact absurd hcd hc
    | some c =>
      unfold itOf
      simp only [Option.bind_some, hd, hcd]
      rw [hr d c hcd]
      rfl

structure ByBr (s : ByteArray) (a : Nat) (K2 : Nat → Nat) (C2 : Nat → Option Thk.Ch) : Prop where
  a5 : a ≤ 5
  ex : ∃ rs its, toL s = encF a rs its ∧ s.size ≤ 1000000000 ∧ rs.length ≤ 500 ∧ (∀ x ∈ rs, okR x) ∧ its.length ≤ 500 ∧ (∀ x ∈ its, (who x.1 ≤ 5 ∧ 1 ≤ nth x.1 ∧ nth x.1 ≤ 500) ∧ x.2.length < 16384 ∧ ∃ c, Thk.read x.2 = .inr c ∧ effB c.act = true) ∧ itsC its its.length = itOf C2 ∧ ∀ d, 1 ≤ nth d → ((itsC its its.length d ≠ none ∨ d ∈ flatR rs) ↔ nth d ≤ K2 (who d))
  k5 : ∀ x, K2 x ≤ 500
  cp : ∀ k c, C2 k = some c → c.path.length ≤ 1048576

section
variable {es : List Ev} {D : List Nat} {n : Nat} {known : List Bool} {K : Nat → Nat} {C : Nat → Option Thk.Ch}
theorem Kn.ch (h : Kn es D known K C) (hs : ∀ e ∈ es, ∃ s, Thk.read s = .inr (chOf e)) {k : Nat} {c : Thk.Ch} (hc : C k = some c) : effB c.act = true ∧ ∃ s, Thk.read s = .inr c := by
  obtain ⟨i, e, _, ha, he, hce⟩ := h.sup (d := k) (by rw [hc]; simp)
  rw [hc] at hce
  cases hce
  obtain ⟨⟨y, hy, heff⟩, _⟩ := (alive_iff es known i).1 ha
  rw [he] at hy
  cases hy
  exact ⟨heff, hs e (List.mem_of_getElem? he)⟩
theorem Kn.chs (h : Kn es D known K C) (hs : ∀ e ∈ es, ∃ s, Thk.read s = .inr (chOf e)) : ∀ k c, C k = some c → (c.act = 43 ∨ c.act = 94 ∨ c.act = 61 ∨ c.act = 62) ∧ (-9223372036854775808 ≤ c.n ∧ c.n ≤ 9223372036854775807) ∧ c.path.length ≤ 1048576 ∧ (keptVal c.act ⟨c.val.toArray⟩).size ≤ 1048576 ∧ (txtC c).length ≤ 1000 := by
  intro k c hc
  obtain ⟨heff, s, hr⟩ := h.ch hs hc
  obtain ⟨p1, p2, p3, p4, _⟩ := Thk.read_ok _ _ hr
  obtain ⟨t1, t2⟩ := txt_read hr heff
  have hk := keptVal_size c.act ⟨c.val.toArray⟩
  have hv : (⟨c.val.toArray⟩ : ByteArray).size = c.val.length := by simp [ByteArray.size]
  refine ⟨?_, ⟨by omega, by omega⟩, by omega, by omega, by rw [t1]; omega⟩
  unfold effB at heff
  simp only [Bool.or_eq_true, beq_iff_eq] at heff
  rcases heff with ((h1 | h1) | h1) | h1
  · exact Or.inl (UInt8.toNat_inj.1 h1)
  · exact Or.inr (Or.inl (UInt8.toNat_inj.1 h1))
  · exact Or.inr (Or.inr (Or.inl (UInt8.toNat_inj.1 h1)))
  · exact Or.inr (Or.inr (Or.inr (UInt8.toNat_inj.1 h1)))
theorem Kn.mem (h : Kn es D known K C) {d : Nat} (h1 : 1 ≤ nth d) (h2 : nth d ≤ K (who d)) : d ∈ D := by
  have := (h.all (who d) (nth d) h1 h2).2
  rw [mk_wn] at this
  exact this
theorem Kn.ns (h : Kn es D known K C) (hE : EvD es D n) (he : es.length ≤ 500) : ∀ ns : List Nat, ns.Nodup → (∀ d, d ∈ ns ↔ 1 ≤ nth d ∧ inK K (fun _ => false) d) → ns.length ≤ 500 := by
  intro ns hn hm
  have := nodup_le hn (fun d hd => by
    obtain ⟨h1, h2⟩ := (hm d).1 hd
    unfold inK at h2
    exact h.mem h1 (h2.elim id (fun h3 => by cases h3)))
  rw [hE.len] at this
  omega
theorem Kn.xs (h : Kn es D known K C) (hE : EvD es D n) (he : es.length ≤ 500) {xs : List Itm} (hx : SAll (itOf C) xs) : xs.length ≤ 500 := by
  have := nodup_le hx.1.1 (m := D) (fun d hd => by
    have h1 := itOf_none.1 ((hx.1.2 d).1 hd)
    obtain ⟨i, e, h2, _⟩ := h.sup h1
    exact List.mem_of_getElem? h2)
  rw [hE.len, List.length_map] at this
  omega

theorem flatMap_le {α : Type} (f : α → Thk.Bs) (b : Nat) : ∀ (l : List α), (∀ x ∈ l, (f x).length ≤ b) → (l.flatMap f).length ≤ l.length * b
  | [], _ => by simp
  | x :: r, h => by
    have h1 := flatMap_le f b r (fun y hy => h y (by simp [hy]))
    have h2 := h x (by simp)
    rw [List.flatMap_cons, List.length_append, List.length_cons, Nat.add_mul]
    omega
theorem by_of (h : Kn es D known K C) (hE : EvD es D n) (hn : n ≤ 6) (he : es.length ≤ 500) (hs : ∀ e ∈ es, ∃ s, Thk.read s = .inr (chOf e)) (hK : ∀ x, K x ≤ 500) {s : ByteArray} {a : Nat} (ha : a ≤ 5) {ns : List Nat} {rs : List (Nat × Nat)} {xs : List Itm}
    (h1 : ns.Nodup) (h2 : ∀ d, d ∈ ns ↔ 1 ≤ nth d ∧ inK K (fun _ => false) d) (h3 : Runs ns ns.length rs) (h4 : SAll (itOf C) xs) (h5 : toL s = encF a rs (wIt C xs)) : ByBr s a K C := by
  have hr : ∀ d c, C d = some c → Thk.read (txtC c) = .inr c := fun d c hc => by
    obtain ⟨heff, t, ht⟩ := h.ch hs hc
    rw [(txt_read ht heff).1]; exact ht
  have hit := itsC_wIt h4 hr
  have hfl : flatR rs = ns := by have := h3.flat; rw [List.take_length] at this; exact this
  have hnl := h.ns hE he ns h1 h2
  have hxl := h.xs hE he h4
  have hwl : (wIt C xs).length = xs.length := by unfold wIt; simp
  have hin : ∀ d, d ∈ ns ↔ 1 ≤ nth d ∧ nth d ≤ K (who d) := fun d => by rw [h2]; unfold inK; simp
  have hrl : rs.length ≤ 500 := Nat.le_trans h3.len hnl
  have hsz : s.size ≤ 1000000000 := by
    rw [← toL_length, h5]
    unfold encF encS
    have q1 := encN_len 0
    have q2 := encN_len a
    have q3 := encN_len rs.length
    have q4 := encN_len (wIt C xs).length
    have q5 := flatMap_le encR 6 rs (fun r _ => by
      unfold encR encD
      have := encN_len (who r.1); have := encN_len (nth r.1); have := encN_len r.2
      simp only [List.length_append]; omega)
    have q6 := items_small C (fun k c hc => (h.chs hs k c hc).2.2.2.2) xs
    simp only [List.length_append]
    omega
  refine ⟨ha, ⟨rs, wIt C xs, h5, hsz, hrl, fun r hr2 => ?_, by omega, fun x hx => ?_, hit, fun d hd => ?_⟩, hK, fun k c hc => (h.chs hs k c hc).2.2.1⟩
  · obtain ⟨⟨o1, o2, o3⟩, o4, o5⟩ := h3.ok r hr2
    have hmem : ∀ k, k < r.2 → r.1 + k ∈ ns := fun k hk => by
      rw [← hfl]
      unfold flatR
      exact List.mem_flatMap.2 ⟨r, hr2, by unfold runD; exact List.mem_map.2 ⟨k, List.mem_range.2 hk, rfl⟩⟩
    have m0 := (hin _).1 (hmem 0 (by omega))
    have m1 := (hin _).1 (hmem (r.2 - 1) (by omega))
    rw [Nat.add_zero] at m0
    rw [nth_add (by omega), who_add (by omega)] at m1
    have := hK (who r.1)
    exact ⟨⟨o1, o2, by omega⟩, o4, by omega, o5⟩
  · obtain ⟨y, hy, rfl⟩ := List.mem_map.1 hx
    have hc : C y.n ≠ none := itOf_none.1 ((h4.1.2 y.n).1 (List.mem_map.2 ⟨y, hy, rfl⟩))
    obtain ⟨i, e, hd, _⟩ := h.sup hc
    have ho := hE.ok _ (List.mem_of_getElem? hd)
    cases hcy : C y.n with
    | none => exact absurd hcy hc
    | some c =>
      simp only [hcy]
      have := (h.chs hs _ c hcy).2.2.2.2
      exact ⟨⟨by omega, ho.2.1, ho.2.2⟩, by omega, c, hr _ c hcy, (h.ch hs hcy).1⟩
  · rw [hit, hfl, itOf_none]
    constructor
    · rintro (h6 | h6)
      · obtain ⟨i, e, h7, h8, _⟩ := h.sup h6
        exact (h.vec i d h7).1 ((alive_iff es known i).1 h8).2.1
      · exact ((hin d).1 h6).2
    · intro h6
      exact Or.inr ((hin d).2 ⟨hd, h6⟩)
theorem Kn.itms (h : Kn es D known K C) (hE : EvD es D n) (he : es.length ≤ 500) (hf : ∀ e ∈ es, EvFit e) : ItmsOK (SAll (itOf C)) := by
  have hev : ∀ e ∈ evsOf es (aliveTo es known es.length), e ∈ es := fun e he => by
    obtain ⟨i, _, hei⟩ := List.mem_filterMap.1 he
    exact List.mem_of_getElem? hei
  constructor
  · intro xs hx
    have := h.xs hE he hx
    omega
  · intro xs hx x hxm
    obtain ⟨e, he, hk⟩ := List.mem_map.1 ((h.perm hE hx).mem_iff.1 (List.mem_map.2 ⟨x, hxm, rfl⟩))
    have hfe := hf e (hev e he)
    unfold keyEv key at hk
    simp only [Prod.mk.injEq] at hk
    obtain ⟨h1, _, h3, h4⟩ := hk
    have p1 : x.p.size = e.p.size := by rw [← toL_length, ← toL_length, h1]
    have p2 : x.v.size = (keptVal e.a e.v).size := by rw [← toL_length, ← toL_length, h3]
    have p3 := keptVal_size e.a e.v
    have := hfe.p; have := hfe.v; have := hfe.n1; have := hfe.n2
    exact ⟨by omega, by omega, by omega, by omega⟩
end
end Go.Proofs.YtoiiaankpnhppaaGreatDoor
namespace Go.Proofs.YtoiiaankpnhppaaGreatDoor
open Go.RowKit Go.Maps Go.WideMaps Go.MuLone Go.Deep

structure RepB (K : Nat → Nat) (C : Nat → Option Thk.Ch) : Prop where
  hns : ∀ ns : List Nat, ns.Nodup → (∀ d, d ∈ ns ↔ 1 ≤ nth d ∧ inK K (fun _ => false) d) → ns.length ≤ 500
  hN : ∀ w v N, MapO Tryz.prog 121 w v N (im (itOf C)) → N ≤ 500
  hch : ∀ k c, C k = some c → (c.act = 43 ∨ c.act = 94 ∨ c.act = 61 ∨ c.act = 62) ∧ (-9223372036854775808 ≤ c.n ∧ c.n ≤ 9223372036854775807) ∧ c.path.length ≤ 1048576 ∧ (keptVal c.act ⟨c.val.toArray⟩).size ≤ 1048576 ∧ (txtC c).length ≤ 1000
def FrBy (s : ByteArray) (a : Nat) (K : Nat → Nat) (C : Nat → Option Thk.Ch) : Prop :=
  ∃ ns rs xs, ns.Nodup ∧ (∀ d, d ∈ ns ↔ 1 ≤ nth d ∧ inK K (fun _ => false) d) ∧ Runs ns ns.length rs ∧ SAll (itOf C) xs ∧ toL s = encF a rs (wIt C xs)
theorem rBytes (w : World) (hG : Glob w) {rb a : Nat} {io co lo : Option Nat} {K : Nat → Nat} {C : Nat → Option Thk.Ch} (hR : RepP w rb a io co lo K C) (hB : RepB K C) :
    Calls Tryz.prog 99 #[.agg #[.int .i64 (a : Int), .bool false, .map io, .map co, .map lo]] w fun e w' => ∃ s, e = .returned (.string s) ∧ FrBy s a K C ∧ Below w.heap.size w w' := by
  obtain ⟨N, hm⟩ := hR.st.its
  refine Calls.mono (Bytes_brings w hG a hR.a5 io co lo K (fun _ => false) C N hR.ctx hm (fun k hk => (hR.st.ok k (itOf_none.2 hk)).1) (hB.hN _ _ _ hm) hB.hns hB.hch) ?_
  rintro e w' ⟨s, ns, rs, xs, rfl, h1, h2, h3, h4, h5, h6⟩
  exact ⟨s, rfl, ⟨ns, rs, xs, h1, h2, h3, h4, h5⟩, h6⟩

def SendD (ds : List RepD) (bs : List (Nat × ByteArray)) (i j : Int) (n r : Int) (bs' : List (Nat × ByteArray)) : Prop :=
  (¬ ((0 ≤ i ∧ i < ds.length) ∧ (0 ≤ j ∧ j < ds.length)) ∧ n = 0 ∧ r = 2 ∧ bs' = bs) ∨
  (((0 ≤ i ∧ i < ds.length) ∧ (0 ≤ j ∧ j < ds.length)) ∧ i = j ∧ n = 0 ∧ r = 1 ∧ bs' = bs) ∨
  (((0 ≤ i ∧ i < ds.length) ∧ (0 ≤ j ∧ j < ds.length)) ∧ ¬ i = j ∧ 500 ≤ bs.length ∧ n = 0 ∧ r = 7 ∧ bs' = bs) ∨
  ∃ (k k' : Nat) (hk : k < ds.length) (s : ByteArray), i = (k : Int) ∧ j = (k' : Int) ∧ k' < ds.length ∧ ¬ i = j ∧ bs.length < 500 ∧ n = ((bs.length + 1 : Nat) : Int) ∧ r = 0 ∧ bs' = bs ++ [(k', s)] ∧ FrBy s k ds[k].K ds[k].C

set_option maxHeartbeats 8000000 in
set_option maxRecDepth 100000 in
theorem CSend_any (w : World) (hG : Glob w) (x q cap : Nat) (fv : Value) (ds : List RepD) (bs : List (Nat × ByteArray)) (hC : CluP w x q cap fv 0 ds bs) (hB : ∀ j (h : j < ds.length), RepB ds[j].K ds[j].C) (i j : Int) :
    Calls Tryz.prog 29 #[.pointer (some ⟨x, 0, none⟩), .int .i64 i, .int .i64 j] w fun e w' => ∃ n r bs' fv', e = .returned (.tuple #[.int .i64 n, .int .i64 r]) ∧ SendD ds bs i j n r bs' ∧ CluP w' x q cap fv' 0 ds bs' ∧
      Chg (fun k => k = x ∨ fv.ownBlock = some k) w w' ∧ (∀ k, fv'.ownBlock = some k → fv.ownBlock = some k ∨ w.heap.size ≤ k) := by
  have HB : Hid (∀ j (h : j < ds.length), RepB ds[j].K ds[j].C) := hB
  clear hB
  have HC : Hid (CluP w x q cap fv 0 ds bs) := hC
  have k0 : w.cell? ⟨x, 0, none⟩ = some (.int .i32 0) := (hC.blk.cell 0).trans rfl
  have z0 : w.frozen? ⟨x, 0, none⟩ = false := hC.blk.frozen 0
  have HC1 : Hid (CluP (w.setCell ⟨x, 0, none⟩ (.int .i32 1)) x q cap fv 1 ds bs) := hC.turn 1
  have HG : Hid (Glob w) := hG
  clear hC hG
  go_enter_defers Tryz.func29, Tryz.ntmps29
  go_wp2_with (go_at_call 34; refine (lock_free YtoiiaankpnhppaaGreatDoor.muLib ⟨x, 0, none⟩ _ k0 z0).mono ?_; rintro e w' ⟨rfl, rfl⟩)
  have h1b : Below (w.setCell ⟨x, 0, none⟩ (.int .i32 1)).heap.size (w.setCell ⟨x, 0, none⟩ (.int .i32 1)) ((w.setCell ⟨x, 0, none⟩ (.int .i32 1)).alloc (.cells #[.int .i64 i, .int .i64 j] 3)) := (Below.refl _ _).alloc (Nat.le_refl _) _
  have hgc : ((w.setCell ⟨x, 0, none⟩ (.int .i32 1)).alloc (.cells #[.int .i64 i, .int .i64 j] 3)).cell? ⟨w.heap.size, 0, none⟩ = some (.int .i64 i) := by
    have := (Blk.new (w.setCell ⟨x, 0, none⟩ (.int .i32 1)) #[.int .i64 i, .int .i64 j] 3).cell 0
    simpa using this
  have hgd : ((w.setCell ⟨x, 0, none⟩ (.int .i32 1)).alloc (.cells #[.int .i64 i, .int .i64 j] 3)).cell? ⟨w.heap.size, 1, none⟩ = some (.int .i64 j) := by
    have := (Blk.new (w.setCell ⟨x, 0, none⟩ (.int .i32 1)) #[.int .i64 i, .int .i64 j] 3).cell 1
    simpa using this
  have hch : Chg (fun k => k = x) w ((w.setCell ⟨x, 0, none⟩ (.int .i32 1)).alloc (.cells #[.int .i64 i, .int .i64 j] 3)) := (chg_turn (M := fun k => k = x) rfl _).below h1b
  have HB1 := HC1.out.below h1b
  refine Calls.mono (named_two _ x q cap fv 1 ds bs HB1 w.heap.size i j hgc hgd) ?_
  rintro e w1 ⟨rfl, hw1⟩
  rw [← hw1] at HB1 hch
  clear hgc hgd h1b hw1 HC1 k0 z0
  have G1 : Hid (Glob w1) := HG.out.chg4 hch (fun k e => by subst e; exact HC.out.x4)
  have HC1 : Hid (CluP w1 x q cap fv 1 ds bs) := HB1
  have Hch : Hid (Chg (fun k => k = x) w w1) := hch
  clear HB1 hch HG
  have HT : Hid (CluP (w1.setCell ⟨x, 0, none⟩ (.int .i32 0)) x q cap fv 0 ds bs ∧ Chg (fun k => k = x ∨ fv.ownBlock = some k) w (w1.setCell ⟨x, 0, none⟩ (.int .i32 0)) ∧ (∀ k, fv.ownBlock = some k → fv.ownBlock = some k ∨ w.heap.size ≤ k)) :=
    ⟨HC1.out.turn 0, Chg.setCell (M := fun k => k = x ∨ fv.ownBlock = some k) (p := ⟨x, 0, none⟩) (Hch.out.wide (fun k e => Or.inl e)) (Or.inl rfl) _, fun k hk => Or.inl hk⟩
  rw [namedL_2]
  by_cases hi : (0 ≤ i ∧ i < ds.length) ∧ (0 ≤ j ∧ j < ds.length)
  · rw [if_pos hi]
    by_cases hij : i = j
    · have HD : Hid (SendD ds bs i j 0 1 bs) := (Or.inr (Or.inl ⟨hi, hij, rfl, rfl, rfl⟩))
      clear hi
      subst hij
      go_wp2_with fail
      refine leaves_cons (f := 35) (args := #[.pointer (some ⟨x, 0, none⟩)]) (by simp) (by simp [go_sem]) ?_
      refine (unlock_deferred YtoiiaankpnhppaaGreatDoor.muLib ⟨x, 0, none⟩ .returning _ ((HC1.out.blk.cell 0).trans rfl) (HC1.out.blk.frozen 0)).mono ?_
      rintro e u' w9 ⟨rfl, rfl, rfl⟩
      exact ⟨_, results_tmp2 rfl _ _ _, _, _, bs, fv, rfl, HD.out, HT.out⟩
    · obtain ⟨k, rfl⟩ := Int.eq_ofNat_of_zero_le hi.1.1
      obtain ⟨k', rfl⟩ := Int.eq_ofNat_of_zero_le hi.2.1
      have hk : k < ds.length := by omega
      have hk' : k' < ds.length := by omega
      by_cases h5 : 500 ≤ bs.length
      · have HD : Hid (SendD ds bs (k : Int) (k' : Int) 0 7 bs) := (Or.inr (Or.inr (Or.inl ⟨hi, hij, h5, rfl, rfl, rfl⟩)))
        have HS : Hid (∀ wx, CluP wx x q cap fv 1 ds bs → Calls Tryz.prog 55 #[.pointer (some ⟨x, 0, none⟩)] wx fun e w' => e = .returned (.bool true) ∧ w' = wx) := fun wx hx => by
          have := allSent_any wx x q cap fv 1 ds bs hx
          rw [decide_eq_true h5] at this; exact this
        have hne : (((k : Int)) == ((k' : Int))) = false := beq_eq_false_iff_ne.2 hij
        clear hi
        go_wp2_with fail
        refine Calls.mono (HS.out _ HC1.out) ?_
        rintro e w2 ⟨rfl, rfl⟩
        go_wp2_with fail
        refine leaves_cons (f := 35) (args := #[.pointer (some ⟨x, 0, none⟩)]) (by simp) (by simp [go_sem]) ?_
        refine (unlock_deferred YtoiiaankpnhppaaGreatDoor.muLib ⟨x, 0, none⟩ .returning _ ((HC1.out.blk.cell 0).trans rfl) (HC1.out.blk.frozen 0)).mono ?_
        rintro e u' w9 ⟨rfl, rfl, rfl⟩
        exact ⟨_, results_tmp2 rfl _ _ _, _, _, bs, fv, rfl, HD.out, HT.out⟩
      · have HS : Hid (∀ wx, CluP wx x q cap fv 1 ds bs → Calls Tryz.prog 55 #[.pointer (some ⟨x, 0, none⟩)] wx fun e w' => e = .returned (.bool false) ∧ w' = wx) := fun wx hx => by
          have := allSent_any wx x q cap fv 1 ds bs hx
          rw [decide_eq_false h5] at this; exact this
        have hne : (((k : Int)) == ((k' : Int))) = false := beq_eq_false_iff_ne.2 hij
        have c2 : w1.cell? ⟨x, 2, none⟩ = some (.slice (some ⟨q, 0, none⟩) ds.length cap) := (HC1.out.blk.cell 2).trans rfl
        have cq := HC1.out.cell k hk
        have HR : Hid (_) := rSend_any w1 _ _ _ _ _ _ _ (HC1.out.rep k hk)
        have Hij : Hid (_) := hij
        have H5 : Hid (_) := h5
        clear hi
        go_wp2_with fail
        refine Calls.mono (HS.out _ HC1.out) ?_
        rintro e w2 ⟨rfl, rfl⟩
        go_wp2_with fail
        refine Calls.mono HR.out ?_
        rintro e w3 ⟨rfl, hb3⟩
        have HC3 : Hid (CluP w3 x q cap fv 1 ds bs) := HC1.out.below hb3
        have G3 : Hid (Glob w3) := G1.out.mono hb3
        have Hch3 : Hid (Chg (fun k => k = x) w w3) := Hch.out.below hb3
        have HZ : Hid (_) := send_any w3 x q cap fv 1 ds bs HC3.out (by have := H5.out; omega) k' (k : Int) false ds[k].io ds[k].co ds[k].lo (fun s => FrBy s k ds[k].K ds[k].C) (fun wx hx => rBytes wx (G3.out.mono hx) ((HC3.out.rep k hk).below hx) (HB.out k hk))
        clear HR HS hb3 c2 cq G1
        go_wp2_with fail
        refine Calls.mono HZ.out ?_
        rintro e w4 ⟨s, fv', rfl, hP, hC4, hc4, hn4⟩
        have HC4 : Hid (CluP w4 x q cap fv' 1 ds (bs ++ [(k', s)])) := hC4
        have HE : Hid (SendD ds bs (k : Int) (k' : Int) ((bs.length + 1 : Nat) : Int) 0 (bs ++ [(k', s)]) ∧ Chg (fun k => k = x ∨ fv.ownBlock = some k) w w4 ∧ (∀ b, fv'.ownBlock = some b → fv.ownBlock = some b ∨ w.heap.size ≤ b)) :=
          ⟨Or.inr (Or.inr (Or.inr ⟨k, k', hk, s, rfl, rfl, hk', Hij.out, by have := H5.out; omega, rfl, rfl, rfl, hP⟩)), (Hch3.out.wide (fun k e => Or.inl e)).trans hc4, fun b hb => (hn4 b hb).imp id (fun h => Nat.le_trans Hch3.out.size h)⟩
        clear HZ HC3 hP hC4 hc4 hn4 Hch3 G3
        go_wp2_with fail
        refine leaves_cons (f := 35) (args := #[.pointer (some ⟨x, 0, none⟩)]) (by simp) (by simp [go_sem]) ?_
        refine (unlock_deferred YtoiiaankpnhppaaGreatDoor.muLib ⟨x, 0, none⟩ .returning _ ((HC4.out.blk.cell 0).trans rfl) (HC4.out.blk.frozen 0)).mono ?_
        rintro e u' w9 ⟨rfl, rfl, rfl⟩
        exact ⟨_, results_tmp2 rfl _ _ _, _, _, _, fv', rfl, HE.out.1, HC4.out.turn 0, Chg.setCell (M := fun k => k = x ∨ fv.ownBlock = some k) (p := ⟨x, 0, none⟩) HE.out.2.1 (Or.inl rfl) _, HE.out.2.2⟩
  · rw [if_neg hi]
    have HD : Hid (SendD ds bs i j 0 2 bs) := (Or.inl ⟨hi, rfl, rfl, rfl⟩)
    clear hi
    go_wp2_with fail
    refine leaves_cons (f := 35) (args := #[.pointer (some ⟨x, 0, none⟩)]) (by simp) (by simp [go_sem]) ?_
    refine (unlock_deferred YtoiiaankpnhppaaGreatDoor.muLib ⟨x, 0, none⟩ .returning _ ((HC1.out.blk.cell 0).trans rfl) (HC1.out.blk.frozen 0)).mono ?_
    rintro e u' w9 ⟨rfl, rfl, rfl⟩
    exact ⟨_, results_tmp2 rfl _ _ _, _, _, bs, fv, rfl, HD.out, HT.out⟩

def frameD (bs : List (Nat × ByteArray)) (f : Int) : ByteArray × Int := if 1 ≤ f ∧ f ≤ bs.length then (((bs[f.toNat - 1]?.map Prod.snd).getD ⟨#[]⟩), 0) else (⟨#[]⟩, 9)

set_option maxHeartbeats 4000000 in
set_option maxRecDepth 100000 in
theorem CFrame_any (w : World) (x q cap : Nat) (fv : Value) (ds : List RepD) (bs : List (Nat × ByteArray)) (hC : CluP w x q cap fv 0 ds bs) (hz : ∀ p ∈ bs, p.2.size ≤ 1000000000) (f : Int) :
    Calls Tryz.prog 86 #[.pointer (some ⟨x, 0, none⟩), .int .i64 f] w fun e w' => e = .returned (.tuple #[.string (frameD bs f).1, .int .i64 (frameD bs f).2]) ∧ CluP w' x q cap fv 0 ds bs ∧ Chg (fun k => k = x) w w' := by
  have HC : Hid (CluP w x q cap fv 0 ds bs) := hC
  have k0 : w.cell? ⟨x, 0, none⟩ = some (.int .i32 0) := (hC.blk.cell 0).trans rfl
  have z0 : w.frozen? ⟨x, 0, none⟩ = false := hC.blk.frozen 0
  have HC1 : Hid (CluP (w.setCell ⟨x, 0, none⟩ (.int .i32 1)) x q cap fv 1 ds bs) := hC.turn 1
  have Hch : Hid (Chg (fun k => k = x) w (w.setCell ⟨x, 0, none⟩ (.int .i32 1))) := chg_turn (M := fun k => k = x) rfl _
  have hb5 := hC.b500
  clear hC
  generalize hW1 : w.setCell ⟨x, 0, none⟩ (.int .i32 1) = W1 at *
  have HW1 : Hid (w.setCell ⟨x, 0, none⟩ (.int .i32 1) = W1) := hW1
  clear hW1
  by_cases hf : 1 ≤ f ∧ f ≤ bs.length
  · obtain ⟨k, rfl⟩ : ∃ k : Nat, f = (k : Int) + 1 := ⟨(f - 1).toNat, by omega⟩
    have hk : k < bs.length := by omega
    have HS : Hid (∀ wx, CluP wx x q cap fv 1 ds bs → Calls Tryz.prog 43 #[.pointer (some ⟨x, 0, none⟩), .int .i64 ((k : Int) + 1)] wx fun e w' => e = .returned (.bool true) ∧ w' = wx) := fun wx hx => by
      have := isSent_any wx x q cap fv 1 ds bs hx ((k : Int) + 1)
      rw [decide_eq_true hf] at this; exact this
    have hfd : Hid (frameD bs ((k : Int) + 1) = (bs[k].2, 0)) := by
      unfold Hid frameD
      rw [if_pos hf]
      have : ((k : Int) + 1).toNat - 1 = k := by omega
      rw [this]; simp [hk]
    have hzk := hz _ (List.getElem_mem hk)
    obtain ⟨g, c, rfl⟩ := own_some HC1.out.fr (by omega)
    have c3 : W1.cell? ⟨x, 3, none⟩ = some (.slice (some ⟨g, 0, none⟩) bs.length c) := (HC1.out.blk.cell 3).trans rfl
    have cs : W1.cell? ⟨g, k * 2 + 1, none⟩ = some (.string bs[k].2) := by
      rw [HC1.out.fr.cellAt (k * 2 + 1) (by omega)]; exact (frV_at bs k hk).2
    have hcap : bs.length ≤ c := by
      obtain ⟨ao, c', e1, e2⟩ := HC1.out.fvS
      simp only [Value.slice.injEq] at e1
      omega
    rw [hfd.out]
    generalize bs[k].2 = bt at *
    have HCl : Hid (_) := CloneB_any bt W1 hzk
    clear hf hz hfd
    go_enter_defers Tryz.func86, Tryz.ntmps86
    go_wp2_with (go_at_call 34; refine (lock_free YtoiiaankpnhppaaGreatDoor.muLib ⟨x, 0, none⟩ _ k0 z0).mono ?_; rintro e w' ⟨rfl, rfl⟩)
    rw [HW1.out]
    refine Calls.mono (HS.out _ HC1.out) ?_
    rintro e w2 ⟨rfl, rfl⟩
    clear HS
    go_wp2_with fail
    refine Calls.mono HCl.out ?_
    rintro e w3 ⟨rfl, hb3⟩
    have HC3 : Hid (CluP w3 x q cap (.slice (some ⟨g, 0, none⟩) bs.length c) 1 ds bs) := HC1.out.below hb3
    have Hch3 : Hid (Chg (fun k => k = x) w w3) := Hch.out.below hb3
    clear HCl hb3 c3 cs
    go_wp2_with fail
    refine leaves_cons (f := 35) (args := #[.pointer (some ⟨x, 0, none⟩)]) (by simp) (by simp [go_sem]) ?_
    refine (unlock_deferred YtoiiaankpnhppaaGreatDoor.muLib ⟨x, 0, none⟩ .returning _ ((HC3.out.blk.cell 0).trans rfl) (HC3.out.blk.frozen 0)).mono ?_
    rintro e u' w9 ⟨rfl, rfl, rfl⟩
    exact ⟨_, results_tmp2 rfl _ _ _, rfl, HC3.out.turn 0, Chg.setCell (M := fun k => k = x) (p := ⟨x, 0, none⟩) Hch3.out rfl _⟩
  · have HS : Hid (∀ wx, CluP wx x q cap fv 1 ds bs → Calls Tryz.prog 43 #[.pointer (some ⟨x, 0, none⟩), .int .i64 f] wx fun e w' => e = .returned (.bool false) ∧ w' = wx) := fun wx hx => by
      have := isSent_any wx x q cap fv 1 ds bs hx f
      rw [decide_eq_false hf] at this; exact this
    have hfd : frameD bs f = (⟨#[]⟩, 9) := by unfold frameD; rw [if_neg hf]
    rw [hfd]
    clear hf hz hfd
    go_enter_defers Tryz.func86, Tryz.ntmps86
    go_wp2_with (go_at_call 34; refine (lock_free YtoiiaankpnhppaaGreatDoor.muLib ⟨x, 0, none⟩ _ k0 z0).mono ?_; rintro e w' ⟨rfl, rfl⟩)
    rw [HW1.out]
    refine Calls.mono (HS.out _ HC1.out) ?_
    rintro e w2 ⟨rfl, rfl⟩
    clear HS
    go_wp2_with fail
    refine leaves_cons (f := 35) (args := #[.pointer (some ⟨x, 0, none⟩)]) (by simp) (by simp [go_sem]) ?_
    refine (unlock_deferred YtoiiaankpnhppaaGreatDoor.muLib ⟨x, 0, none⟩ .returning _ ((HC1.out.blk.cell 0).trans rfl) (HC1.out.blk.frozen 0)).mono ?_
    rintro e u' w9 ⟨rfl, rfl, rfl⟩
    exact ⟨_, results_tmp2 rfl _ _ _, rfl, HC1.out.turn 0, Chg.setCell (M := fun k => k = x) (p := ⟨x, 0, none⟩) Hch.out rfl _⟩

set_option maxHeartbeats 4000000 in
set_option maxRecDepth 100000 in
theorem come_ack (w : World) (x : Nat) (dn : Int) (s : ByteArray) (a : Nat) (ha : a ≤ 5) (hs : toL s = encA a) :
    Calls Tryz.prog 44 #[.pointer (some ⟨x, 0, none⟩), .int .i64 dn, .string s] w fun e w' => e = .returned (.tuple #[.int .i64 0, .int .i64 0]) ∧ Below w.heap.size w w' := by
  have HR : Hid (_) := fRead_ack w s a ha hs
  clear hs
  go_enter Tryz.func44, Tryz.ntmps44
  go_wp2_with fail
  refine Calls.mono HR.out ?_
  rintro e w1 ⟨rfl, hb1⟩
  have HB : Hid (∀ ob, Below w.heap.size w (w1.alloc ob)) := fun ob => hb1.alloc hb1.size ob
  clear HR hb1
  go_wp2_with fail
  go_ret2
  exact ⟨rfl, HB.out _⟩

set_option maxHeartbeats 8000000 in
set_option maxRecDepth 100000 in
theorem come_full (w : World) (hG : Glob w) (x q cap : Nat) (fv : Value) (ds : List RepD) (bs : List (Nat × ByteArray)) (hC : CluP w x q cap fv 1 ds bs) (dn : Int) (s : ByteArray) (a : Nat) (K2 : Nat → Nat) (C2 : Nat → Option Thk.Ch) (hs : ByBr s a K2 C2) (h5 : 500 ≤ bs.length) :
    Calls Tryz.prog 44 #[.pointer (some ⟨x, 0, none⟩), .int .i64 dn, .string s] w fun e w' => e = .returned (.tuple #[.int .i64 0, .int .i64 7]) ∧ Below w.heap.size w w' := by
  obtain ⟨rs, its, e1, e2, e3, e4, e5, e6, e7, e8⟩ := hs.ex
  have HR : Hid (_) := fRead_brings w hG s a hs.a5 rs its e1 e2 e3 e4 e5 e6
  have HC : Hid (CluP w x q cap fv 1 ds bs) := hC
  have HS : Hid (∀ wx, CluP wx x q cap fv 1 ds bs → Calls Tryz.prog 55 #[.pointer (some ⟨x, 0, none⟩)] wx fun e w' => e = .returned (.bool true) ∧ w' = wx) := fun wx hx => by
    have := allSent_any wx x q cap fv 1 ds bs hx
    rw [decide_eq_true h5] at this; exact this
  clear hC hs e1 e2 e3 e4 e5 e6 e7 e8 h5 hG
  go_enter Tryz.func44, Tryz.ntmps44
  go_wp2_with fail
  refine Calls.mono HR.out ?_
  rintro e w1 ⟨ib, cb, lb, rfl, hst, hn, hb1⟩
  have HB : Hid (∀ ob, Below w.heap.size w (w1.alloc ob)) := fun ob => hb1.alloc hb1.size ob
  clear HR hb1 hst hn
  go_wp2_with fail
  refine Calls.mono (HS.out _ (HC.out.below (HB.out _))) ?_
  rintro e w2 ⟨rfl, rfl⟩
  go_wp2_with fail
  go_ret2
  exact ⟨rfl, HB.out _⟩

set_option maxHeartbeats 8000000 in
set_option maxRecDepth 100000 in
theorem come_br (w : World) (hG : Glob w) (x q cap : Nat) (fv : Value) (ds : List RepD) (bs : List (Nat × ByteArray)) (hC : CluP w x q cap fv 1 ds bs) (k : Nat) (hk : k < ds.length) (s : ByteArray) (a : Nat) (K2 : Nat → Nat) (C2 : Nat → Option Thk.Ch) (hs : ByBr s a K2 C2) (h5 : bs.length < 500)
    (same : ∀ d c c', ds[k].C d = some c → C2 d = some c' → c = c') :
    Calls Tryz.prog 44 #[.pointer (some ⟨x, 0, none⟩), .int .i64 (k : Int), .string s] w fun e w' => ∃ io co lo s' fv', e = .returned (.tuple #[.int .i64 ((bs.length + 1 : Nat) : Int), .int .i64 0]) ∧ toL s' = encA k ∧
      CluP w' x q cap fv' 1 (ds.set k ⟨ds[k].rb, some io, some co, some lo, maxK ds[k].K K2, joinC ds[k].K ds[k].C K2 C2⟩) (bs ++ [(a, s')]) ∧ (w.heap.size ≤ io ∧ w.heap.size ≤ co ∧ w.heap.size ≤ lo) ∧
      Chg (fun b => b = x ∨ fv.ownBlock = some b ∨ b = ds[k].rb) w w' ∧ (∀ b, fv'.ownBlock = some b → fv.ownBlock = some b ∨ w.heap.size ≤ b) := by
  obtain ⟨rs, its, e1, e2, e3, e4, e5, e6, e7, e8⟩ := hs.ex
  have HR : Hid (_) := fRead_brings w hG s a hs.a5 rs its e1 e2 e3 e4 e5 e6
  have HC : Hid (CluP w x q cap fv 1 ds bs) := hC
  have HS : Hid (∀ wx, CluP wx x q cap fv 1 ds bs → Calls Tryz.prog 55 #[.pointer (some ⟨x, 0, none⟩)] wx fun e w' => e = .returned (.bool false) ∧ w' = wx) := fun wx hx => by
    have := allSent_any wx x q cap fv 1 ds bs hx
    rw [decide_eq_false (by omega)] at this; exact this
  have hk5 : k ≤ 5 := by have := hC.len; omega
  have hlen := hC.len
  go_enter Tryz.func44, Tryz.ntmps44
  go_wp2_with fail
  refine Calls.mono HR.out ?_
  rintro e w1 ⟨ib, cb, lb, rfl, hst, hn, hb1⟩
  obtain ⟨W2, hW2⟩ : ∃ W2, W2 = w1.alloc (.cells #[.int .i64 (a : Int), .bool false, .map (some ib), .map (some cb), .map (some lb)] 108) := ⟨_, rfl⟩
  have hb12 : Below w1.heap.size w1 W2 := by rw [hW2]; exact (Below.refl _ w1).alloc (Nat.le_refl _) _
  have hb2 : Below w.heap.size w W2 := hb1.trans (hb12.mono hb1.size)
  have kf : Blk W2 w1.heap.size #[.int .i64 (a : Int), .bool false, .map (some ib), .map (some cb), .map (some lb)] 108 := by rw [hW2]; exact Blk.new w1 _ _
  have HC2 : Hid (CluP W2 x q cap fv 1 ds bs) := hC.below hb2
  have hst2 := hst.below hb12
  rw [e7] at hst2
  have hS2 : ∀ d, 1 ≤ nth d → ((itOf C2 d ≠ none ∨ d ∈ flatR rs) ↔ nth d ≤ K2 (who d)) := fun d hd => by rw [← e7]; exact e8 d hd
  have HV : Hid (∀ wx, wx.heap = W2.heap → wx.os = W2.os → wx.tape = W2.tape → wx.output = W2.output → Calls Tryz.prog 80 #[.pointer (some ⟨ds[k].rb, 0, none⟩), .agg #[.int .i64 (a : Int), .bool false, .map (some ib), .map (some cb), .map (some lb)]] wx fun e w' => e = .returned (.agg #[.int .i64 (k : Int), .bool true, .map none, .map none, .map none]) ∧
      (∃ io co lo, CluP w' x q cap fv 1 (ds.set k ⟨ds[k].rb, some io, some co, some lo, maxK ds[k].K K2, joinC ds[k].K ds[k].C K2 C2⟩) bs ∧ (w.heap.size ≤ io ∧ w.heap.size ≤ co ∧ w.heap.size ≤ lo) ∧ Chg (fun b => b = ds[k].rb) w w') ∧
      w'.cell? ⟨x, 2, none⟩ = some (.slice (some ⟨q, 0, none⟩) ds.length cap) ∧ w'.cell? ⟨q, k, none⟩ = some (.pointer (some ⟨ds[k].rb, 0, none⟩)) ∧ w'.cell? ⟨w1.heap.size, 0, none⟩ = some (.int .i64 (a : Int)) ∧ w'.cell? ⟨w1.heap.size, 1, none⟩ = some (.bool false) ∧ w'.cell? ⟨w1.heap.size, 2, none⟩ = some (.map (some ib)) ∧ w'.cell? ⟨w1.heap.size, 3, none⟩ = some (.map (some cb)) ∧ w'.cell? ⟨w1.heap.size, 4, none⟩ = some (.map (some lb))) := fun wx hx ho ht hp => by
    have hbx : Below W2.heap.size W2 wx := ⟨ho, ht, hp, by rw [hx]; exact Nat.le_refl _, fun k _ => by rw [hx]⟩
    have hcl := HC2.out.below hbx
    have hbw : Below w.heap.size w wx := hb2.trans (hbx.mono hb2.size)
    refine Calls.mono (Receive_any wx ds[k].rb k ds[k].K K2 ds[k].io ds[k].co ds[k].lo ds[k].C C2 ib cb lb (fun d => itOf C2 d ≠ none ∨ d ∈ flatR rs) (a : Int) (hcl.rep k hk) (hst2.below hbx) hS2 hs.k5 hs.cp same) ?_
    rintro e w' ⟨rfl, io, co, lo, hr, hnw, hc⟩
    have hcx := hcl.renew k hk hr hnw hc
    have hcw : Chg (fun b => b = ds[k].rb) w w' := (Chg.of_below hbw).trans hc
    have hx2 : ¬ x = ds[k].rb := fun e => hcl.xr k hk (Or.inl e)
    have hq2 : ¬ q = ds[k].rb := fun e => hcl.qr k hk (Or.inl e)
    have hf2 : ¬ w1.heap.size = ds[k].rb := fun e => by have := (hC.rep k hk).blk.lt; have := hb1.size; omega
    have kx := (kf.below hbx).chg hc hf2
    obtain ⟨cs, r1, r2⟩ := hcl.row
    have hz := hbw.size
    refine ⟨rfl, ⟨io, co, lo, hcx, ⟨by omega, by omega, by omega⟩, hcw⟩, ((hcl.blk.chg hc hx2).cell 2).trans rfl, ((r1.chg hc hq2).cell k).trans (r2 k hk), (kx.cell 0).trans rfl, (kx.cell 1).trans rfl, (kx.cell 2).trans rfl, (kx.cell 3).trans rfl, (kx.cell 4).trans rfl⟩
  have HZ : Hid (∀ wx w3, (∃ io co lo, CluP w3 x q cap fv 1 (ds.set k ⟨ds[k].rb, some io, some co, some lo, maxK ds[k].K K2, joinC ds[k].K ds[k].C K2 C2⟩) bs ∧ (w.heap.size ≤ io ∧ w.heap.size ≤ co ∧ w.heap.size ≤ lo) ∧ Chg (fun b => b = ds[k].rb) w w3) → wx.heap = w3.heap → wx.os = w3.os → wx.tape = w3.tape → wx.output = w3.output →
      Calls Tryz.prog 56 #[.pointer (some ⟨x, 0, none⟩), .int .i64 (a : Int), .agg #[.int .i64 (k : Int), .bool true, .map none, .map none, .map none]] wx fun e w' => ∃ io co lo s' fv', e = .returned (.int .i64 ((bs.length + 1 : Nat) : Int)) ∧ toL s' = encA k ∧
      CluP w' x q cap fv' 1 (ds.set k ⟨ds[k].rb, some io, some co, some lo, maxK ds[k].K K2, joinC ds[k].K ds[k].C K2 C2⟩) (bs ++ [(a, s')]) ∧ (w.heap.size ≤ io ∧ w.heap.size ≤ co ∧ w.heap.size ≤ lo) ∧
      Chg (fun b => b = x ∨ fv.ownBlock = some b ∨ b = ds[k].rb) w w' ∧ (∀ b, fv'.ownBlock = some b → fv.ownBlock = some b ∨ w.heap.size ≤ b)) := fun wx w3 h3 hx ho ht hp => by
    obtain ⟨io, co, lo, hcl, hnw, hcw⟩ := h3
    have hbx : Below w3.heap.size w3 wx := ⟨ho, ht, hp, by rw [hx]; exact Nat.le_refl _, fun k _ => by rw [hx]⟩
    have hclx := hcl.below hbx
    refine Calls.mono (send_any wx x q cap fv 1 _ bs hclx (by omega) a (k : Int) true none none none (fun s' => toL s' = encA k) (fun wy hy => Bytes_ack wy k hk5 none none none)) ?_
    rintro e w' ⟨s', fv', rfl, hP, hC4, hc4, hn4⟩
    have hcx : Chg (fun b => b = x ∨ fv.ownBlock = some b ∨ b = ds[k].rb) w wx := (hcw.below hbx).wide (fun b e => Or.inr (Or.inr e))
    refine ⟨io, co, lo, s', fv', rfl, hP, hC4, hnw, hcx.trans (hc4.wide (fun b e => e.elim Or.inl (fun e => Or.inr (Or.inl e)))), fun b hb => (hn4 b hb).imp id (fun h => Nat.le_trans hcx.size h)⟩
  have c2 : W2.cell? ⟨x, 2, none⟩ = some (.slice (some ⟨q, 0, none⟩) ds.length cap) := (HC2.out.blk.cell 2).trans rfl
  have cq := HC2.out.cell k hk
  have f0 := (kf.cell 0).trans rfl
  have f1 := (kf.cell 1).trans rfl
  have f2 := (kf.cell 2).trans rfl
  have f3 := (kf.cell 3).trans rfl
  have f4 := (kf.cell 4).trans rfl
  have HW2 : Hid (w1.alloc (.cells #[.int .i64 (a : Int), .bool false, .map (some ib), .map (some cb), .map (some lb)] 108) = W2) := hW2.symm
  clear HR hC hs e1 e2 e3 e4 e5 e6 e7 e8 same hG hst hst2 hS2 hn hb1 hb12 hb2 kf hW2 HC
  go_wp2_with fail
  rw [HW2.out]
  refine Calls.mono (HS.out _ HC2.out) ?_
  rintro e w3 ⟨rfl, rfl⟩
  clear HS
  go_wp2_with fail
  go_region_law (first | (go_simp; refine Calls.mono (HZ.out _ w4 h4 rfl rfl rfl rfl) ?_; rintro e w5 ⟨io, co, lo, s', fv', rfl, h5⟩) | (go_simp; refine Calls.mono (HV.out _ rfl rfl rfl rfl) ?_; rintro e w4 ⟨rfl, h4, d2, dq, g0, g1, g2, g3, g4⟩))
  all_goals
    have H5 : Hid (_) := h5
    clear h5
    go_wp2_with fail
    go_ret2
    exact ⟨io, co, lo, s', fv', rfl, H5.out⟩

set_option maxHeartbeats 4000000 in
set_option maxRecDepth 100000 in
theorem CDel_bad (w : World) (x q cap : Nat) (fv : Value) (ds : List RepD) (bs : List (Nat × ByteArray)) (hC : CluP w x q cap fv 0 ds bs) (f : Int) (hf : ¬ (1 ≤ f ∧ f ≤ bs.length)) :
    Calls Tryz.prog 23 #[.pointer (some ⟨x, 0, none⟩), .int .i64 f] w fun e w' => e = .returned (.tuple #[.int .i64 0, .int .i64 9]) ∧ CluP w' x q cap fv 0 ds bs ∧ Chg (fun k => k = x) w w' := by
  have k0 : w.cell? ⟨x, 0, none⟩ = some (.int .i32 0) := (hC.blk.cell 0).trans rfl
  have z0 : w.frozen? ⟨x, 0, none⟩ = false := hC.blk.frozen 0
  have HC1 : Hid (CluP (w.setCell ⟨x, 0, none⟩ (.int .i32 1)) x q cap fv 1 ds bs) := hC.turn 1
  have Hch : Hid (Chg (fun k => k = x) w (w.setCell ⟨x, 0, none⟩ (.int .i32 1))) := chg_turn (M := fun k => k = x) rfl _
  clear hC
  generalize hW1 : w.setCell ⟨x, 0, none⟩ (.int .i32 1) = W1 at *
  have HW1 : Hid (w.setCell ⟨x, 0, none⟩ (.int .i32 1) = W1) := hW1
  clear hW1
  have HS : Hid (∀ wx, CluP wx x q cap fv 1 ds bs → Calls Tryz.prog 43 #[.pointer (some ⟨x, 0, none⟩), .int .i64 f] wx fun e w' => e = .returned (.bool false) ∧ w' = wx) := fun wx hx => by
    have := isSent_any wx x q cap fv 1 ds bs hx f
    rw [decide_eq_false hf] at this; exact this
  clear hf
  go_enter_defers Tryz.func23, Tryz.ntmps23
  go_wp2_with (go_at_call 34; refine (lock_free YtoiiaankpnhppaaGreatDoor.muLib ⟨x, 0, none⟩ _ k0 z0).mono ?_; rintro e w' ⟨rfl, rfl⟩)
  rw [HW1.out]
  refine Calls.mono (HS.out _ HC1.out) ?_
  rintro e w2 ⟨rfl, rfl⟩
  clear HS
  go_wp2_with fail
  refine leaves_cons (f := 35) (args := #[.pointer (some ⟨x, 0, none⟩)]) (by simp) (by simp [go_sem]) ?_
  refine (unlock_deferred YtoiiaankpnhppaaGreatDoor.muLib ⟨x, 0, none⟩ .returning _ ((HC1.out.blk.cell 0).trans rfl) (HC1.out.blk.frozen 0)).mono ?_
  rintro e u' w9 ⟨rfl, rfl, rfl⟩
  exact ⟨_, results_tmp2 rfl _ _ _, rfl, HC1.out.turn 0, Chg.setCell (M := fun k => k = x) (p := ⟨x, 0, none⟩) Hch.out rfl _⟩

set_option maxHeartbeats 8000000 in
set_option maxRecDepth 100000 in
theorem CDel_of (w : World) (x q cap : Nat) (fv : Value) (ds : List RepD) (bs : List (Nat × ByteArray)) (hC : CluP w x q cap fv 0 ds bs) (k : Nat) (hk : k < bs.length) (M : Nat → Prop) (hM : M x) (Q : Int → Int → World → Prop)
    (hcome : ∀ wx, CluP wx x q cap fv 1 ds bs → Chg (fun k => k = x) w wx → Calls Tryz.prog 44 #[.pointer (some ⟨x, 0, none⟩), .int .i64 (bs[k].1 : Int), .string bs[k].2] wx fun e w' => ∃ n r fv' ds' bs', e = .returned (.tuple #[.int .i64 n, .int .i64 r]) ∧ CluP w' x q cap fv' 1 ds' bs' ∧ (CluP (w'.setCell ⟨x, 0, none⟩ (.int .i32 0)) x q cap fv' 0 ds' bs' → Chg M w (w'.setCell ⟨x, 0, none⟩ (.int .i32 0)) → Q n r (w'.setCell ⟨x, 0, none⟩ (.int .i32 0))) ∧ Chg M w w') :
    Calls Tryz.prog 23 #[.pointer (some ⟨x, 0, none⟩), .int .i64 ((k : Int) + 1)] w fun e w' => ∃ n r, e = .returned (.tuple #[.int .i64 n, .int .i64 r]) ∧ Q n r w' := by
  have k0 : w.cell? ⟨x, 0, none⟩ = some (.int .i32 0) := (hC.blk.cell 0).trans rfl
  have z0 : w.frozen? ⟨x, 0, none⟩ = false := hC.blk.frozen 0
  have HC1 : Hid (CluP (w.setCell ⟨x, 0, none⟩ (.int .i32 1)) x q cap fv 1 ds bs) := hC.turn 1
  have Hch : Hid (Chg (fun k => k = x) w (w.setCell ⟨x, 0, none⟩ (.int .i32 1))) := chg_turn (M := fun k => k = x) rfl _
  have hb5 := hC.b500
  clear hC
  generalize hW1 : w.setCell ⟨x, 0, none⟩ (.int .i32 1) = W1 at *
  have HW1 : Hid (w.setCell ⟨x, 0, none⟩ (.int .i32 1) = W1) := hW1
  clear hW1
  have HS : Hid (∀ wx, CluP wx x q cap fv 1 ds bs → Calls Tryz.prog 43 #[.pointer (some ⟨x, 0, none⟩), .int .i64 ((k : Int) + 1)] wx fun e w' => e = .returned (.bool true) ∧ w' = wx) := fun wx hx => by
    have := isSent_any wx x q cap fv 1 ds bs hx ((k : Int) + 1)
    rw [decide_eq_true (by omega)] at this; exact this
  obtain ⟨g, c, hfv⟩ := own_some HC1.out.fr (by omega)
  have c3 : W1.cell? ⟨x, 3, none⟩ = some (.slice (some ⟨g, 0, none⟩) bs.length c) := by rw [← hfv]; exact (HC1.out.blk.cell 3).trans rfl
  have cs0 : W1.cell? ⟨g, k * 2, none⟩ = some (.int .i64 (bs[k].1 : Int)) := by
    have := HC1.out.fr
    rw [hfv] at this
    rw [this.cellAt (k * 2) (by omega)]; exact (frV_at bs k hk).1
  have cs1 : W1.cell? ⟨g, k * 2 + 1, none⟩ = some (.string bs[k].2) := by
    have := HC1.out.fr
    rw [hfv] at this
    rw [this.cellAt (k * 2 + 1) (by omega)]; exact (frV_at bs k hk).2
  have hidx : IntKind.i64.wrap (k : Int) = (k : Int) := wrap_in _ (by omega) (by omega)
  have hk0 : (0 : Int) ≤ (k : Int) := by omega
  have hkI : (k : Int) < (bs.length : Int) := by omega
  have hcap : bs.length ≤ c := by
    obtain ⟨ao, c', e1, e2⟩ := HC1.out.fvS
    rw [hfv] at e1
    simp only [Value.slice.injEq] at e1
    omega
  have HK : Hid (∀ wx, wx.heap = W1.heap → wx.os = W1.os → wx.tape = W1.tape → wx.output = W1.output → Calls Tryz.prog 44 #[.pointer (some ⟨x, 0, none⟩), .int .i64 (bs[k].1 : Int), .string bs[k].2] wx fun e w' => ∃ n r fv' ds' bs', e = .returned (.tuple #[.int .i64 n, .int .i64 r]) ∧ CluP w' x q cap fv' 1 ds' bs' ∧ (CluP (w'.setCell ⟨x, 0, none⟩ (.int .i32 0)) x q cap fv' 0 ds' bs' → Chg M w (w'.setCell ⟨x, 0, none⟩ (.int .i32 0)) → Q n r (w'.setCell ⟨x, 0, none⟩ (.int .i32 0))) ∧ Chg M w w') := fun wx hx ho ht hp => by
    have hbx : Below W1.heap.size W1 wx := ⟨ho, ht, hp, by rw [hx]; exact Nat.le_refl _, fun k _ => by rw [hx]⟩
    exact hcome wx (HC1.out.below hbx) (Hch.out.below hbx)
  have hM' : Hid (M x) := hM
  clear hcome hfv hM
  generalize bs[k].1 = dn at *
  generalize bs[k].2 = bt at *
  go_enter_defers Tryz.func23, Tryz.ntmps23
  go_wp2_with (go_at_call 34; refine (lock_free YtoiiaankpnhppaaGreatDoor.muLib ⟨x, 0, none⟩ _ k0 z0).mono ?_; rintro e w' ⟨rfl, rfl⟩)
  rw [HW1.out]
  refine Calls.mono (HS.out _ HC1.out) ?_
  rintro e w2 ⟨rfl, rfl⟩
  clear HS k0 z0
  go_wp2_with fail
  refine wp_region_noPanic ?_
  go_region_law (go_simp; refine Calls.mono (HK.out _ rfl rfl rfl rfl) ?_; rintro e w3 ⟨n, r, fv', ds', bs', rfl, hC3, hQ3, hc3⟩)
  all_goals
    refine NoPanic.normal ?_
    have HC3 : Hid (CluP w3 x q cap fv' 1 ds' bs') := hC3
    have HQ3 : Hid (CluP (w3.setCell ⟨x, 0, none⟩ (.int .i32 0)) x q cap fv' 0 ds' bs' → Chg M w (w3.setCell ⟨x, 0, none⟩ (.int .i32 0)) → Q n r (w3.setCell ⟨x, 0, none⟩ (.int .i32 0))) := hQ3
    have Hc3 : Hid (Chg M w w3) := hc3
    clear HK c3 cs0 cs1 hC3 hQ3 hc3
    go_wp2_with fail
    refine leaves_cons (f := 35) (args := #[.pointer (some ⟨x, 0, none⟩)]) (by simp) (by simp [go_sem]) ?_
    refine (unlock_deferred YtoiiaankpnhppaaGreatDoor.muLib ⟨x, 0, none⟩ .returning _ ((HC3.out.blk.cell 0).trans rfl) (HC3.out.blk.frozen 0)).mono ?_
    rintro e u' w9 ⟨rfl, rfl, rfl⟩
    exact ⟨_, results_tmp2 rfl _ _ _, n, r, rfl, HQ3.out (HC3.out.turn 0) (Hc3.out.setCell (p := ⟨x, 0, none⟩) hM'.out _)⟩
end Go.Proofs.YtoiiaankpnhppaaGreatDoor
namespace Go.Proofs.YtoiiaankpnhppaaGreatDoor
open Go.RowKit
variable {F G : Stt}

def upR (kn : List (List Bool)) (i : Int) : Int := if 0 ≤ i ∧ i < kn.length then 0 else 2

section
variable {S R : Nat → Prop} {w0 : World} {bx : Nat} {o : StepD} {pb x c : Nat} {s1 s2 : St} {wx : World}
theorem Mid0.pAsk (hF : ProgOK F) (hP : ProgFrame F) (hQ : RefFrame G) (h : Mid0 F G S R w0 pb x c s1 s2 wx) (i : Int) (t : ByteArray) (ht : t.size ≤ 1048576) :
    Calls Tryz.prog 20 #[.pointer (some ⟨x, 0, none⟩), .int .i64 i, .string t] wx fun e w' => ∃ u, e = .returned (.tuple #[.string u, .int .i64 (askR s1.es s1.kn i (toL t)).2]) ∧ toL u = (askR s1.es s1.kn i (toL t)).1 ∧ Mid0 F G S R w0 pb x c s1 s2 w' := by
  obtain ⟨S1, h1, h2⟩ := h.f
  refine Calls.mono (hF.asks wx x S1 s1 i t h.glob h1 ht) ?_
  rintro e w' ⟨u, rfl, hu, S2, f2, g2, hc⟩
  exact ⟨u, rfl, hu, h.prog hP hQ h1 h2 f2 g2 hc⟩
theorem Mid0.rAsk (hR : RefOK G) (hP : ProgFrame F) (hQ : RefFrame G) (h : Mid0 F G S R w0 pb x c s1 s2 wx) (i : Int) (t : ByteArray) (ht : t.size ≤ 1048576) :
    Calls Tryz.prog 84 #[.pointer (some ⟨c, 0, none⟩), .int .i64 i, .string t] wx fun e w' => ∃ u, e = .returned (.tuple #[.string u, .int .i64 (askR s2.es s2.kn i (toL t)).2]) ∧ toL u = (askR s2.es s2.kn i (toL t)).1 ∧ Mid0 F G S R w0 pb x c s1 s2 w' := by
  obtain ⟨R1, h1, h2⟩ := h.g
  refine Calls.mono (hR.asks wx c R1 s2 i t h1 ht) ?_
  rintro e w' ⟨u, rfl, hu, hb⟩
  exact ⟨u, rfl, hu, h.below hP hQ hb⟩
theorem Mid0.pKnows (hF : ProgOK F) (hP : ProgFrame F) (hQ : RefFrame G) (h : Mid0 F G S R w0 pb x c s1 s2 wx) (i : Int) :
    Calls Tryz.prog 18 #[.pointer (some ⟨x, 0, none⟩), .int .i64 i] wx fun e w' => e = .returned (.tuple #[.int .i64 (knowsR s1.kn i).1, .int .i64 (knowsR s1.kn i).2]) ∧ Mid0 F G S R w0 pb x c s1 s2 w' := by
  obtain ⟨S1, h1, h2⟩ := h.f
  refine Calls.mono (hF.knows wx x S1 s1 i h.glob h1) ?_
  rintro e w' ⟨rfl, S2, f2, g2, hc⟩
  exact ⟨rfl, h.prog hP hQ h1 h2 f2 g2 hc⟩
theorem Mid0.pDo (hF : ProgOK F) (hP : ProgFrame F) (hQ : RefFrame G) (h : Mid0 F G S R w0 pb x c s1 s2 wx) (i : Int) (t : ByteArray) (ht : t.size ≤ 1048576) {r : Int} {es' : List Ev} {kn' : List (List Bool)} (hd : DoOut s1.es s1.kn i (toL t) r es' kn') :
    Calls Tryz.prog 19 #[.pointer (some ⟨x, 0, none⟩), .int .i64 i, .string t] wx fun e w' => e = .returned (.int .i64 r) ∧ Mid0 F G S R w0 pb x c ⟨es', kn', s1.fs⟩ s2 w' := by
  obtain ⟨S1, h1, h2⟩ := h.f
  refine Calls.mono (hF.does wx x S1 s1 i t r es' kn' h.glob h1 ht hd) ?_
  rintro e w' ⟨rfl, S2, f2, g2, hc⟩
  exact ⟨rfl, h.prog hP hQ h1 h2 f2 g2 hc⟩
theorem Mid0.pSend (hF : ProgOK F) (hP : ProgFrame F) (hQ : RefFrame G) (h : Mid0 F G S R w0 pb x c s1 s2 wx) (i j : Int) :
    Calls Tryz.prog 29 #[.pointer (some ⟨x, 0, none⟩), .int .i64 i, .int .i64 j] wx fun e w' => e = .returned (.tuple #[.int .i64 (sendR s1 i j).1, .int .i64 (sendR s1 i j).2]) ∧ ∃ s', SendTo s1 i j s' ∧ Mid0 F G S R w0 pb x c s' s2 w' := by
  obtain ⟨S1, h1, h2⟩ := h.f
  refine Calls.mono (hF.sends wx x S1 s1 i j h.glob h1) ?_
  rintro e w' ⟨rfl, S2, s', hs, f2, g2, hc⟩
  exact ⟨rfl, s', hs, h.prog hP hQ h1 h2 f2 g2 hc⟩
theorem Mid0.pDel (hF : ProgOK F) (hP : ProgFrame F) (hQ : RefFrame G) (h : Mid0 F G S R w0 pb x c s1 s2 wx) (f : Int) :
    Calls Tryz.prog 23 #[.pointer (some ⟨x, 0, none⟩), .int .i64 f] wx fun e w' => e = .returned (.tuple #[.int .i64 (delR s1 f).1, .int .i64 (delR s1 f).2]) ∧ ∃ s', DelTo s1 f s' ∧ Mid0 F G S R w0 pb x c s' s2 w' := by
  obtain ⟨S1, h1, h2⟩ := h.f
  refine Calls.mono (hF.dels wx x S1 s1 f h.glob h1) ?_
  rintro e w' ⟨rfl, S2, s', hs, f2, g2, hc⟩
  exact ⟨rfl, s', hs, h.prog hP hQ h1 h2 f2 g2 hc⟩
theorem Mid0.pFrame (hF : ProgOK F) (hP : ProgFrame F) (hQ : RefFrame G) (h : Mid0 F G S R w0 pb x c s1 s2 wx) (f : Int) :
    Calls Tryz.prog 86 #[.pointer (some ⟨x, 0, none⟩), .int .i64 f] wx fun e w' => e = .returned (.tuple #[.string (frameR s1 f).1, .int .i64 (frameR s1 f).2]) ∧ Mid0 F G S R w0 pb x c s1 s2 w' := by
  obtain ⟨S1, h1, h2⟩ := h.f
  refine Calls.mono (hF.frame wx x S1 s1 f h.glob h1) ?_
  rintro e w' ⟨rfl, S2, f2, g2, hc⟩
  exact ⟨rfl, h.prog hP hQ h1 h2 f2 g2 hc⟩
theorem Mid0.rDo (hR : RefOK G) (hP : ProgFrame F) (hQ : RefFrame G) (h : Mid0 F G S R w0 pb x c s1 s2 wx) (i : Int) (t : ByteArray) (ht : t.size ≤ 1048576) :
    Calls Tryz.prog 92 #[.pointer (some ⟨c, 0, none⟩), .int .i64 i, .string t] wx fun e w' => ∃ r es' kn', e = .returned (.int .i64 r) ∧ DoOut s2.es s2.kn i (toL t) r es' kn' ∧ Mid0 F G S R w0 pb x c s1 ⟨es', kn', s2.fs⟩ w' := by
  obtain ⟨R1, h1, h2⟩ := h.g
  refine Calls.mono (hR.does wx c R1 s2 i t h1 ht) ?_
  rintro e w' ⟨r, es', kn', rfl, hd, R2, f2, g2, hc, hi⟩
  exact ⟨r, es', kn', rfl, hd, h.ref hP hQ h1 h2 f2 g2 hc hi⟩
theorem Mid0.rSend (hR : RefOK G) (hP : ProgFrame F) (hQ : RefFrame G) (h : Mid0 F G S R w0 pb x c s1 s2 wx) (i j : Int) {s' : St} (hs : SendTo s2 i j s') :
    Calls Tryz.prog 88 #[.pointer (some ⟨c, 0, none⟩), .int .i64 i, .int .i64 j] wx fun e w' => e = .returned (.tuple #[.int .i64 (sendR s2 i j).1, .int .i64 (sendR s2 i j).2]) ∧ Mid0 F G S R w0 pb x c s1 s' w' := by
  obtain ⟨R1, h1, h2⟩ := h.g
  refine Calls.mono (hR.sends wx c R1 s2 i j s' h1 hs) ?_
  rintro e w' ⟨rfl, R2, f2, g2, hc, hi⟩
  exact ⟨rfl, h.ref hP hQ h1 h2 f2 g2 hc hi⟩
theorem Mid0.rDel (hR : RefOK G) (hP : ProgFrame F) (hQ : RefFrame G) (h : Mid0 F G S R w0 pb x c s1 s2 wx) (f : Int) {s' : St} (hs : DelTo s2 f s') :
    Calls Tryz.prog 89 #[.pointer (some ⟨c, 0, none⟩), .int .i64 f] wx fun e w' => e = .returned (.tuple #[.int .i64 (delR s2 f).1, .int .i64 (delR s2 f).2]) ∧ Mid0 F G S R w0 pb x c s1 s' w' := by
  obtain ⟨R1, h1, h2⟩ := h.g
  refine Calls.mono (hR.dels wx c R1 s2 f s' h1 hs) ?_
  rintro e w' ⟨rfl, R2, f2, g2, hc, hi⟩
  exact ⟨rfl, h.ref hP hQ h1 h2 f2 g2 hc hi⟩
theorem Mid0.rBound (hR : RefOK G) (h : Mid0 F G S R w0 pb x c s1 s2 wx) (f : Int) : Calls Tryz.prog 87 #[.pointer (some ⟨c, 0, none⟩), .int .i64 f] wx fun e w' => ∃ n : Nat, e = .returned (.int .i64 (n : Int)) ∧ n ≤ 1000000 ∧ (n = 0 ↔ frNo s2 f = none) ∧ w' = wx := by
  obtain ⟨R1, h1, h2⟩ := h.g
  exact hR.bound wx c R1 s2 f h1
theorem Mid0.rUp (hR : RefOK G) (h : Mid0 F G S R w0 pb x c s1 s2 wx) (i : Int) : Calls Tryz.prog 83 #[.pointer (some ⟨c, 0, none⟩), .int .i64 i] wx fun e w' => e = .returned (.int .i64 (upR s2.kn i)) ∧ w' = wx := by
  obtain ⟨R1, h1, h2⟩ := h.g
  exact hR.up wx c R1 s2 i h1

theorem Mid.pAsk (hF : ProgOK F) (hP : ProgFrame F) (hQ : RefFrame G) (h : Mid F G S R w0 bx o pb x c s1 s2 wx) (i : Int) (t : ByteArray) (ht : t.size ≤ 1048576) :
    Calls Tryz.prog 20 #[.pointer (some ⟨x, 0, none⟩), .int .i64 i, .string t] wx fun e w' => ∃ u, e = .returned (.tuple #[.string u, .int .i64 (askR s1.es s1.kn i (toL t)).2]) ∧ toL u = (askR s1.es s1.kn i (toL t)).1 ∧ Mid F G S R w0 bx o pb x c s1 s2 w' := by
  refine Calls.mono (h.m.pAsk hF hP hQ i t ht) ?_
  rintro e w' ⟨u, rfl, hu, hm⟩
  exact ⟨u, rfl, hu, hm, h.bk, h.bS, h.bR⟩
theorem Mid.rAsk (hR : RefOK G) (hP : ProgFrame F) (hQ : RefFrame G) (h : Mid F G S R w0 bx o pb x c s1 s2 wx) (i : Int) (t : ByteArray) (ht : t.size ≤ 1048576) :
    Calls Tryz.prog 84 #[.pointer (some ⟨c, 0, none⟩), .int .i64 i, .string t] wx fun e w' => ∃ u, e = .returned (.tuple #[.string u, .int .i64 (askR s2.es s2.kn i (toL t)).2]) ∧ toL u = (askR s2.es s2.kn i (toL t)).1 ∧ Mid F G S R w0 bx o pb x c s1 s2 w' := by
  refine Calls.mono (h.m.rAsk hR hP hQ i t ht) ?_
  rintro e w' ⟨u, rfl, hu, hm⟩
  exact ⟨u, rfl, hu, hm, h.bk, h.bS, h.bR⟩
theorem Mid.pKnows (hF : ProgOK F) (hP : ProgFrame F) (hQ : RefFrame G) (h : Mid F G S R w0 bx o pb x c s1 s2 wx) (i : Int) :
    Calls Tryz.prog 18 #[.pointer (some ⟨x, 0, none⟩), .int .i64 i] wx fun e w' => e = .returned (.tuple #[.int .i64 (knowsR s1.kn i).1, .int .i64 (knowsR s1.kn i).2]) ∧ Mid F G S R w0 bx o pb x c s1 s2 w' := by
  refine Calls.mono (h.m.pKnows hF hP hQ i) ?_
  rintro e w' ⟨rfl, hm⟩
  exact ⟨rfl, hm, h.bk, h.bS, h.bR⟩
theorem Mid.pDo (hF : ProgOK F) (hP : ProgFrame F) (hQ : RefFrame G) (h : Mid F G S R w0 bx o pb x c s1 s2 wx) (i : Int) (t : ByteArray) (ht : t.size ≤ 1048576) {r : Int} {es' : List Ev} {kn' : List (List Bool)} (hd : DoOut s1.es s1.kn i (toL t) r es' kn') :
    Calls Tryz.prog 19 #[.pointer (some ⟨x, 0, none⟩), .int .i64 i, .string t] wx fun e w' => e = .returned (.int .i64 r) ∧ Mid F G S R w0 bx o pb x c ⟨es', kn', s1.fs⟩ s2 w' := by
  refine Calls.mono (h.m.pDo hF hP hQ i t ht hd) ?_
  rintro e w' ⟨rfl, hm⟩
  exact ⟨rfl, hm, h.bk, h.bS, h.bR⟩
theorem Mid.pSend (hF : ProgOK F) (hP : ProgFrame F) (hQ : RefFrame G) (h : Mid F G S R w0 bx o pb x c s1 s2 wx) (i j : Int) :
    Calls Tryz.prog 29 #[.pointer (some ⟨x, 0, none⟩), .int .i64 i, .int .i64 j] wx fun e w' => e = .returned (.tuple #[.int .i64 (sendR s1 i j).1, .int .i64 (sendR s1 i j).2]) ∧ ∃ s', SendTo s1 i j s' ∧ Mid F G S R w0 bx o pb x c s' s2 w' := by
  refine Calls.mono (h.m.pSend hF hP hQ i j) ?_
  rintro e w' ⟨rfl, s', hs, hm⟩
  exact ⟨rfl, s', hs, hm, h.bk, h.bS, h.bR⟩
theorem Mid.pDel (hF : ProgOK F) (hP : ProgFrame F) (hQ : RefFrame G) (h : Mid F G S R w0 bx o pb x c s1 s2 wx) (f : Int) :
    Calls Tryz.prog 23 #[.pointer (some ⟨x, 0, none⟩), .int .i64 f] wx fun e w' => e = .returned (.tuple #[.int .i64 (delR s1 f).1, .int .i64 (delR s1 f).2]) ∧ ∃ s', DelTo s1 f s' ∧ Mid F G S R w0 bx o pb x c s' s2 w' := by
  refine Calls.mono (h.m.pDel hF hP hQ f) ?_
  rintro e w' ⟨rfl, s', hs, hm⟩
  exact ⟨rfl, s', hs, hm, h.bk, h.bS, h.bR⟩
theorem Mid.pFrame (hF : ProgOK F) (hP : ProgFrame F) (hQ : RefFrame G) (h : Mid F G S R w0 bx o pb x c s1 s2 wx) (f : Int) :
    Calls Tryz.prog 86 #[.pointer (some ⟨x, 0, none⟩), .int .i64 f] wx fun e w' => e = .returned (.tuple #[.string (frameR s1 f).1, .int .i64 (frameR s1 f).2]) ∧ Mid F G S R w0 bx o pb x c s1 s2 w' := by
  refine Calls.mono (h.m.pFrame hF hP hQ f) ?_
  rintro e w' ⟨rfl, hm⟩
  exact ⟨rfl, hm, h.bk, h.bS, h.bR⟩
theorem Mid.rDo (hR : RefOK G) (hP : ProgFrame F) (hQ : RefFrame G) (h : Mid F G S R w0 bx o pb x c s1 s2 wx) (i : Int) (t : ByteArray) (ht : t.size ≤ 1048576) :
    Calls Tryz.prog 92 #[.pointer (some ⟨c, 0, none⟩), .int .i64 i, .string t] wx fun e w' => ∃ r es' kn', e = .returned (.int .i64 r) ∧ DoOut s2.es s2.kn i (toL t) r es' kn' ∧ Mid F G S R w0 bx o pb x c s1 ⟨es', kn', s2.fs⟩ w' := by
  refine Calls.mono (h.m.rDo hR hP hQ i t ht) ?_
  rintro e w' ⟨r, es', kn', rfl, hd, hm⟩
  exact ⟨r, es', kn', rfl, hd, hm, h.bk, h.bS, h.bR⟩
theorem Mid.rSend (hR : RefOK G) (hP : ProgFrame F) (hQ : RefFrame G) (h : Mid F G S R w0 bx o pb x c s1 s2 wx) (i j : Int) {s' : St} (hs : SendTo s2 i j s') :
    Calls Tryz.prog 88 #[.pointer (some ⟨c, 0, none⟩), .int .i64 i, .int .i64 j] wx fun e w' => e = .returned (.tuple #[.int .i64 (sendR s2 i j).1, .int .i64 (sendR s2 i j).2]) ∧ Mid F G S R w0 bx o pb x c s1 s' w' := by
  refine Calls.mono (h.m.rSend hR hP hQ i j hs) ?_
  rintro e w' ⟨rfl, hm⟩
  exact ⟨rfl, hm, h.bk, h.bS, h.bR⟩
theorem Mid.rDel (hR : RefOK G) (hP : ProgFrame F) (hQ : RefFrame G) (h : Mid F G S R w0 bx o pb x c s1 s2 wx) (f : Int) {s' : St} (hs : DelTo s2 f s') :
    Calls Tryz.prog 89 #[.pointer (some ⟨c, 0, none⟩), .int .i64 f] wx fun e w' => e = .returned (.tuple #[.int .i64 (delR s2 f).1, .int .i64 (delR s2 f).2]) ∧ Mid F G S R w0 bx o pb x c s1 s' w' := by
  refine Calls.mono (h.m.rDel hR hP hQ f hs) ?_
  rintro e w' ⟨rfl, hm⟩
  exact ⟨rfl, hm, h.bk, h.bS, h.bR⟩
theorem Mid.rBound (hR : RefOK G) (h : Mid F G S R w0 bx o pb x c s1 s2 wx) (f : Int) : Calls Tryz.prog 87 #[.pointer (some ⟨c, 0, none⟩), .int .i64 f] wx fun e w' => ∃ n : Nat, e = .returned (.int .i64 (n : Int)) ∧ n ≤ 1000000 ∧ (n = 0 ↔ frNo s2 f = none) ∧ w' = wx := h.m.rBound hR f
theorem Mid.rUp (hR : RefOK G) (h : Mid F G S R w0 bx o pb x c s1 s2 wx) (i : Int) : Calls Tryz.prog 83 #[.pointer (some ⟨c, 0, none⟩), .int .i64 i] wx fun e w' => e = .returned (.int .i64 (upR s2.kn i)) ∧ w' = wx := h.m.rUp hR i
end

set_option maxHeartbeats 4000000 in
set_option maxRecDepth 100000 in
theorem tells_ask (hF : ProgOK F) (hR : RefOK G) (hP : ProgFrame F) (hQ : RefFrame G) (w : World) (hG : Glob w) (pb x : Nat) (S : Nat → Prop) (c : Nat) (R : Nat → Prop) (s : St) (h : PairAt F G w pb x S c R s) (h4 : (∀ k, S k → 4 ≤ k) ∧ (∀ k, R k → 4 ≤ k))
    (o : StepD) (ho : o.ok) (hk : o.kind = 3) :
    Calls Tryz.prog 48 #[.pointer (some ⟨pb, 0, none⟩), o.val] w fun e w' => e = .returned (.bool true) ∧ Told F G S R w pb x c s w' := by
  have HP : Hid (ProgFrame F) := hP
  have HQ : Hid (RefFrame G) := hQ
  have hs : o.s.size ≤ 1048576 := ho.2.2.2.2
  unfold StepD.val
  obtain ⟨W1, hW1⟩ : ∃ W1, W1 = w.alloc (stepO o) := ⟨_, rfl⟩
  have HA0 : Hid (∀ q, Mid F G S R W1 w.heap.size o pb x c s s (W1.drewN q)) := fun q => by rw [hW1]; exact (Mid.start hP hQ hG h h4 o).drewN hP hQ q
  have HX : Hid (∀ wx, Mid F G S R W1 w.heap.size o pb x c s s wx → Calls Tryz.prog 20 #[.pointer (some ⟨x, 0, none⟩), .int .i64 o.n, .string o.s] wx _) := fun wx hx => hx.pAsk hF hP hQ o.n o.s hs
  have HY : Hid (∀ wx, Mid F G S R W1 w.heap.size o pb x c s s wx → Calls Tryz.prog 84 #[.pointer (some ⟨c, 0, none⟩), .int .i64 o.n, .string o.s] wx _) := fun wx hx => hx.rAsk hR hP hQ o.n o.s hs
  have HU : Hid (∀ wx, Mid F G S R W1 w.heap.size o pb x c s s wx → Calls Tryz.prog 83 #[.pointer (some ⟨c, 0, none⟩), .int .i64 o.n] wx _) := fun wx hx => hx.rUp hR o.n
  have hfin : Hid (∀ wx, Mid F G S R W1 w.heap.size o pb x c s s wx → Told F G S R w pb x c s wx) := fun wx hx => by rw [hW1] at hx; exact hx.fin
  have HW : Hid (w.alloc (stepO o) = W1) := hW1.symm
  have y0 : W1.cell? ⟨w.heap.size, 0, none⟩ = some (.int .i64 o.kind) := (HA0.out 0).b0
  have y1 : W1.cell? ⟨pb, 1, none⟩ = some (.pointer (some ⟨c, 0, none⟩)) := (HA0.out 0).p1
  have y2 : W1.cell? ⟨w.heap.size, 2, none⟩ = some (.int .i64 o.n) := (HA0.out 0).b2
  obtain ⟨k, a, n, m, t⟩ := o
  simp only at *
  subst hk
  clear hF hR hP hQ hG h ho hW1 h4
  go_enter Tryz.func48, Tryz.ntmps48
  go_wp2_with fail
  rw [HW.out]
  go_quiet (first | (go_at_call 83; exact Calls.mono (HU.out _ (HA0.out _)) (fun _ _ h => ⟨h.1, _, h.2⟩)))
  go_wp2_with fail
  have hA := HA0.out nq
  clear HA0 HU y0 y1 y2
  generalize W1.drewN nq = w2 at *
  have q0 := hA.p0
  have q2 := hA.b2
  have q4 := hA.b4
  simp only at q2 q4
  go_region_held3 (fun w' => Mid F G S R W1 w.heap.size ⟨3, a, n, m, t⟩ pb x c s s w' ∧ w'.cell? ⟨pb, 0, none⟩ = some (.pointer (some ⟨x, 0, none⟩)) ∧ w'.cell? ⟨w.heap.size, 2, none⟩ = some (.int .i64 n) ∧ w'.cell? ⟨w.heap.size, 4, none⟩ = some (.string t)) ((refine ⟨?_, ?_, ?_, ?_⟩ <;> (first | assumption | (exact Mid.drew HP.out HQ.out (by assumption)) | (exact Mid.p0 (by assumption)) | (exact Mid.b2 (by assumption)) | (exact Mid.b4 (by assumption))))) (first | (go_at_call 20; refine Calls.mono (HX.out _ ?_) ?_; (exact hA.drew HP.out HQ.out); rintro e w3 ⟨u, rfl, hu, hA3⟩))
  have Hu : Hid (toL u = (askR s.es s.kn n (toL t)).1) := hu
  clear hA q0 q2 q4 hu
  go_wp2_with fail
  have r1 := hA3.p1
  have r2 := hA3.b2
  have r4 := hA3.b4
  simp only at r2 r4
  go_region_held3 (fun w' => Mid F G S R W1 w.heap.size ⟨3, a, n, m, t⟩ pb x c s s w' ∧ w'.cell? ⟨pb, 1, none⟩ = some (.pointer (some ⟨c, 0, none⟩)) ∧ w'.cell? ⟨w.heap.size, 2, none⟩ = some (.int .i64 n) ∧ w'.cell? ⟨w.heap.size, 4, none⟩ = some (.string t)) ((refine ⟨?_, ?_, ?_, ?_⟩ <;> (first | assumption | (exact Mid.drew HP.out HQ.out (by assumption)) | (exact Mid.p1 (by assumption)) | (exact Mid.b2 (by assumption)) | (exact Mid.b4 (by assumption))))) (first | (go_at_call 84; refine Calls.mono (HY.out _ ?_) ?_; (exact hA3.drew HP.out HQ.out); rintro e w4 ⟨u', rfl, hu', hA4⟩))
  have htt : u' = u := toL_inj (hu'.trans Hu.out.symm)
  subst htt
  have HA4 : Hid (Mid F G S R W1 w.heap.size ⟨3, a, n, m, t⟩ pb x c s s w4) := hA4
  clear hA3 hA4 r1 r2 r4 hu'
  generalize (askR s.es s.kn n (toL t)).2 = g at *
  go_wp2_with (first | (go_at_call 82; refine (num_any _ _).mono ?_; rintro e w5 ⟨rfl, rfl⟩))
  go_ret
  exact ⟨rfl, hfin.out _ HA4.out⟩
end Go.Proofs.YtoiiaankpnhppaaGreatDoor
namespace Go.Proofs.YtoiiaankpnhppaaGreatDoor
open Go.RowKit
variable {F G : Stt}

set_option maxHeartbeats 4000000 in
set_option maxRecDepth 100000 in
theorem tells_knows (hF : ProgOK F) (hR : RefOK G) (hP : ProgFrame F) (hQ : RefFrame G) (w : World) (hG : Glob w) (pb x : Nat) (S : Nat → Prop) (c : Nat) (R : Nat → Prop) (s : St) (h : PairAt F G w pb x S c R s) (h4 : (∀ k, S k → 4 ≤ k) ∧ (∀ k, R k → 4 ≤ k))
    (o : StepD) (ho : o.ok) (hk : o.kind = 4) :
    Calls Tryz.prog 48 #[.pointer (some ⟨pb, 0, none⟩), o.val] w fun e w' => e = .returned (.bool true) ∧ Told F G S R w pb x c s w' := by
  have HP : Hid (ProgFrame F) := hP
  have HQ : Hid (RefFrame G) := hQ
  have HR : Hid (RefOK G) := hR
  unfold StepD.val
  obtain ⟨W1, hW1⟩ : ∃ W1, W1 = w.alloc (stepO o) := ⟨_, rfl⟩
  have HA0 : Hid (∀ q, Mid F G S R W1 w.heap.size o pb x c s s (W1.drewN q)) := fun q => by rw [hW1]; exact (Mid.start hP hQ hG h h4 o).drewN hP hQ q
  have HX : Hid (∀ wx, Mid F G S R W1 w.heap.size o pb x c s s wx → Calls Tryz.prog 18 #[.pointer (some ⟨x, 0, none⟩), .int .i64 o.n] wx _) := fun wx hx => hx.pKnows hF hP hQ o.n
  have HU : Hid (∀ wx, Mid F G S R W1 w.heap.size o pb x c s s wx → Calls Tryz.prog 83 #[.pointer (some ⟨c, 0, none⟩), .int .i64 o.n] wx _) := fun wx hx => hx.rUp hR o.n
  have hfin : Hid (∀ wx, Mid F G S R W1 w.heap.size o pb x c s s wx → Told F G S R w pb x c s wx) := fun wx hx => by rw [hW1] at hx; exact hx.fin
  have HW : Hid (w.alloc (stepO o) = W1) := hW1.symm
  have y0 : W1.cell? ⟨w.heap.size, 0, none⟩ = some (.int .i64 o.kind) := (HA0.out 0).b0
  have y1 : W1.cell? ⟨pb, 1, none⟩ = some (.pointer (some ⟨c, 0, none⟩)) := (HA0.out 0).p1
  have y2 : W1.cell? ⟨w.heap.size, 2, none⟩ = some (.int .i64 o.n) := (HA0.out 0).b2
  obtain ⟨k, a, n, m, t⟩ := o
  simp only at *
  subst hk
  clear hF hR hP hQ hG h ho hW1 h4
  go_enter Tryz.func48, Tryz.ntmps48
  go_wp2_with fail
  rw [HW.out]
  go_quiet (first | (go_at_call 83; exact Calls.mono (HU.out _ (HA0.out _)) (fun _ _ h => ⟨h.1, _, h.2⟩)))
  go_wp2_with fail
  have hA := HA0.out nq
  clear HA0 HU y0 y1 y2
  generalize W1.drewN nq = w2 at *
  have q0 := hA.p0
  have q2 := hA.b2
  simp only at q2
  go_region_held3 (fun w' => Mid F G S R W1 w.heap.size ⟨4, a, n, m, t⟩ pb x c s s w' ∧ w'.cell? ⟨pb, 0, none⟩ = some (.pointer (some ⟨x, 0, none⟩)) ∧ w'.cell? ⟨w.heap.size, 2, none⟩ = some (.int .i64 n)) ((refine ⟨?_, ?_, ?_⟩ <;> (first | assumption | (exact Mid.drew HP.out HQ.out (by assumption)) | (exact Mid.p0 (by assumption)) | (exact Mid.b2 (by assumption))))) (first | (go_at_call 18; refine Calls.mono (HX.out _ ?_) ?_; (exact hA.drew HP.out HQ.out); rintro e w3 ⟨rfl, hA3⟩))
  clear hA q0 q2 HX
  by_cases hn : 0 ≤ n ∧ n < s.kn.length
  · obtain ⟨i, rfl⟩ := Int.eq_ofNat_of_zero_le hn.1
    have hi : i < s.kn.length := by omega
    have e1 : upR s.kn (i : Int) = 0 := if_pos hn
    have e2 : knowsR s.kn (i : Int) = ((cnt s.kn[i] : Int), 0) := by
      unfold knowsR; rw [if_pos hn]; simp [List.getD_eq_getElem?_getD, hi]
    rw [e1, e2]
    obtain ⟨R1, h1, h2⟩ := hA3.m.g
    obtain ⟨h6, rb, cap, f1, hcap, hrows⟩ := HR.out.cells _ _ _ _ h1
    obtain ⟨kv, k0, k1, hl5⟩ := hrows i hi
    have r1 := hA3.p1
    have r2 := hA3.b2
    simp only at r2
    have Hcnt : Hid (∀ q, Calls Tryz.prog 85 #[kv] (w3.drewN q) fun e w' => e = .returned (.int .i64 (cnt s.kn[i] : Int)) ∧ w' = w3.drewN q) := fun q => Count_any w3.heap.size kv s.kn[i] _ hl5 (SliceT.below k1 (below_drewN (Below.refl _ _) q)).toIn
    have HA3 : Hid (Mid F G S R W1 w.heap.size ⟨4, a, (i : Int), m, t⟩ pb x c s s w3) := hA3
    clear h1 h2 hA3 k1 e1 e2 hn hrows
    generalize cnt s.kn[i] = z at *
    have hi0 : (0 : Int) ≤ (i : Int) := by omega
    have hi1 : (i : Int) < (s.kn.length : Int) := by omega
    go_wp2_with fail
    go_quiet (first | (go_at_call 85; exact Calls.mono (Hcnt.out _) (fun _ _ h => ⟨h.1, _, h.2⟩)))
    have HA4 : Hid (Mid F G S R W1 w.heap.size ⟨4, a, (i : Int), m, t⟩ pb x c s s (w3.drewN nq)) := HA3.out.drewN HP.out HQ.out _
    go_wp2_with (first | (go_at_call 82; refine (num_any _ _).mono ?_; rintro e w5 ⟨rfl, rfl⟩))
    go_ret
    exact ⟨rfl, hfin.out _ HA4.out⟩
  · have e1 : upR s.kn n = 2 := if_neg hn
    have e2 : knowsR s.kn n = (0, 2) := if_neg hn
    rw [e1, e2]
    have HA3 : Hid (Mid F G S R W1 w.heap.size ⟨4, a, n, m, t⟩ pb x c s s w3) := hA3
    clear hA3 e1 e2 hn
    go_wp2_with (first | (go_at_call 82; refine (num_any _ _).mono ?_; rintro e w5 ⟨rfl, rfl⟩))
    all_goals (go_ret; exact ⟨rfl, hfin.out _ HA3.out⟩)
end Go.Proofs.YtoiiaankpnhppaaGreatDoor
namespace Go.Proofs.YtoiiaankpnhppaaGreatDoor
open Go.RowKit

theorem doOut_exists (es : List Ev) (kn : List (List Bool)) (i : Int) (s : Thk.Bs) : ∃ r es' kn', DoOut es kn i s r es' kn' := by
  by_cases hi : 0 ≤ i ∧ i < kn.length
  · cases hr : Thk.read s with
    | inl k => exact ⟨_, _, _, DoOut.bad k hi hr⟩
    | inr c =>
      by_cases hl : 500 ≤ es.length
      · exact ⟨_, _, _, DoOut.full c hi hr hl⟩
      · exact ⟨_, _, _, DoOut.done c ⟨⟨c.path.toArray⟩, c.act, ⟨c.val.toArray⟩, c.n, kn.getD i.toNat []⟩ hi hr (by omega) rfl rfl rfl rfl rfl⟩
  · exact ⟨_, _, _, DoOut.rep hi⟩

theorem doOut_det {es : List Ev} {kn : List (List Bool)} {i : Int} {s : Thk.Bs} {r r2 : Int} {e1 e2 : List Ev} {k1 k2 : List (List Bool)} (h : DoOut es kn i s r e1 k1) (h2 : DoOut es kn i s r2 e2 k2) : r = r2 ∧ e1 = e2 ∧ k1 = k2 := by
  rcases h with ⟨hi, rfl, rfl, rfl⟩ | ⟨k, hi, hr, rfl, rfl, rfl⟩ | ⟨c, hi, hr, hl, rfl, rfl, rfl⟩ | ⟨c, e, hi, hr, hl, a1, a2, a3, a4, a5, rfl, rfl, rfl⟩ <;>
    rcases h2 with ⟨h3, rfl, rfl, rfl⟩ | ⟨k', h3, h4, rfl, rfl, rfl⟩ | ⟨c', h3, h4, h5, rfl, rfl, rfl⟩ | ⟨c', e', h3, h4, h5, b1, b2, b3, b4, b5, rfl, rfl, rfl⟩
  · exact ⟨rfl, rfl, rfl⟩
  · exact absurd h3 hi
  · exact absurd h3 hi
  · exact absurd h3 hi
  · exact absurd hi h3
  · rw [hr] at h4; cases h4; exact ⟨rfl, rfl, rfl⟩
  · rw [hr] at h4; cases h4
  · rw [hr] at h4; cases h4
  · exact absurd hi h3
  · rw [hr] at h4; cases h4
  · exact ⟨rfl, rfl, rfl⟩
  · omega
  · exact absurd hi h3
  · rw [hr] at h4; cases h4
  · omega
  · rw [hr] at h4
    cases h4
    obtain ⟨p, a, v, n, sw⟩ := e
    obtain ⟨p', a', v', n', sw'⟩ := e'
    simp only at a1 a2 a3 a4 a5 b1 b2 b3 b4 b5
    have hp : p = p' := toL_inj (a1.trans b1.symm)
    have hv : v = v' := toL_inj (a3.trans b3.symm)
    subst hp hv a2 a4 a5
    refine ⟨rfl, ?_, rfl⟩
    rw [b2, b4, b5]
end Go.Proofs.YtoiiaankpnhppaaGreatDoor

