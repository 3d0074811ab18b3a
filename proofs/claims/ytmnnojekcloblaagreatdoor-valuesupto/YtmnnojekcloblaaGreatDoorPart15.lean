import Derived.Test.YtmnnojekcloblaaGreatDoorPart14
set_option linter.unusedVariables false
set_option linter.unusedSimpArgs false
namespace Go.Proofs.YtmnnojekcloblaaGreatDoor
open Go.RowKit

def chOf (e : Ev) : Thk.Ch := ⟨toL e.p, e.a, toL e.v, e.n⟩

theorem getD_app {l : List Bool} {r : List Bool} (i : Nat) (h : i < l.length) : (l ++ r).getD i false = l.getD i false := by
  rw [List.getD_eq_getElem?_getD, List.getD_eq_getElem?_getD, List.getElem?_append_left h]
theorem moreOf_getD (known : List Bool) (n : Nat) (h : known.length ≤ n) (i : Nat) : (moreOf known n).getD i false = (known.getD i false || decide (i = n)) := by
  unfold moreOf
  have hz : ∀ j, known.length ≤ j → known.getD j false = false := fun j hj => by rw [List.getD_eq_getElem?_getD, List.getElem?_eq_none hj]; rfl
  by_cases h1 : i < known.length
  · rw [List.append_assoc, getD_app i h1]
    have : ¬ i = n := by omega
    simp [this]
  · rw [hz i (by omega)]
    by_cases h2 : i < n
    · rw [getD_app i (by simp; omega), List.getD_eq_getElem?_getD, List.getElem?_append_right (by omega), List.getElem?_replicate, if_pos (by omega)]
      have : ¬ i = n := by omega
      simp [this]
    · by_cases h3 : i = n
      · subst h3
        rw [List.getD_eq_getElem?_getD, List.getElem?_append_right (by simp; omega)]
        have : i - (known ++ List.replicate (i - known.length) false).length = 0 := by simp; omega
        rw [this]; simp
      · rw [List.getD_eq_getElem?_getD, List.getElem?_eq_none (by simp; omega)]
        simp [h3]
theorem cnt_more (known : List Bool) (n : Nat) : cnt (moreOf known n) = cnt known + 1 := by
  unfold cnt moreOf
  rw [List.filter_append, List.filter_append, List.length_append, List.length_append]
  have : (List.replicate (n - known.length) false).filter id = [] := by rw [List.filter_eq_nil_iff]; intro a ha; simp [List.eq_of_mem_replicate ha]
  rw [this]; rfl

theorem getD_len {known : List Bool} {j : Nat} (hj : known.length ≤ j) : known.getD j false = false := by rw [List.getD_eq_getElem?_getD, List.getElem?_eq_none hj]; rfl

/-- An event that is not known changes nothing. -/
theorem covAt_app {es : List Ev} {e : Ev} {known : List Bool} {k d : Nat} (hd : d < es.length) (hk : k < es.length) : covAt (es ++ [e]) known k d = covAt es known k d := by
  unfold covAt; rw [List.getElem?_append_left hd, List.getElem?_append_left hk]
theorem covTo_app {es : List Ev} {e : Ev} {known : List Bool} {k : Nat} (hk : k < es.length) : ∀ d, d ≤ es.length → covTo (es ++ [e]) known k d = covTo es known k d
  | 0, _ => rfl
  | d + 1, h => by unfold covTo; rw [covTo_app hk d (by omega), covAt_app (by omega) hk]
theorem alive_app {es : List Ev} {e : Ev} {known : List Bool} (hl : known.length ≤ es.length) {k : Nat} (hk : k < es.length) : alive (es ++ [e]) known k = alive es known k := by
  unfold alive
  rw [List.getElem?_append_left hk, List.length_append]
  have h1 : covTo (es ++ [e]) known k (es.length + 1) = covTo es known k es.length := by
    rw [covTo, covTo_app hk _ (Nat.le_refl _)]
    have : covAt (es ++ [e]) known k es.length = false := by unfold covAt; rw [getD_len hl]; split <;> simp
    rw [this]; simp
  rw [show [e].length = 1 from rfl, h1]

/-- What is known, turned behind a number, changes nothing ahead of it. -/
theorem covAt_kn {es : List Ev} {known known' : List Bool} {k d : Nat} (h : known'.getD d false = known.getD d false) : covAt es known' k d = covAt es known k d := by unfold covAt; rw [h]
theorem covTo_kn {es : List Ev} {known known' : List Bool} {k : Nat} : ∀ n, (∀ d, d < n → known'.getD d false = known.getD d false) → covTo es known' k n = covTo es known k n
  | 0, _ => rfl
  | n + 1, h => by unfold covTo; rw [covTo_kn n (fun d hd => h d (by omega)), covAt_kn (h n (by omega))]
theorem covTo_self {es : List Ev} {known : List Bool} {k : Nat} : ∀ n, n ≤ k + 1 → covTo es known k n = false
  | 0, _ => rfl
  | n + 1, h => by unfold covTo; rw [covTo_self n (by omega)]; have : ¬ k < n := by omega
                   simp [this]

/-- A replica of the program holds what the document's replica knows: the events of its own, in order. -/
structure OwnT (es : List Ev) (known : List Bool) (n : Nat) (C : Nat → Option Thk.Ch) (ps : List Nat) : Prop where
  len : known.length ≤ es.length
  pn : ps.length = n
  c : cnt known = n
  inc : ps.Pairwise (· < ·)
  mem : ∀ i, i ∈ ps ↔ known.getD i false = true
  saw : ∀ i e, i ∈ ps → es[i]? = some e → ∀ j, e.saw.getD j false = (known.getD j false && decide (j < i))
  c0 : C 0 = none
  cs : ∀ k, C (k + 1) = (ps[k]?).bind fun i => if alive es known i = true then (es[i]?).map chOf else none
theorem OwnT.lt {es : List Ev} {known : List Bool} {n : Nat} {C : Nat → Option Thk.Ch} {ps : List Nat} (h : OwnT es known n C ps) {i : Nat} (hi : i ∈ ps) : i < es.length := by
  have h1 := (h.mem i).1 hi
  have := h.len
  by_cases h2 : i < known.length
  · omega
  · rw [getD_len (by omega)] at h1; cases h1
theorem OwnT.nil : OwnT [] [] 0 (fun _ => none) [] := ⟨Nat.le_refl _, rfl, rfl, List.Pairwise.nil, fun i => by simp, fun i e h => absurd h (by simp), rfl, fun k => by simp⟩

/-- Another replica has had an event. -/
theorem OwnT.other {es : List Ev} {known : List Bool} {n : Nat} {C : Nat → Option Thk.Ch} {ps : List Nat} (h : OwnT es known n C ps) (e : Ev) : OwnT (es ++ [e]) known n C ps := by
  refine ⟨by have := h.len; simp; omega, h.pn, h.c, h.inc, h.mem, fun i e' hi he => ?_, h.c0, fun k => ?_⟩
  · rw [List.getElem?_append_left (h.lt hi)] at he; exact h.saw i e' hi he
  · rw [h.cs k]
    cases hp : ps[k]? with
    | none => rfl
    | some i =>
      have hi : i ∈ ps := List.mem_of_getElem? hp
      simp only [Option.bind_some]
      rw [alive_app h.len (h.lt hi), List.getElem?_append_left (h.lt hi)]

theorem covB_kept (dp : Thk.Bs) (da : UInt8) (dv : Thk.Bs) (ep : Thk.Bs) (ea : UInt8) (ev : Thk.Bs) : covB dp da (toL (keptVal da ⟨dv.toArray⟩)) ep ea (toL (keptVal ea ⟨ev.toArray⟩)) = covB dp da dv ep ea ev := by
  have hk : ∀ (a : UInt8) (v : Thk.Bs), a.toNat = 43 ∨ a.toNat = 45 → toL (keptVal a ⟨v.toArray⟩) = v := fun a v h => by
    unfold keptVal; rw [if_pos (by omega)]; rfl
  unfold covB
  split
  · rfl
  · split
    · rfl
    · split
      · rename_i h43
        have e1 : toL (keptVal ea ⟨ev.toArray⟩) = ev := hk ea ev (Or.inl (by omega))
        rw [e1]
        by_cases h2 : da.toNat = 43 ∨ da.toNat = 45
        · rw [hk da dv h2]
        · have h3 : ((da.toNat : Int) == 43 || (da.toNat : Int) == 45) = false := by simp; omega
          rw [h3]; rfl
      · rfl

/-- It has had an event of its own. -/
theorem OwnT.mine {es : List Ev} {known : List Bool} {n : Nat} {C : Nat → Option Thk.Ch} {ps : List Nat} (h : OwnT es known n C ps) (e : Ev) (c : Thk.Ch) (hc : chOf e = c) (hs : e.saw = known) : OwnT (es ++ [e]) (moreOf known es.length) (n + 1) (stepC C c n) (ps ++ [es.length]) := by
  have hl := h.len
  have hg := moreOf_getD known es.length hl
  have hnl : known.getD es.length false = false := getD_len hl
  refine ⟨by rw [moreOf_length _ _ hl]; simp, by simp [h.pn], by rw [cnt_more, h.c], ?_, fun i => ?_, fun i e' hi he j => ?_, ?_, fun k => ?_⟩
  · rw [List.pairwise_append]
    exact ⟨h.inc, List.pairwise_singleton _ _, fun a ha b hb => by simp at hb; subst hb; exact h.lt ha⟩
  · rw [hg, List.mem_append, h.mem]
    by_cases e2 : i = es.length
    · simp [e2]
    · simp [e2]
  · rw [hg]
    rw [List.mem_append] at hi
    rcases hi with hi | hi
    · have hil := h.lt hi
      rw [List.getElem?_append_left hil] at he
      rw [h.saw i e' hi he j]
      by_cases h1 : j < i
      · have : ¬ j = es.length := by omega
        simp [h1, this]
      · simp [h1]
    · simp at hi
      subst hi
      simp at he
      subst he
      rw [hs]
      by_cases h1 : j < es.length
      · have : ¬ j = es.length := by omega
        simp [h1, this]
      · rw [getD_len (by omega)]; simp [h1]
  · unfold stepC; rw [if_neg (by omega), h.c0]
  · unfold stepC
    by_cases hk : k + 1 = n + 1
    · have hkn : k = ps.length := by rw [h.pn]; omega
      rw [if_pos hk, hkn, List.getElem?_append_right (Nat.le_refl _)]
      simp only [Nat.sub_self, List.getElem?_cons_zero, Option.bind_some]
      have ha : alive (es ++ [e]) (moreOf known es.length) es.length = effB e.a := by
        unfold alive
        have he : (es ++ [e])[es.length]? = some e := by simp
        rw [he]
        simp only []
        rw [hg, hnl, covTo_self _ (by simp)]
        simp
      rw [ha, List.getElem?_append_right (Nat.le_refl _)]
      subst hc
      cases h9 : effB e.a <;> simp [chOf, h9]
    · rw [if_neg hk, h.cs k]
      by_cases hk2 : k < ps.length
      · rw [List.getElem?_append_left hk2, List.getElem?_eq_getElem hk2]
        simp only [Option.bind_some]
        have hi : ps[k] ∈ ps := List.getElem_mem hk2
        have hil := h.lt hi
        generalize ps[k] = i at *
        have hei : es[i]? = some es[i] := List.getElem?_eq_getElem hil
        have hcv : covAt (es ++ [e]) (moreOf known es.length) i es.length = covB (toL e.p) e.a (toL e.v) (toL es[i].p) es[i].a (toL es[i].v) := by
          unfold covAt
          have he : (es ++ [e])[es.length]? = some e := by simp
          rw [he, List.getElem?_append_left hil, hei]
          simp only []
          rw [hg, hs, (h.mem i).1 hi]
          simp
        have hct : covTo (es ++ [e]) (moreOf known es.length) i (es.length + 1) = (covTo es known i es.length || covB (toL e.p) e.a (toL e.v) (toL es[i].p) es[i].a (toL es[i].v)) := by
          have hkn : ∀ d, d < es.length → (moreOf known es.length).getD d false = known.getD d false := fun d hd => by
            have : ¬ d = es.length := by omega
            rw [hg]; simp [this]
          rw [covTo, hcv, covTo_kn es.length hkn, covTo_app hil _ (Nat.le_refl _)]
          simp [hil]
        have ha : alive (es ++ [e]) (moreOf known es.length) i = (alive es known i && !covB (toL e.p) e.a (toL e.v) (toL es[i].p) es[i].a (toL es[i].v)) := by
          unfold alive
          rw [List.getElem?_append_left hil, hei, List.length_append]
          simp only []
          rw [show [e].length = 1 from rfl, hct, hg, (h.mem i).1 hi]
          simp [Bool.and_assoc]
        have hcc : covC c.path c.act (toL (keptVal c.act ⟨c.val.toArray⟩)) (chOf es[i]) = covB (toL e.p) e.a (toL e.v) (toL es[i].p) es[i].a (toL es[i].v) := by
          subst hc
          exact covB_kept _ _ _ _ _ _
        rw [ha, List.getElem?_append_left hil, hei]
        cases hal : alive es known i
        · simp
        · simp only [if_true, Option.map_some, hcc]
          cases covB (toL e.p) e.a (toL e.v) (toL es[i].p) es[i].a (toL es[i].v) <;> simp
      · rw [List.getElem?_eq_none (by omega), List.getElem?_eq_none (by simp; have := h.pn; omega)]
        rfl
end Go.Proofs.YtmnnojekcloblaaGreatDoor

namespace Go.Proofs.YtmnnojekcloblaaGreatDoor
open Go.RowKit

theorem ltB_iff : ∀ (a b : Thk.Bs), Thk.ltB a b = true ↔ a < b
  | [], [] => by simp [Thk.ltB]
  | [], _ :: _ => by simp [Thk.ltB]
  | _ :: _, [] => by simp [Thk.ltB]
  | a :: l, b :: m => by
    rw [Thk.ltB, List.cons_lt_cons_iff, ← ltB_iff l m]
    simp only [Bool.or_eq_true, Bool.and_eq_true, decide_eq_true_eq, beq_iff_eq, UInt8.lt_iff_toNat_lt]
theorem ltB_irr : ∀ a : Thk.Bs, Thk.ltB a a = false
  | [] => rfl
  | a :: l => by rw [Thk.ltB, ltB_irr l]; simp
theorem ltB_trans : ∀ (a b c : Thk.Bs), Thk.ltB a b = true → Thk.ltB b c = true → Thk.ltB a c = true
  | [], [], _, h, _ => by simp [Thk.ltB] at h
  | [], _ :: _, [], _, h => by simp [Thk.ltB] at h
  | [], _ :: _, _ :: _, _, _ => rfl
  | _ :: _, [], _, h, _ => by simp [Thk.ltB] at h
  | _ :: _, _ :: _, [], _, h => by simp [Thk.ltB] at h
  | a :: l, b :: m, c :: n, h1, h2 => by
    simp only [Thk.ltB, Bool.or_eq_true, Bool.and_eq_true, decide_eq_true_eq, beq_iff_eq] at h1 h2 ⊢
    rcases h1 with h1 | ⟨rfl, h1⟩
    · rcases h2 with h2 | ⟨rfl, h2⟩
      · exact Or.inl (by omega)
      · exact Or.inl h1
    · rcases h2 with h2 | ⟨rfl, h2⟩
      · exact Or.inl h2
      · exact Or.inr ⟨rfl, ltB_trans l m n h1 h2⟩
theorem ltB_tri : ∀ (a b : Thk.Bs), Thk.ltB a b = true ∨ a = b ∨ Thk.ltB b a = true
  | [], [] => Or.inr (Or.inl rfl)
  | [], _ :: _ => Or.inl rfl
  | _ :: _, [] => Or.inr (Or.inr rfl)
  | a :: l, b :: m => by
    simp only [Thk.ltB, Bool.or_eq_true, Bool.and_eq_true, decide_eq_true_eq, beq_iff_eq]
    by_cases h : a.toNat < b.toNat
    · exact Or.inl (Or.inl h)
    · by_cases h2 : b.toNat < a.toNat
      · exact Or.inr (Or.inr (Or.inl h2))
      · have e : a = b := UInt8.toNat_inj.1 (by omega)
        subst e
        rcases ltB_tri l m with h3 | h3 | h3
        · exact Or.inl (Or.inr ⟨rfl, h3⟩)
        · exact Or.inr (Or.inl (by rw [h3]))
        · exact Or.inr (Or.inr (Or.inr ⟨rfl, h3⟩))
theorem le_ltB (a b : Thk.Bs) : decide (a ≤ b) = !Thk.ltB b a := by
  have h := ltB_iff b a
  by_cases h1 : b < a
  · have : ¬ a ≤ b := fun h2 => h2 h1
    rw [h.2 h1]; simp [this]
  · have h2 : a ≤ b := h1
    have h3 : Thk.ltB b a = false := by rw [← Bool.not_eq_true]; exact fun h4 => h1 (h.1 h4)
    rw [h3]; simp [h2]

/-- In order, each once. -/
def SortL (l : List Thk.Bs) : Prop := l.Pairwise fun a b => Thk.ltB a b = true
theorem SortL.nodup {l : List Thk.Bs} (h : SortL l) : l.Nodup := List.Pairwise.imp (fun {a b} h e => by rw [e, ltB_irr] at h; cases h) h
theorem sort_unique {l m : List Thk.Bs} (h1 : SortL l) (h2 : SortL m) (h : ∀ x, x ∈ l ↔ x ∈ m) : l = m :=
  List.Perm.eq_of_pairwise (fun a b _ _ h3 h4 => by have := ltB_trans _ _ _ h3 h4; rw [ltB_irr] at this; cases this) h1 h2 ((List.perm_ext_iff_of_nodup h1.nodup h2.nodup).2 h)

theorem compact_sort {zs : List Thk.Bs} (hs : zs.Pairwise fun a b => Thk.ltB b a = false) : SortL (Lib.compact zs) ∧ ∀ x, x ∈ Lib.compact zs ↔ x ∈ zs := by
  have hget : ∀ j, j < zs.length → zs.toArray[j]! = zs.getD j [] := fun j hj => by simp [hj]
  have hle : ∀ i j, i < j → j < zs.length → Thk.ltB (zs.getD j []) (zs.getD i []) = false := fun i j hij hj => by
    have := (List.pairwise_iff_getElem.1 hs) i j (by omega) hj hij
    rw [List.getD_eq_getElem?_getD, List.getD_eq_getElem?_getD, List.getElem?_eq_getElem hj, List.getElem?_eq_getElem (show i < zs.length by omega)]
    exact this
  constructor
  · unfold SortL Lib.compact Lib.compactUpTo
    rw [List.pairwise_map]
    have hf : ((List.range zs.length).filter (Lib.keeps zs.toArray)).Pairwise (· < ·) := List.Pairwise.filter _ List.pairwise_lt_range
    refine List.Pairwise.imp_of_mem ?_ hf
    intro i j hi hj hij
    rw [List.mem_filter, List.mem_range] at hi hj
    have hk := hj.2
    unfold Lib.keeps at hk
    simp only [decide_eq_true_eq] at hk
    have hne : zs.toArray[j]! ≠ zs.toArray[j - 1]! := by rcases hk with h | h; omega; exact h
    rw [hget j hj.1, hget (j - 1) (by omega)] at hne
    rw [hget i hi.1, hget j hj.1]
    have h1 : Thk.ltB (zs.getD (j - 1) []) (zs.getD j []) = true := by
      rcases ltB_tri (zs.getD (j - 1) []) (zs.getD j []) with h | h | h
      · exact h
      · exact absurd h.symm hne
      · rw [hle (j - 1) j (by omega) hj.1] at h; cases h
    by_cases e : i = j - 1
    · rw [e]; exact h1
    · rcases ltB_tri (zs.getD i []) (zs.getD (j - 1) []) with h | h | h
      · exact ltB_trans _ _ _ h h1
      · rw [h]; exact h1
      · rw [hle i (j - 1) (by omega) (by omega)] at h; cases h
  · intro x
    unfold Lib.compact Lib.compactUpTo
    constructor
    · intro hx
      obtain ⟨i, hi, rfl⟩ := List.mem_map.1 hx
      rw [List.mem_filter, List.mem_range] at hi
      rw [hget i hi.1, List.getD_eq_getElem?_getD, List.getElem?_eq_getElem hi.1]
      exact List.getElem_mem _
    · intro hx
      obtain ⟨j, hj, rfl⟩ := List.getElem_of_mem hx
      have key : ∀ j (hj : j < zs.length), zs[j] ∈ ((List.range zs.length).filter (Lib.keeps zs.toArray)).map (zs.toArray[·]!) := by
        intro j
        induction j with
        | zero => intro hj; exact List.mem_map.2 ⟨0, List.mem_filter.2 ⟨List.mem_range.2 hj, by simp [Lib.keeps]⟩, by rw [hget 0 hj, List.getD_eq_getElem?_getD, List.getElem?_eq_getElem hj]; rfl⟩
        | succ j ih =>
          intro hj
          by_cases hk : Lib.keeps zs.toArray (j + 1) = true
          · exact List.mem_map.2 ⟨j + 1, List.mem_filter.2 ⟨List.mem_range.2 hj, hk⟩, by rw [hget _ hj, List.getD_eq_getElem?_getD, List.getElem?_eq_getElem hj]; rfl⟩
          · have h3 : zs.toArray[j + 1]! = zs.toArray[j]! := by
              unfold Lib.keeps at hk
              simp only [decide_eq_true_eq, not_or, ne_eq, Decidable.not_not] at hk
              exact hk.2
            rw [hget _ hj, hget j (by omega), List.getD_eq_getElem?_getD, List.getD_eq_getElem?_getD, List.getElem?_eq_getElem hj, List.getElem?_eq_getElem (show j < zs.length by omega)] at h3
            have := ih (by omega)
            rw [show zs[j + 1] = zs[j] from h3]
            exact this
      exact key j hj

theorem ins_mem (l : List Thk.Bs) (s x : Thk.Bs) : x ∈ Thk.ins l s ↔ x = s ∨ x ∈ l := by
  induction l with
  | nil => simp [Thk.ins]
  | cons y r ih =>
    unfold Thk.ins
    split
    · rename_i h; subst h; simp
    · split
      · simp
      · simp only [List.mem_cons, ih]
        constructor
        · rintro (h | h | h)
          · exact Or.inr (Or.inl h)
          · exact Or.inl h
          · exact Or.inr (Or.inr h)
        · rintro (h | h | h)
          · exact Or.inr (Or.inl h)
          · exact Or.inl h
          · exact Or.inr (Or.inr h)
theorem ins_sort {l : List Thk.Bs} (h : SortL l) (s : Thk.Bs) : SortL (Thk.ins l s) := by
  induction l with
  | nil => exact List.pairwise_singleton _ _
  | cons y r ih =>
    have h1 := List.pairwise_cons.1 h
    unfold Thk.ins
    split
    · exact h
    · split
      · rename_i h2 h3
        exact List.pairwise_cons.2 ⟨fun a ha => by
          rcases List.mem_cons.1 ha with e | ha
          · rw [e]; exact h3
          · exact ltB_trans _ _ _ h3 (h1.1 a ha), h⟩
      · rename_i h2 h3
        refine List.pairwise_cons.2 ⟨fun a ha => ?_, ih h1.2⟩
        rcases (ins_mem r s a).1 ha with e | ha
        · rw [e]
          rcases ltB_tri y s with h4 | h4 | h4
          · exact h4
          · exact absurd h4.symm h2
          · exact absurd h4 h3
        · exact h1.1 a ha
end Go.Proofs.YtmnnojekcloblaaGreatDoor

namespace Go.Proofs.YtmnnojekcloblaaGreatDoor
open Go.RowKit

theorem less_ltB : ∀ (a b : Thk.Bs), Op.bytesLess a b = Thk.ltB a b
  | [], [] => rfl
  | [], _ :: _ => rfl
  | _ :: _, [] => rfl
  | a :: l, b :: m => by
    rw [Op.bytesLess, Thk.ltB, less_ltB l m]
    simp [UInt8.lt_iff_toNat_lt]

theorem withStep_done (s : Thk.Bs) : ∀ (l o : List Thk.Bs), (∀ x ∈ l, x ≠ s) → l.foldl (withStep s) (o, true) = (o ++ l, true)
  | [], o, _ => by simp
  | x :: r, o, h => by
    have hx : x ≠ s := h x (by simp)
    rw [List.foldl_cons]
    have e : withStep s (o, true) x = (o ++ [x], true) := by unfold withStep; simp [hx]
    rw [e, withStep_done s r _ (fun y hy => h y (by simp [hy]))]
    simp
theorem withL_ins (s : Thk.Bs) : ∀ (l o : List Thk.Bs), SortL l → (if (l.foldl (withStep s) (o, false)).2 then (l.foldl (withStep s) (o, false)).1 else (l.foldl (withStep s) (o, false)).1 ++ [s]) = o ++ Thk.ins l s
  | [], o, _ => by simp [Thk.ins]
  | x :: r, o, h => by
    have h1 := List.pairwise_cons.1 h
    rw [List.foldl_cons]
    unfold Thk.ins
    by_cases e : s = x
    · subst e
      have e2 : withStep s (o, false) s = (o ++ [s], true) := by unfold withStep; simp
      rw [e2, withStep_done s r _ (fun y hy he => by have := h1.1 y hy; rw [he, ltB_irr] at this; cases this)]
      simp
    · rw [if_neg e]
      cases hlt : Thk.ltB s x with
      | true =>
        have e2 : withStep s (o, false) x = (o ++ [s] ++ [x], true) := by unfold withStep; rw [less_ltB, hlt]; simp [Ne.symm e]
        rw [e2, withStep_done s r _ (fun y hy he => by have := ltB_trans _ _ _ hlt (h1.1 y hy); rw [he, ltB_irr] at this; cases this)]
        simp
      | false =>
        have e3 : (s == x) = false := by simpa using e
        have e2 : withStep s (o, false) x = (o ++ [x], false) := by unfold withStep; rw [less_ltB, hlt, e3]; simp [Ne.symm e]
        rw [e2, withL_ins s r _ h1.2]
        simp
theorem withL_eq {l : List Thk.Bs} (h : SortL l) (s : Thk.Bs) : withL l s = Thk.ins l s := by
  have := withL_ins s l [] h
  unfold withL
  rw [this]; simp
theorem fold_with : ∀ (L l : List Thk.Bs), SortL l → SortL (L.foldl withL l) ∧ ∀ x, x ∈ L.foldl withL l ↔ x ∈ l ∨ x ∈ L
  | [], l, h => ⟨h, fun x => by simp⟩
  | s :: L, l, h => by
    rw [List.foldl_cons, withL_eq h s]
    obtain ⟨h1, h2⟩ := fold_with L (Thk.ins l s) (ins_sort h s)
    refine ⟨h1, fun x => ?_⟩
    rw [h2, ins_mem]
    simp only [List.mem_cons]
    constructor
    · rintro ((h | h) | h)
      · exact Or.inr (Or.inl h)
      · exact Or.inl h
      · exact Or.inr (Or.inr h)
    · rintro (h | h | h)
      · exact Or.inl (Or.inr h)
      · exact Or.inl (Or.inl h)
      · exact Or.inr h
theorem joinTo_cons (x : Thk.Bs) (r : List Thk.Bs) : ∀ k, k ≤ r.length → Thk.joinTo (x :: r) (k + 1) = x ++ Lib.joinTail [44] (r.take k)
  | 0, _ => by simp [Thk.joinTo, Lib.joinTail]
  | k + 1, h => by
    have hk : k < r.length := by omega
    rw [Thk.joinTo, if_neg (by omega), joinTo_cons x r k (by omega), Lib.joinTail_take_succ [44] r k r[k] (List.getElem?_eq_getElem hk)]
    have : (x :: r).getD (k + 1) [] = r[k] := by simp [hk]
    rw [this]; simp
theorem joinTo_join (l : List Thk.Bs) : Thk.joinTo l l.length = Lib.join l [44] := by
  cases l with
  | nil => rfl
  | cons x r => rw [List.length_cons, joinTo_cons x r _ (Nat.le_refl _), List.take_length, Lib.join_cons]
/-- The document's list and the program's. -/
theorem list_eq (L L' : List Thk.Bs) (h : ∀ x, x ∈ L ↔ x ∈ L') : Thk.joinTo (L.foldl withL []) (L.foldl withL []).length = listB L' := by
  rw [joinTo_join]
  unfold listB
  obtain ⟨h1, h2⟩ := fold_with L [] List.Pairwise.nil
  have hs : (L'.mergeSort fun x y => decide (x ≤ y)).Pairwise fun a b => Thk.ltB b a = false := by
    have := List.pairwise_mergeSort (le := fun x y : Thk.Bs => decide (x ≤ y)) (fun a b c => ?_) (fun a b => ?_) L'
    · refine List.Pairwise.imp ?_ this
      intro a b hab
      rw [le_ltB] at hab
      simpa using hab
    · rw [le_ltB, le_ltB, le_ltB]
      intro h3 h4
      simp only [Bool.not_eq_true'] at h3 h4 ⊢
      rcases ltB_tri a b with h5 | h5 | h5
      · rcases ltB_tri b c with h6 | h6 | h6
        · have := ltB_trans _ _ _ h5 h6
          rw [← Bool.not_eq_true]; intro h7
          have := ltB_trans _ _ _ this h7
          rw [ltB_irr] at this; cases this
        · subst h6; exact h3
        · rw [h4] at h6; cases h6
      · subst h5; exact h4
      · rw [h3] at h5; cases h5
    · rw [le_ltB, le_ltB]
      rcases ltB_tri a b with h5 | h5 | h5
      · have : Thk.ltB b a = false := by
          rw [← Bool.not_eq_true]; intro h7
          have := ltB_trans _ _ _ h5 h7
          rw [ltB_irr] at this; cases this
        simp [this]
      · subst h5; simp [ltB_irr]
      · have : Thk.ltB a b = false := by
          rw [← Bool.not_eq_true]; intro h7
          have := ltB_trans _ _ _ h5 h7
          rw [ltB_irr] at this; cases this
        simp [this]
  obtain ⟨h3, h4⟩ := compact_sort hs
  rw [sort_unique h1 h3 (fun x => by rw [h2, h4, (List.mergeSort_perm L' _).mem_iff, ← h]; simp)]
theorem digs_dec : ∀ n, Thk.digs n = Lib.decDigits n := by
  intro n
  induction n using Nat.strongRecOn with
  | _ n ih =>
    rw [Thk.digs, Lib.decDigits]
    split
    · rfl
    · rw [ih (n / 10) (by omega)]
theorem digits_itoa (n : Int) : Thk.digits n = Lib.itoa n := by
  unfold Thk.digits Lib.itoa
  rw [digs_dec]
  split
  · rfl
  · rw [show n.natAbs = n.toNat by omega]
end Go.Proofs.YtmnnojekcloblaaGreatDoor

namespace Go.Proofs.YtmnnojekcloblaaGreatDoor
open Go.RowKit

/-- What counts of an item, of an event. -/
def key (x : Itm) : Thk.Bs × Int × Thk.Bs × Int := (toL x.p, x.a, toL x.v, x.m)
def keyE (e : Ev) : Thk.Bs × Int × Thk.Bs × Int := (toL e.p, (e.a.toNat : Int), toL (keptVal e.a e.v), e.n)
def evsOf (es : List Ev) (al : List Nat) : List Ev := al.filterMap (es[·]?)

theorem perm_sum {l m : List Int} (h : l.Perm m) : l.sum = m.sum := by
  induction h with
  | nil => rfl
  | cons x _ ih => simp [ih]
  | swap x y l => simp only [List.sum_cons]; omega
  | trans _ _ h1 h2 => exact h1.trans h2

/-- The items of a replica of the program are the events that are alive at the document's. -/
theorem OwnT.perm {es : List Ev} {known : List Bool} {n : Nat} {C : Nat → Option Thk.Ch} {ps : List Nat} (h : OwnT es known n C ps) {xs : List Itm} (hx : SAll (itOf C) xs) : (xs.map key).Perm ((evsOf es (aliveTo es known es.length)).map keyE) := by
  obtain ⟨⟨hnd, hmem⟩, hat⟩ := hx
  -- what lies at a number
  have hC : ∀ k, C k ≠ none → ∃ j, ∃ hj : j < ps.length, k = j + 1 ∧ alive es known ps[j] = true ∧ ∃ e, es[ps[j]]? = some e ∧ C k = some (chOf e) := by
    intro k hk
    cases k with
    | zero => exact absurd h.c0 hk
    | succ j =>
      rw [h.cs j] at hk ⊢
      by_cases hj : j < ps.length
      · rw [List.getElem?_eq_getElem hj] at hk ⊢
        simp only [Option.bind_some] at hk ⊢
        by_cases ha : alive es known ps[j] = true
        · rw [if_pos ha] at hk ⊢
          have hl := h.lt (List.getElem_mem hj)
          exact ⟨j, hj, rfl, ha, es[ps[j]], List.getElem?_eq_getElem hl, by rw [List.getElem?_eq_getElem hl]; rfl⟩
        · rw [if_neg ha] at hk; exact absurd rfl hk
      · rw [List.getElem?_eq_none (by omega)] at hk; exact absurd rfl hk
  have hC2 : ∀ i, i ∈ aliveTo es known es.length ↔ ∃ k, C k ≠ none ∧ ps.getD (k - 1) 0 = i := by
    intro i
    unfold aliveTo
    rw [List.mem_filter, List.mem_range]
    constructor
    · rintro ⟨hi, ha⟩
      have hkn : known.getD i false = true := by
        unfold alive at ha
        rw [List.getElem?_eq_getElem hi] at ha
        simp only [Bool.and_eq_true] at ha
        exact ha.1.2
      obtain ⟨j, hj, rfl⟩ := List.getElem_of_mem ((h.mem i).2 hkn)
      refine ⟨j + 1, ?_, by simp [hj]⟩
      rw [h.cs j, List.getElem?_eq_getElem hj]
      simp only [Option.bind_some]
      rw [if_pos ha, List.getElem?_eq_getElem hi]
      simp
    · rintro ⟨k, hk, rfl⟩
      obtain ⟨j, hj, rfl, ha, _⟩ := hC k hk
      have : ps.getD (j + 1 - 1) 0 = ps[j] := by simp [hj]
      rw [this]
      exact ⟨h.lt (List.getElem_mem hj), ha⟩
  have hp1 : ((xs.map Itm.n).map fun k => ps.getD (k - 1) 0).Perm (aliveTo es known es.length) := by
    refine (List.perm_ext_iff_of_nodup ?_ ?_).2 fun i => ?_
    · unfold List.Nodup
      rw [List.pairwise_map]
      refine List.Pairwise.imp_of_mem ?_ hnd
      intro a b ha hb hab e
      obtain ⟨i, hi, rfl, _⟩ := hC a (itOf_none.1 ((hmem a).1 ha))
      obtain ⟨j, hj, rfl, _⟩ := hC b (itOf_none.1 ((hmem b).1 hb))
      have e1 : ps.getD (i + 1 - 1) 0 = ps[i] := by simp [hi]
      have e2 : ps.getD (j + 1 - 1) 0 = ps[j] := by simp [hj]
      rw [e1, e2] at e
      rcases Nat.lt_trichotomy i j with h5 | h5 | h5
      · have := List.pairwise_iff_getElem.1 h.inc i j hi hj h5; omega
      · omega
      · have := List.pairwise_iff_getElem.1 h.inc j i hj hi h5; omega
    · exact List.Pairwise.filter _ List.nodup_range
    · rw [hC2, List.mem_map]
      constructor
      · rintro ⟨k, hk, rfl⟩
        exact ⟨k, itOf_none.1 ((hmem k).1 hk), rfl⟩
      · rintro ⟨k, hk, rfl⟩
        exact ⟨k, (hmem k).2 (itOf_none.2 hk), rfl⟩
  have hp2 := (hp1.filterMap (es[·]?)).map keyE
  refine List.Perm.trans (List.Perm.of_eq ?_) hp2
  rw [List.map_map, List.filterMap_map]
  clear hp1 hp2 hnd
  have hm2 : ∀ x ∈ xs, C x.n ≠ none := fun x hx => itOf_none.1 ((hmem x.n).1 (List.mem_map.2 ⟨x, hx, rfl⟩))
  clear hmem
  induction xs with
  | nil => rfl
  | cons x r ih =>
    rw [List.map_cons, ih (fun y hy => hat y (by simp [hy])) (fun y hy => hm2 y (by simp [hy])), List.filterMap_cons]
    obtain ⟨j, hj, hn, ha, e, he, hce⟩ := hC x.n (hm2 x (by simp))
    have e1 : ps.getD (x.n - 1) 0 = ps[j] := by rw [hn]; simp [hj]
    have e2 : (((fun x => es[x]?) ∘ (fun k => ps.getD (k - 1) 0) ∘ Itm.n) x) = some e := by simp only [Function.comp]; rw [e1]; exact he
    rw [e2]
    simp only [List.map_cons]
    have h3 := hat x (by simp)
    unfold itOf at h3
    rw [hce] at h3
    simp only [Option.map_some, Option.some.injEq, chV, chOf, Value.agg.injEq, Array.mk.injEq, List.cons.injEq, Value.string.injEq, Value.int.injEq, true_and, and_true] at h3
    obtain ⟨q1, q2, q3, q4⟩ := h3
    have : key x = keyE e := by
      unfold key keyE
      rw [← q1, ← q2, ← q3, ← q4, mk_toL, mk_toL]
    rw [this]
end Go.Proofs.YtmnnojekcloblaaGreatDoor

namespace Go.Proofs.YtmnnojekcloblaaGreatDoor
open Go.RowKit

theorem tellR_evs (es : List Ev) (al : List Nat) (path : Thk.Bs) : tellR es al path = tellB (Thk.kindOf path) ((evsOf es al).foldl (tstep (Thk.kindOf path) path) ⟨[], 0, false⟩) := by
  unfold tellR evsOf
  congr 1
  generalize (⟨[], 0, false⟩ : TSt) = st
  induction al generalizing st with
  | nil => rfl
  | cons i r ih =>
    rw [List.foldl_cons, ih, List.filterMap_cons]
    cases es[i]? <;> rfl

theorem fold_m (k : UInt8) (path : Thk.Bs) (hk : (k.toNat : Int) = 109) : ∀ (evs : List Ev) (st : TSt), (∀ e ∈ evs, toL e.p ≠ path) → (evs.foldl (tstep k path) st).l = ((evs.filter fun e => (path ++ [47]).isPrefixOf (toL e.p)).map fun e => stepSeg path (toL e.p)).foldl withL st.l
  | [], _, _ => rfl
  | e :: r, st, h => by
    have hne := h e (by simp)
    have hb := begins_prefix (toL e.p) path
    have h1 : (toL e.p == path) = false := by simpa using hne
    rw [List.foldl_cons, fold_m k path hk r _ (fun y hy => h y (by simp [hy])), List.filter_cons]
    unfold tstep
    rw [hb, h1]
    cases hp : (path ++ [47]).isPrefixOf (toL e.p)
    · simp
    · simp [hk, stepSeg]

theorem fold_n (k : UInt8) (path : Thk.Bs) (hk : (k.toNat : Int) ≠ 109) : ∀ (evs : List Ev) (st : TSt), evs.foldl (tstep k path) st = ⟨((evs.filter fun e => toL e.p == path).map fun e => toL e.v).foldl withL st.l, st.sum + ((evs.filter fun e => toL e.p == path).map Ev.n).sum, st.some || evs.any fun e => toL e.p == path⟩
  | [], st => by simp
  | e :: r, st => by
    have h1 : ((k.toNat : Int) == 109) = false := by simpa using hk
    rw [List.foldl_cons, fold_n k path hk r, List.filter_cons]
    unfold tstep
    rw [h1]
    cases hp : (toL e.p == path)
    · simp [hp]
    · simp [hp, Int.add_assoc]

/-- An event that a change can make. -/
structure EvFit (e : Ev) : Prop where
  fit : Thk.fits (Thk.kindOf (toL e.p)) e.a = true
  p : e.p.size ≤ 20
  v : e.v.size ≤ 20
  n1 : e.n ≤ 1000000000
  n2 : -1000000000 ≤ e.n
theorem atP_eq (p : Thk.Bs) (xs : List Itm) : atP ⟨p.toArray⟩ xs = xs.filter fun x => toL x.p == p := by
  unfold atP
  congr 1
  funext x
  rw [toList_eq, toList_eq]
  rfl
theorem atP_key (p : Thk.Bs) (xs : List Itm) : (atP ⟨p.toArray⟩ xs).map key = (xs.map key).filter fun y => y.1 == p := by
  rw [atP_eq, List.filter_map]
  rfl
theorem tell_eq {es : List Ev} {known : List Bool} {xs : List Itm} (path : Thk.Bs) (hf : ∀ e ∈ es, EvFit e) (hp : (xs.map key).Perm ((evsOf es (aliveTo es known es.length)).map keyE)) : tellP path xs = tellR es (aliveTo es known es.length) path := by
  have hal : ∀ e ∈ evsOf es (aliveTo es known es.length), effB e.a = true ∧ EvFit e := by
    intro e he
    unfold evsOf at he
    obtain ⟨i, hi, hei⟩ := List.mem_filterMap.1 he
    unfold aliveTo at hi
    have ha := (List.mem_filter.1 hi).2
    unfold alive at ha
    rw [hei] at ha
    simp only [Bool.and_eq_true] at ha
    exact ⟨ha.1.1, hf e (List.mem_of_getElem? hei)⟩
  rw [tellR_evs]
  generalize evsOf es (aliveTo es known es.length) = evs at *
  have hkept : ∀ e ∈ evs, toL e.p = path → (Thk.kindOf path).toNat ≠ 109 ∧ ((Thk.kindOf path).toNat ≠ 102 → (Thk.kindOf path).toNat ≠ 99 → keptVal e.a e.v = e.v) := by
    intro e he hpe
    obtain ⟨h1, h2⟩ := hal e he
    have h3 := h2.fit
    rw [hpe] at h3
    unfold Thk.fits at h3
    unfold effB at h1
    simp only [Bool.or_eq_true, beq_iff_eq] at h1
    unfold keptVal
    refine ⟨fun h => ?_, fun h4 h5 => ?_⟩
    · rw [if_neg (by omega), if_neg (by omega), if_neg (by omega), if_neg (by omega)] at h3
      simp only [beq_iff_eq] at h3
      omega
    · by_cases h6 : (Thk.kindOf path).toNat = 115
      · rw [if_pos h6] at h3
        simp only [Bool.or_eq_true, beq_iff_eq] at h3
        rw [if_pos (by omega)]
      · rw [if_neg h6, if_neg h4] at h3
        by_cases h7 : (Thk.kindOf path).toNat = 114
        · rw [if_pos h7] at h3
          simp only [Bool.or_eq_true, beq_iff_eq] at h3
          rw [if_pos (by omega)]
        · rw [if_neg h7, if_neg h5] at h3
          simp only [beq_iff_eq] at h3
          omega
  have hmem : ∀ y, y ∈ xs.map key ↔ y ∈ evs.map keyE := fun y => hp.mem_iff
  unfold tellP tellB
  by_cases k1 : (Thk.kindOf path).toNat = 109
  · rw [if_pos k1, if_neg (by omega), if_neg (by omega), fold_m _ path (by omega) evs _ (fun e he hpe => (hkept e he hpe).1 k1)]
    refine (list_eq _ _ fun s => ?_).symm
    simp only [List.mem_map, stepsOf, List.mem_filter]
    constructor
    · rintro ⟨e, ⟨he, h1⟩, rfl⟩
      obtain ⟨x, hx, hk⟩ := List.mem_map.1 ((hmem _).2 (List.mem_map.2 ⟨e, he, rfl⟩))
      have hpp : toL x.p = toL e.p := congrArg (·.1) hk
      exact ⟨⟨(stepSeg path (toL x.p)).toArray⟩, ⟨x, ⟨hx, by rw [hpp]; exact h1⟩, rfl⟩, by rw [hpp]; rfl⟩
    · rintro ⟨_, ⟨x, ⟨hx, h1⟩, rfl⟩, rfl⟩
      obtain ⟨e, he, hk⟩ := List.mem_map.1 ((hmem _).1 (List.mem_map.2 ⟨x, hx, rfl⟩))
      have hpp : toL e.p = toL x.p := congrArg (·.1) hk
      exact ⟨e, ⟨he, by rw [hpp]; exact h1⟩, by rw [hpp]; rfl⟩
  · have k1' : ((Thk.kindOf path).toNat : Int) ≠ 109 := by omega
    rw [if_neg k1, fold_n _ path k1' evs]
    by_cases k2 : (Thk.kindOf path).toNat = 102
    · have k2i : ((Thk.kindOf path).toNat : Int) = 102 := by omega
      rw [if_pos k2, if_pos k2i]
      have : (atP ⟨path.toArray⟩ xs ≠ []) ↔ (false || evs.any fun e => toL e.p == path) = true := by
        rw [Bool.false_or, List.any_eq_true]
        constructor
        · intro h
          obtain ⟨x, hx⟩ := List.exists_mem_of_ne_nil _ h
          rw [atP_eq] at hx
          obtain ⟨hx1, hx2⟩ := List.mem_filter.1 hx
          obtain ⟨e, he, hk⟩ := List.mem_map.1 ((hmem _).1 (List.mem_map.2 ⟨x, hx1, rfl⟩))
          have hpp : toL e.p = toL x.p := congrArg (·.1) hk
          exact ⟨e, he, by rw [hpp]; exact hx2⟩
        · rintro ⟨e, he, h1⟩
          obtain ⟨x, hx, hk⟩ := List.mem_map.1 ((hmem _).2 (List.mem_map.2 ⟨e, he, rfl⟩))
          have hpp : toL x.p = toL e.p := congrArg (·.1) hk
          refine List.ne_nil_of_mem (a := x) ?_
          rw [atP_eq]
          exact List.mem_filter.2 ⟨hx, by rw [hpp]; exact h1⟩
      by_cases h3 : atP ⟨path.toArray⟩ xs ≠ []
      · rw [if_pos h3]
        exact (if_pos (this.1 h3)).symm
      · rw [if_neg h3]
        exact (if_neg (fun h4 => h3 (this.2 h4))).symm
    · have k2i : ¬ ((Thk.kindOf path).toNat : Int) = 102 := by omega
      rw [if_neg k2, if_neg k2i]
      by_cases k3 : (Thk.kindOf path).toNat = 99
      · have k3i : ((Thk.kindOf path).toNat : Int) = 99 := by omega
        rw [if_pos k3, if_pos k3i, digits_itoa]
        congr 1
        have e1 : sumOf (atP ⟨path.toArray⟩ xs) = (((xs.map key).filter fun y => y.1 == path).map fun y => y.2.2.2).sum := by
          rw [← atP_key]; unfold sumOf; rw [List.map_map]; rfl
        have e2 : ((evs.filter fun e => toL e.p == path).map Ev.n).sum = (((evs.map keyE).filter fun y => y.1 == path).map fun y => y.2.2.2).sum := by
          rw [List.filter_map, List.map_map]; rfl
        rw [e1]
        show _ = 0 + _
        rw [e2, Int.zero_add]
        exact perm_sum ((hp.filter _).map _)
      · have k3i : ¬ ((Thk.kindOf path).toNat : Int) = 99 := by omega
        rw [if_neg k3, if_neg k3i]
        refine (list_eq _ _ fun s => ?_).symm
        simp only [List.mem_map, atP_eq, List.mem_filter]
        constructor
        · rintro ⟨e, ⟨he, h1⟩, rfl⟩
          obtain ⟨x, hx, hk⟩ := List.mem_map.1 ((hmem _).2 (List.mem_map.2 ⟨e, he, rfl⟩))
          have hpp : toL x.p = toL e.p := congrArg (·.1) hk
          have hvv : toL x.v = toL (keptVal e.a e.v) := congrArg (·.2.2.1) hk
          rw [(hkept e he (by simpa using h1)).2 k2 k3] at hvv
          exact ⟨x.v, ⟨x, ⟨hx, by rw [hpp]; exact h1⟩, rfl⟩, hvv⟩
        · rintro ⟨_, ⟨x, ⟨hx, h1⟩, rfl⟩, rfl⟩
          have h1' : (toL x.p == path) = true := h1
          obtain ⟨e, he, hk⟩ := List.mem_map.1 ((hmem _).1 (List.mem_map.2 ⟨x, hx, rfl⟩))
          have hpp : toL e.p = toL x.p := congrArg (·.1) hk
          have hvv : toL (keptVal e.a e.v) = toL x.v := congrArg (·.2.2.1) hk
          rw [← hpp] at h1'
          rw [(hkept e he (by simpa using h1')).2 k2 k3] at hvv
          exact ⟨e, ⟨he, h1'⟩, hvv⟩
end Go.Proofs.YtmnnojekcloblaaGreatDoor

namespace Go.Proofs.YtmnnojekcloblaaGreatDoor
open Go.RowKit Go.Maps Go.WideMaps

theorem Thk.read_fit (l : Thk.Bs) (c : Thk.Ch) (h : Thk.read l = .inr c) : Thk.fits (Thk.kindOf c.path) c.act = true := by
  unfold Thk.read at h
  split at h
  · cases h
  · unfold Thk.readAt at h
    split at h
    · cases h
    · split at h
      · cases h
      · rename_i h3
        have e := operand_inr h
        rw [e]
        simpa using h3

/-- A cluster of the program that stands for events and what each replica knows of them. -/
structure CluF (w : World) (x : Nat) (S : Nat → Prop) (es : List Ev) (kn : List (List Bool)) (q cap : Nat) (ds : List RepD) : Prop where
  clu : CluP w x q cap 0 ds
  own : ∀ k, S k ↔ k = x ∨ k = q ∨ ∃ j, ∃ h : j < ds.length, ds[j].own k
  len : kn.length = ds.length
  tie : ∀ j (h : j < ds.length), ∃ ps, OwnT es (kn.getD j []) ds[j].n ds[j].C ps
  sum : sumN ds ds.length = es.length
  e500 : es.length ≤ 500
  fit : ∀ e ∈ es, EvFit e
def ProgF (w : World) (x : Nat) (S : Nat → Prop) (es : List Ev) (kn : List (List Bool)) : Prop := ∃ q cap ds, CluF w x S es kn q cap ds

theorem map_noTag {w : World} {b : Nat} {t k : TypeId} {N : Nat} {m : Value → Option Value} (h : MapO Tryz.prog k w (.map (some b)) N m) (ht : Tagged w b t) : False := by
  obtain ⟨h1, _⟩ | ⟨b', h1, D, ⟨es, clock, h2, _⟩, _⟩ := h
  · cases h1
  · cases h1
    obtain ⟨cur, h3⟩ := ht
    rw [h2] at h3
    cases h3
theorem blk_tag {w : World} {b : Nat} {cs : Array Value} {t t' : TypeId} (h : Blk w b cs t) (ht : Tagged w b t') : t' = t := by
  obtain ⟨cur, h3⟩ := ht
  exact (blk_types h h3).2.symm

theorem prog_frame : ProgFrame ProgF := {
  stable := by
    rintro M w w' x S es kn ⟨q, cap, ds, h⟩ hc hm
    exact ⟨q, cap, ds, h.clu.chg hc (hm x ((h.own x).2 (Or.inl rfl))) (hm q ((h.own q).2 (Or.inr (Or.inl rfl)))) (fun j hj k hk => hm k ((h.own k).2 (Or.inr (Or.inr ⟨j, hj, hk⟩)))), h.own, h.len, h.tie, h.sum, h.e500, h.fit⟩
  tags := by
    rintro w x S es kn k t ⟨q, cap, ds, h⟩ hk ht
    have key : t = 56 ∨ t = 57 ∨ t = 107 := by
      rcases (h.own k).1 hk with rfl | rfl | ⟨j, hj, ho⟩
      · exact Or.inl (blk_tag h.clu.blk ht)
      · obtain ⟨cs, r1, _⟩ := h.clu.row
        exact Or.inr (Or.inl (blk_tag r1 ht))
      · have hr := h.clu.rep j hj
        rcases ho with rfl | ho | ho | ho
        · exact Or.inr (Or.inr (blk_tag hr.blk ht))
        · obtain ⟨N, hm⟩ := hr.st.its
          rw [ho] at hm
          exact (map_noTag hm ht).elim
        · obtain ⟨c, L, hcv, _⟩ := hr.st.ctx
          obtain ⟨N, hm⟩ := hcv.cs
          rw [ho] at hm
          exact (map_noTag hm ht).elim
        · obtain ⟨c, L, hcv, _⟩ := hr.st.ctx
          obtain ⟨N, hm⟩ := hcv.ls
          rw [ho] at hm
          exact (map_noTag hm ht).elim
    rcases key with rfl | rfl | rfl <;> decide
  lt := by
    rintro w x S es kn k ⟨q, cap, ds, h⟩ hk
    rcases (h.own k).1 hk with rfl | rfl | ⟨j, hj, ho⟩
    · exact h.clu.blk.lt
    · obtain ⟨cs, r1, _⟩ := h.clu.row
      exact r1.lt
    · have hr := h.clu.rep j hj
      rcases ho with rfl | ho | ho | ho
      · exact hr.blk.lt
      · exact hr.st.lt k (Or.inl (by rw [ho]))
      · exact hr.st.lt k (Or.inr (Or.inl (by rw [ho])))
      · exact hr.st.lt k (Or.inr (Or.inr (by rw [ho]))) }
theorem OwnT.itms {es : List Ev} {known : List Bool} {n : Nat} {C : Nat → Option Thk.Ch} {ps : List Nat} (h : OwnT es known n C ps) (h500 : es.length ≤ 500) (hf : ∀ e ∈ es, EvFit e) : ItmsOK (SAll (itOf C)) := by
  have hev : ∀ e ∈ evsOf es (aliveTo es known es.length), e ∈ es := fun e he => by
    obtain ⟨i, _, hei⟩ := List.mem_filterMap.1 he
    exact List.mem_of_getElem? hei
  constructor
  · intro xs hx
    have h1 := (h.perm hx).length_eq
    rw [List.length_map, List.length_map] at h1
    have h2 : (evsOf es (aliveTo es known es.length)).length ≤ (aliveTo es known es.length).length := List.length_filterMap_le _ _
    have h3 : (aliveTo es known es.length).length ≤ (List.range es.length).length := List.length_filter_le _ _
    rw [List.length_range] at h3
    omega
  · intro xs hx x hxm
    obtain ⟨e, he, hk⟩ := List.mem_map.1 ((h.perm hx).mem_iff.1 (List.mem_map.2 ⟨x, hxm, rfl⟩))
    have hfe := hf e (hev e he)
    unfold keyE key at hk
    simp only [Prod.mk.injEq] at hk
    obtain ⟨h1, _, h3, h4⟩ := hk
    have p1 : x.p.size = e.p.size := by rw [← toL_length, ← toL_length, h1]
    have p2 : x.v.size = (keptVal e.a e.v).size := by rw [← toL_length, ← toL_length, h3]
    have p3 := keptVal_size e.a e.v
    have := hfe.p; have := hfe.v; have := hfe.n1; have := hfe.n2
    exact ⟨by omega, by omega, by omega, by omega⟩
theorem sumN_set (ds : List RepD) (k : Nat) (hk : k < ds.length) (d : RepD) : sumN (ds.set k d) (ds.set k d).length + ds[k].n = sumN ds ds.length + d.n := by
  unfold sumN
  rw [List.take_length, List.take_length]
  induction ds generalizing k with
  | nil => simp at hk
  | cons a r ih =>
    cases k with
    | zero => simp; omega
    | succ k =>
      have := ih k (by simpa using hk)
      simp at this ⊢
      omega
theorem sumN_new (rbs : List Nat) : ∀ k, sumN (rbs.map fun b => ⟨b, none, none, none, 0, fun _ => none⟩) k = 0 := by
  intro k
  unfold sumN
  rw [← List.map_take, List.map_map]
  induction rbs.take k with
  | nil => rfl
  | cons a r ih => simpa using ih
end Go.Proofs.YtmnnojekcloblaaGreatDoor

namespace Go.Proofs.YtmnnojekcloblaaGreatDoor
open Go.RowKit Go.Maps Go.WideMaps

theorem getD_set (kn : List (List Bool)) (k : Nat) (hk : k < kn.length) (a : List Bool) (j : Nat) : (kn.set k a).getD j [] = if k = j then a else kn.getD j [] := by
  rw [List.getD_eq_getElem?_getD, List.getElem?_set]
  by_cases e : k = j
  · subst e; simp [hk]
  · rw [if_neg e, if_neg e, List.getD_eq_getElem?_getD]

theorem CluF.done {w w' : World} {x : Nat} {S : Nat → Prop} {es : List Ev} {kn : List (List Bool)} {q cap : Nat} {ds : List RepD} (h : CluF w x S es kn q cap ds) {s : Thk.Bs} {c : Thk.Ch} (hr : Thk.read s = .inr c) {k : Nat} (hk : k < ds.length) (hl : es.length < 500) {e : Ev}
    (e1 : toL e.p = c.path) (e2 : e.a = c.act) (e3 : toL e.v = c.val) (e4 : e.n = c.n) (e5 : e.saw = kn.getD k []) {io co lo : Nat} (hn : w.heap.size ≤ io ∧ w.heap.size ≤ co ∧ w.heap.size ≤ lo)
    (hc : CluP w' x q cap 0 (ds.set k ⟨ds[k].rb, some io, some co, some lo, ds[k].n + 1, stepC ds[k].C c ds[k].n⟩)) :
    ∃ S', ProgF w' x S' (es ++ [e]) (kn.set k (moreOf (kn.getD k []) es.length)) ∧ ∀ b, S' b → S b ∨ w.heap.size ≤ b := by
  have hch : chOf e = c := by unfold chOf; rw [e1, e2, e3, e4]
  obtain ⟨p1, p2, p3, p4, _⟩ := Thk.read_ok _ _ hr
  have hfit : EvFit e := ⟨by rw [e1, e2]; exact Thk.read_fit _ _ hr, by rw [← toL_length, e1]; omega, by rw [← toL_length, e3]; omega, by omega, by omega⟩
  refine ⟨fun b => b = x ∨ b = q ∨ ∃ j, ∃ h : j < (ds.set k ⟨ds[k].rb, some io, some co, some lo, ds[k].n + 1, stepC ds[k].C c ds[k].n⟩).length, (ds.set k ⟨ds[k].rb, some io, some co, some lo, ds[k].n + 1, stepC ds[k].C c ds[k].n⟩)[j].own b, ⟨q, cap, _, hc, fun b => Iff.rfl, by simp [h.len], fun j hj => ?_, ?_, by simp; omega, fun e' he' => ?_⟩, fun b hb => ?_⟩
  · have hj' : j < ds.length := by simpa using hj
    rw [getD_set _ _ (by rw [h.len]; exact hk), List.getElem_set]
    obtain ⟨ps, ht⟩ := h.tie j hj'
    by_cases e9 : k = j
    · subst e9
      rw [if_pos rfl, if_pos rfl]
      exact ⟨_, ht.mine e c hch e5⟩
    · rw [if_neg e9, if_neg e9]
      exact ⟨ps, ht.other e⟩
  · have := sumN_set ds k hk ⟨ds[k].rb, some io, some co, some lo, ds[k].n + 1, stepC ds[k].C c ds[k].n⟩
    have h2 := h.sum
    rw [List.length_append, List.length_singleton]
    simp only [] at this
    omega
  · rcases List.mem_append.1 he' with h1 | h1
    · exact h.fit e' h1
    · simp at h1; subst h1; exact hfit
  · rcases hb with rfl | rfl | ⟨j, hj, ho⟩
    · exact Or.inl ((h.own _).2 (Or.inl rfl))
    · exact Or.inl ((h.own _).2 (Or.inr (Or.inl rfl)))
    · have hj' : j < ds.length := by simpa using hj
      rw [List.getElem_set] at ho
      by_cases e9 : k = j
      · rw [if_pos e9] at ho
        rcases ho with ho | ho | ho | ho
        · exact Or.inl ((h.own _).2 (Or.inr (Or.inr ⟨k, hk, Or.inl ho⟩)))
        · cases ho; exact Or.inr hn.1
        · cases ho; exact Or.inr hn.2.1
        · cases ho; exact Or.inr hn.2.2
      · rw [if_neg e9] at ho
        exact Or.inl ((h.own _).2 (Or.inr (Or.inr ⟨j, hj', ho⟩)))
theorem CluF.to {w w' : World} {x : Nat} {S : Nat → Prop} {es : List Ev} {kn : List (List Bool)} {q cap : Nat} {ds : List RepD} (h : CluF w x S es kn q cap ds) (hc : CluP w' x q cap 0 ds) : ProgF w' x S es kn := ⟨q, cap, ds, hc, h.own, h.len, h.tie, h.sum, h.e500, h.fit⟩
theorem CluF.sx {w w' : World} {x : Nat} {S : Nat → Prop} {es : List Ev} {kn : List (List Bool)} {q cap : Nat} {ds : List RepD} (h : CluF w x S es kn q cap ds) (hc : Chg (fun k => k = x) w w') : Chg S w w' := hc.wide (fun k e => (h.own k).2 (Or.inl e))

theorem prog_ok : ProgOK ProgF := {
  bad := by
    intro w r room _ h
    refine Calls.mono (New_bad r room w h) ?_
    rintro e w' ⟨rfl, rfl⟩
    exact ⟨rfl, Below.refl _ _⟩
  good := by
    intro w r room hG h1 h6 h50
    have h4 : 4 ≤ w.heap.size := hG.size
    refine Calls.mono (New_good r room w h4 h1 h6 h50) ?_
    rintro e w' ⟨rv, rbs, rfl, hr, hN⟩
    subst hr
    obtain ⟨q, cap, rfl, hq, hC⟩ := hN.done h4 h1 h6
    refine ⟨w.heap.size, fun k => k = w.heap.size ∨ k = q ∨ ∃ j, ∃ h : j < (rbs.map fun b => (⟨b, none, none, none, 0, fun _ => none⟩ : RepD)).length, ((rbs.map fun b => (⟨b, none, none, none, 0, fun _ => none⟩ : RepD))[j]).own k, rfl, ⟨q, cap, _, hC, fun k => Iff.rfl, by simp, fun j hj => ?_, ?_, by simp, fun e he => absurd he (by simp)⟩, fun k hk => ?_, hN.bel⟩
    · have : (List.replicate rbs.length ([] : List Bool)).getD j [] = [] := by
        have hj' : j < rbs.length := by simpa using hj
        simp [hj']
      rw [this]
      refine ⟨[], ?_⟩
      simp only [List.getElem_map]
      exact OwnT.nil
    · rw [sumN_new]; rfl
    · rcases hk with rfl | rfl | ⟨j, hj, ho⟩
      · exact Nat.le_refl _
      · exact hq
      · have hj' : j < rbs.length := by simpa using hj
        simp only [List.getElem_map] at ho
        rcases ho with ho | ho | ho | ho
        · rw [ho]; exact (hN.rep j hj').2
        · cases ho
        · cases ho
        · cases ho
  does := by
    rintro w x S es kn i s r es' kn' hG ⟨q, cap, ds, h⟩ hs hd
    refine Calls.mono (CDo_any w hG x q cap ds h.clu i s hs) ?_
    rintro e w' ⟨r', ds', rfl, hD, hC, hc⟩
    have hcS : Chg S w w' := hc.wide (fun k hk => (h.own k).2 (by
      rcases hk with rfl | ⟨j, hj, rfl⟩
      · exact Or.inl rfl
      · exact Or.inr (Or.inr ⟨j, hj, Or.inl rfl⟩)))
    have hle := h.len
    have hsm := h.sum
    rcases hD with ⟨hi, rfl, rfl⟩ | ⟨m, hi, hr, rfl, rfl⟩ | ⟨c, hi, hr, hl, rfl, rfl⟩ | ⟨c, k, hk, io, co, lo, rfl, hr, hl, hn, rfl, rfl⟩ <;>
      rcases hd with ⟨h3, rfl, rfl, rfl⟩ | ⟨k', h3, h4, rfl, rfl, rfl⟩ | ⟨c', h3, h4, h5, rfl, rfl, rfl⟩ | ⟨c', e', h3, h4, h5, b1, b2, b3, b4, b5, rfl, rfl, rfl⟩
    · exact ⟨rfl, S, h.to hC, fun k hk => Or.inl hk, hcS⟩
    · exact absurd h3 (by rw [hle]; exact hi)
    · exact absurd h3 (by rw [hle]; exact hi)
    · exact absurd h3 (by rw [hle]; exact hi)
    · exact absurd (by rw [hle]; exact hi) h3
    · rw [hr] at h4; cases h4; exact ⟨rfl, S, h.to hC, fun k hk => Or.inl hk, hcS⟩
    · rw [hr] at h4; cases h4
    · rw [hr] at h4; cases h4
    · exact absurd (by rw [hle]; exact hi) h3
    · rw [hr] at h4; cases h4
    · exact ⟨rfl, S, h.to hC, fun k hk => Or.inl hk, hcS⟩
    · omega
    · exact absurd (by rw [hle]; omega) h3
    · rw [hr] at h4; cases h4
    · omega
    · rw [hr] at h4
      cases h4
      obtain ⟨S', h6, h7⟩ := h.done hr hk h5 b1 b2 b3 b4 b5 hn hC
      exact ⟨rfl, S', h6, h7, hcS⟩
  asks := by
    rintro w x S es kn i s hG ⟨q, cap, ds, h⟩ hs
    refine Calls.mono (CAsk_any w hG x q cap ds h.clu (fun j hj => by obtain ⟨ps, ht⟩ := h.tie j hj; exact ht.itms h.e500 h.fit) i s hs) ?_
    rintro e w' ⟨t, r, rfl, hA, hC, hc⟩
    have hle := h.len
    have fin : (askR es kn i (toL s)).2 = r ∧ toL t = (askR es kn i (toL s)).1 := by
      unfold askR
      rcases hA with ⟨h1, rfl, rfl⟩ | ⟨h1, h2, rfl, rfl⟩ | ⟨k, hk, rfl, h2, rfl, xs, hx, rfl⟩
      · rw [if_neg (by rw [hle]; exact h1)]; exact ⟨rfl, rfl⟩
      · rw [if_pos (by rw [hle]; exact h1), h2]; exact ⟨rfl, rfl⟩
      · rw [if_pos (by rw [hle]; omega), h2]
        obtain ⟨ps, ht⟩ := h.tie k hk
        exact ⟨rfl, tell_eq (toL s) h.fit (ht.perm hx)⟩
    refine ⟨t, by rw [fin.1], fin.2, S, h.to hC, fun k hk => Or.inl hk, h.sx hc⟩
  knows := by
    rintro w x S es kn i hG ⟨q, cap, ds, h⟩
    refine Calls.mono (CKnows_any w x q cap ds h.clu i) ?_
    rintro e w' ⟨rfl, hC, hc⟩
    have hle := h.len
    have fin : knowsD ds i = knowsR kn i := by
      unfold knowsD knowsR
      by_cases hi : 0 ≤ i ∧ i < ds.length
      · rw [if_pos hi, if_pos (by rw [hle]; exact hi)]
        have hk : i.toNat < ds.length := by omega
        obtain ⟨ps, ht⟩ := h.tie i.toNat hk
        rw [ht.c, List.getElem?_eq_getElem hk]
        rfl
      · rw [if_neg hi, if_neg (by rw [hle]; exact hi)]
    refine ⟨by rw [fin], S, h.to hC, fun k hk => Or.inl hk, h.sx hc⟩ }
end Go.Proofs.YtmnnojekcloblaaGreatDoor

namespace Go.Proofs.YtmnnojekcloblaaGreatDoor
open Go.RowKit

/-- A pair of clusters. -/
structure PairD where
  pb : Nat
  x : Nat
  S : Nat → Prop
  c : Nat
  rb : Nat
  evv : Value
  room : Nat
  es : List Ev
  kn : List (List Bool)
def PairD.At (w : World) (d : PairD) : Prop := PairAt ProgF w d.pb d.x d.S d.c d.rb d.evv d.room d.es d.kn
/-- What is written where a step turns the pair. -/
def PairD.foot (d : PairD) (k : Nat) : Prop := d.S k ∨ k = d.c ∨ k = d.rb ∨ d.evv.ownBlock = some k

/-- Another pair stands. -/
theorem PairD.At.other {w w' : World} {d f : PairD} (h : d.At w) (hf : f.At w) (hc : Chg f.foot w w') (ha : ∀ k, d.foot k → ¬ f.foot k) : d.At w' := by
  have tagS : ∀ {k : Nat} {t : TypeId}, f.S k → Tagged w k t → t ≠ 88 ∧ t ≠ 83 ∧ t ≠ 140 ∧ t ≠ 4 ∧ t ≠ 3 ∧ t ≠ 75 ∧ t ≠ 29 ∧ t ≠ 43 := fun hs ht => prog_frame.tags hf.f hs ht
  have one : ∀ {k : Nat} {t : TypeId}, f.foot k → Tagged w k t → t ≠ 75 ∧ t ≠ 4 ∧ t ≠ 3 := by
    intro k t hk ht
    rcases hk with hk | rfl | rfl | hk
    · have := tagS hk ht; exact ⟨this.2.2.2.2.2.1, this.2.2.2.1, this.2.2.2.2.1⟩
    · refine ⟨fun e => ?_, fun e => ?_, fun e => ?_⟩ <;> subst e <;> exact Tagged.ne ht hf.r.tc (by decide) rfl
    · refine ⟨fun e => ?_, fun e => ?_, fun e => ?_⟩ <;> subst e <;> exact Tagged.ne ht hf.r.trb (by decide) rfl
    · have h3 := (hf.r.evLt k hk).2
      refine ⟨fun e => ?_, fun e => ?_, fun e => ?_⟩ <;> subst e <;> exact Tagged.ne ht h3 (by decide) rfl
  have hpb : ¬ f.foot d.pb := fun hk => (one hk h.tag).1 rfl
  have hcell : ∀ i, w'.cell? ⟨d.pb, i, none⟩ = w.cell? ⟨d.pb, i, none⟩ := fun i => World.cell?_of_block (w := w) (hc.block d.pb h.tag.lt hpb)
  exact ⟨h.tag.chg hc hpb, (hcell 0).trans h.c0, (hcell 1).trans h.c1, prog_frame.stable h.f hc (fun k hk => ha k (Or.inl hk)),
    h.r.chg hc (ha _ (Or.inr (Or.inl rfl))) (ha _ (Or.inr (Or.inr (Or.inl rfl)))) (fun g hg => ha _ (Or.inr (Or.inr (Or.inr hg)))) (fun b hb hk => (one hk hb).2.1 rfl) (fun b hb hk => (one hk hb).2.2 rfl)⟩
/-- What the law writes of its own turns no pair. -/
theorem PairD.At.law {M : Nat → Prop} {w w' : World} {d : PairD} (h : d.At w) (hc : Chg M w w') (hM : ∀ k, M k → k < w.heap.size → Tagged w k 29 ∨ Tagged w k 43) : d.At w' := by
  have one : ∀ {k : Nat} {t : TypeId}, M k → Tagged w k t → t = 29 ∨ t = 43 := by
    intro k t hk ht
    rcases hM k hk ht.lt with h1 | h1
    · by_cases e : t = 29
      · exact Or.inl e
      · exact absurd rfl (Tagged.ne ht h1 e)
    · by_cases e : t = 43
      · exact Or.inr e
      · exact absurd rfl (Tagged.ne ht h1 e)
  have no : ∀ {k : Nat} {t : TypeId}, Tagged w k t → t ≠ 29 → t ≠ 43 → ¬ M k := fun ht h1 h2 hk => (one hk ht).elim h1 h2
  have hpb : ¬ M d.pb := no h.tag (by decide) (by decide)
  have hcell : ∀ i, w'.cell? ⟨d.pb, i, none⟩ = w.cell? ⟨d.pb, i, none⟩ := fun i => World.cell?_of_block (w := w) (hc.block d.pb h.tag.lt hpb)
  refine ⟨h.tag.chg hc hpb, (hcell 0).trans h.c0, (hcell 1).trans h.c1, prog_frame.stable h.f hc (fun k hk hm => ?_),
    h.r.chg hc (no h.r.tc (by decide) (by decide)) (no h.r.trb (by decide) (by decide)) (fun g hg => no (h.r.evLt g hg).2 (by decide) (by decide)) (fun b hb => no hb (by decide) (by decide)) (fun b hb => no hb (by decide) (by decide))⟩
  have := prog_frame.lt h.f hk
  rcases hM k hm this with h1 | h1
  · exact (prog_frame.tags h.f hk h1).2.2.2.2.2.2.1 rfl
  · exact (prog_frame.tags h.f hk h1).2.2.2.2.2.2.2 rfl

def pbs (l : List PairD) : List Value := l.map fun d => .pointer (some ⟨d.pb, 0, none⟩)
/-- The law's world: its pairs. -/
structure LawI (B : Nat) (w : World) (b : Nat) (rv : Value) (l : List PairD) : Prop where
  glob : Glob w
  b4 : 4 ≤ B
  bB : B ≤ b
  blk : Blk w b #[rv, .bool false] 29
  row : w.ownsRow B 43 1 rv l.length (pbs l)
  pair : ∀ j (h : j < l.length), l[j].At w
  foot : ∀ j (h : j < l.length) k, l[j].foot k → B ≤ k
  apart : ∀ i j (hi : i < l.length) (hj : j < l.length), i ≠ j → ∀ k, l[i].foot k → ¬ l[j].foot k
def LawJ (c B : Nat) (w : World) (b : Nat) : Prop := ∃ rv l, l.length ≤ c ∧ LawI B w b rv l

theorem LawI.below {B : Nat} {w w' : World} {b : Nat} {rv : Value} {l : List PairD} (h : LawI B w b rv l) (hb : Below w.heap.size w w') : LawI B w' b rv l :=
  ⟨h.glob.mono hb, h.b4, h.bB, h.blk.below hb, ownsRow_chg h.row (Chg.of_below (M := fun _ => False) hb) (fun _ _ h => h), fun j hj => (h.pair j hj).below prog_frame hb, h.foot, h.apart⟩
theorem LawI.rowTag {B : Nat} {w : World} {b : Nat} {rv : Value} {l : List PairD} (h : LawI B w b rv l) : ∀ g, rv.ownBlock = some g → Tagged w g 43 := by
  intro g hg
  obtain ⟨_, h1 | ⟨g', cap, cur, rfl, _, hh, _⟩⟩ := h.row
  · rw [h1.1] at hg; cases hg
  · cases hg; exact ⟨cur, hh⟩
theorem PairD.At.footTag {w : World} {d : PairD} (h : d.At w) {k : Nat} (hk : d.foot k) {t : TypeId} (ht : Tagged w k t) : t ≠ 29 ∧ t ≠ 43 := by
  rcases hk with hk | rfl | rfl | hk
  · have := prog_frame.tags h.f hk ht; exact ⟨this.2.2.2.2.2.2.1, this.2.2.2.2.2.2.2⟩
  · refine ⟨fun e => ?_, fun e => ?_⟩ <;> subst e <;> exact Tagged.ne ht h.r.tc (by decide) rfl
  · refine ⟨fun e => ?_, fun e => ?_⟩ <;> subst e <;> exact Tagged.ne ht h.r.trb (by decide) rfl
  · have h3 := (h.r.evLt k hk).2
    refine ⟨fun e => ?_, fun e => ?_⟩ <;> subst e <;> exact Tagged.ne ht h3 (by decide) rfl
theorem PairD.At.footLt {w : World} {d : PairD} (h : d.At w) {k : Nat} (hk : d.foot k) : k < w.heap.size := by
  rcases hk with hk | rfl | rfl | hk
  · exact prog_frame.lt h.f hk
  · exact h.r.tc.lt
  · exact h.r.trb.lt
  · exact (h.r.evLt k hk).1
/-- A pair is turned by a step. -/
theorem LawI.turn {B : Nat} {w w' : World} {b : Nat} {rv : Value} {l : List PairD} (h : LawI B w b rv l) (k : Nat) (hk : k < l.length) (d : PairD) (hp : d.pb = l[k].pb) (hd : d.At w') (hc : Chg l[k].foot w w') (hf : ∀ i, d.foot i → l[k].foot i ∨ w.heap.size ≤ i) :
    LawI B w' b rv (l.set k d) ∧ Below B w w' := by
  have hk0 := h.pair k hk
  have hBs : B ≤ w.heap.size := Nat.le_trans h.bB (Nat.le_of_lt h.blk.lt)
  have hbel : Below B w w' := ⟨hc.os, hc.tape, hc.output, hc.size, fun i hi => hc.block i (Nat.lt_of_lt_of_le hi hBs) (fun e => by have := h.foot k hk i e; omega)⟩
  have hb' : ¬ l[k].foot b := fun hb => (hk0.footTag hb ⟨_, h.blk⟩).1 rfl
  have hget : ∀ j (hj : j < l.length), (l.set k d)[j]'(by simpa using hj) = if k = j then d else l[j] := fun j hj => by rw [List.getElem_set]
  refine ⟨⟨h.glob.chg4 hc (fun i hi => Nat.le_trans h.b4 (h.foot k hk i hi)), h.b4, h.bB, h.blk.chg hc hb', ?_, fun j hj => ?_, fun j hj i hi => ?_, fun i j hi hj hij n hn => ?_⟩, hbel⟩
  · have e : pbs (l.set k d) = pbs l := by
      unfold pbs
      rw [List.map_set, hp]
      refine List.ext_getElem? fun j => ?_
      rw [List.getElem?_set]
      by_cases e : k = j
      · subst e; simp [hk]
      · simp [e]
    rw [List.length_set, e]
    exact ownsRow_chg h.row hc (fun g hg hm => (hk0.footTag hm (h.rowTag g hg)).2 rfl)
  · have hj' : j < l.length := by simpa using hj
    rw [hget j hj']
    by_cases e : k = j
    · rw [if_pos e]; exact hd
    · rw [if_neg e]
      exact (h.pair j hj').other hk0 hc (fun i hi => h.apart j k hj' hk (Ne.symm e) i hi)
  · have hj' : j < l.length := by simpa using hj
    rw [hget j hj'] at hi
    by_cases e : k = j
    · rw [if_pos e] at hi
      rcases hf i hi with h1 | h1
      · exact h.foot k hk i h1
      · omega
    · rw [if_neg e] at hi
      exact h.foot j hj' i hi
  · have hi' : i < l.length := by simpa using hi
    have hj' : j < l.length := by simpa using hj
    rw [hget i hi'] at hn
    rw [hget j hj']
    by_cases e : k = i
    · rw [if_pos e] at hn
      have e2 : ¬ k = j := by omega
      rw [if_neg e2]
      intro hm
      rcases hf n hn with h1 | h1
      · exact h.apart k j hk hj' e2 n h1 hm
      · have := (h.pair j hj').footLt hm; omega
    · rw [if_neg e] at hn
      by_cases e2 : k = j
      · rw [if_pos e2]
        intro hm
        rcases hf n hm with h1 | h1
        · exact h.apart i k hi' hk (Ne.symm e) n hn h1
        · have := (h.pair i hi').footLt hn; omega
      · rw [if_neg e2]
        exact h.apart i j hi' hj' hij n hn
end Go.Proofs.YtmnnojekcloblaaGreatDoor

namespace Go.Proofs.YtmnnojekcloblaaGreatDoor
open Go.RowKit

set_option maxHeartbeats 1000000 in
/-- One pair more. -/
theorem LawI.more {B N : Nat} {w w6 : World} {b : Nat} {rv : Value} {l : List PairD} (h : LawI B w b rv l) (hN : ∀ j (hj : j < l.length) k, l[j].foot k → k < N) (hBN : B ≤ N) {x : Nat} {S : Nat → Prop} {c rb room : Nat} {kn : List (List Bool)}
    (hf : ProgF w x S [] kn) (hr : RefAt w c rb (.slice none 0 0) room [] 0 0 kn) (hS : ∀ k, S k → N ≤ k) (hc : N ≤ c) (hrb : N ≤ rb) {g cap : Nat}
    (ho : w6.ownsRow B 43 1 (.slice (some ⟨g, 0, none⟩) (l.length + 1) cap) (l.length + 1) (pbs l ++ [.pointer (some ⟨w.heap.size, 0, none⟩)]))
    (hg : ((w.alloc (.cells #[.pointer (some ⟨x, 0, none⟩), .pointer (some ⟨c, 0, none⟩)] 75)).alloc (.cells #[.pointer (some ⟨w.heap.size, 0, none⟩)] 43)).grownBy w6 rv.ownBlock) :
    LawI B (w6.setCell ⟨b, 0, none⟩ (.slice (some ⟨g, 0, none⟩) (l.length + 1) cap)) b (.slice (some ⟨g, 0, none⟩) (l.length + 1) cap) (l ++ [⟨w.heap.size, x, S, c, rb, .slice none 0 0, room, [], kn⟩]) ∧ Below B w (w6.setCell ⟨b, 0, none⟩ (.slice (some ⟨g, 0, none⟩) (l.length + 1) cap)) := by
  obtain ⟨wa, hwa⟩ : ∃ wa, wa = (w.alloc (.cells #[.pointer (some ⟨x, 0, none⟩), .pointer (some ⟨c, 0, none⟩)] 75)).alloc (.cells #[.pointer (some ⟨w.heap.size, 0, none⟩)] 43) := ⟨_, rfl⟩
  have hba : Below w.heap.size w wa := by rw [hwa]; exact ((Below.refl _ w).alloc (Nat.le_refl _) _).alloc (by simp) _
  have hpa : Blk wa w.heap.size #[.pointer (some ⟨x, 0, none⟩), .pointer (some ⟨c, 0, none⟩)] 75 := by rw [hwa]; exact (Blk.new w _ _).alloc _
  rw [← hwa] at hg
  clear hwa
  have ha := h.below hba
  have hda : PairD.At wa ⟨w.heap.size, x, S, c, rb, .slice none 0 0, room, [], kn⟩ :=
    ⟨⟨_, hpa⟩, (hpa.cell 0).trans rfl, (hpa.cell 1).trans rfl, prog_frame.stable hf (Chg.of_below (M := fun _ => False) hba) (fun _ _ h => h), hr.below hba⟩
  have hcM : Chg (fun k => rv.ownBlock = some k ∨ k = b) wa (w6.setCell ⟨b, 0, none⟩ (.slice (some ⟨g, 0, none⟩) (l.length + 1) cap)) :=
    Chg.setCell (p := ⟨b, 0, none⟩) ((Chg.refl (fun k => rv.ownBlock = some k ∨ k = b) wa).grown hg (fun k hk => Or.inl (Or.inl hk))) (Or.inr rfl) _
  have hM : ∀ k, (rv.ownBlock = some k ∨ k = b) → k < wa.heap.size → Tagged wa k 29 ∨ Tagged wa k 43 := by
    rintro k (hk | rfl) _
    · exact Or.inr (ha.rowTag k hk)
    · exact Or.inl ⟨_, ha.blk⟩
  have hMB : ∀ k, (rv.ownBlock = some k ∨ k = b) → B ≤ k := by
    rintro k (hk | rfl)
    · exact (ha.row.lt k hk).1
    · exact h.bB
  have hbr : rv.ownBlock ≠ some b := fun e => Tagged.ne (ha.rowTag b e) ⟨_, ha.blk⟩ (by decide) rfl
  have hb6 : Blk w6 b #[rv, .bool false] 29 := (hg.block b ha.blk.lt (Ne.symm hbr)).trans ha.blk
  have hgb : g ≠ b := fun e => by
    subst e
    obtain ⟨_, ⟨h1, _⟩ | ⟨g', cp, cur, hv, _, hh, _⟩⟩ := ho
    · cases h1
    · simp only [Value.slice.injEq, Option.some.injEq, Addr.mk.injEq, true_and, and_true] at hv
      obtain ⟨rfl, rfl⟩ := hv
      exact absurd (blk_types hb6 hh).2 (by decide)
  have hlen : (l ++ [(⟨w.heap.size, x, S, c, rb, .slice none 0 0, room, [], kn⟩ : PairD)]).length = l.length + 1 := by simp
  have hget : ∀ j (hj : j < l.length), (l ++ [(⟨w.heap.size, x, S, c, rb, .slice none 0 0, room, [], kn⟩ : PairD)])[j]'(by rw [hlen]; omega) = l[j] := fun j hj => List.getElem_append_left hj
  have hlast : ∀ j (hj : j < (l ++ [(⟨w.heap.size, x, S, c, rb, .slice none 0 0, room, [], kn⟩ : PairD)]).length), ¬ j < l.length → (l ++ [(⟨w.heap.size, x, S, c, rb, .slice none 0 0, room, [], kn⟩ : PairD)])[j] = ⟨w.heap.size, x, S, c, rb, .slice none 0 0, room, [], kn⟩ := fun j hj hn => by
    rw [List.getElem_append_right (by omega)]
    have : j - l.length = 0 := by rw [hlen] at hj; omega
    simp [this]
  have hfoot : ∀ k, PairD.foot ⟨w.heap.size, x, S, c, rb, .slice none 0 0, room, [], kn⟩ k → N ≤ k := by
    rintro k (hk | hk | hk | hk)
    · exact hS k hk
    · have e : k = c := hk
      omega
    · have e : k = rb := hk
      omega
    · cases hk
  refine ⟨⟨(h.glob.mono hba).chg4 hcM (fun k hk => Nat.le_trans h.b4 (hMB k hk)), h.b4, h.bB, ?_, ?_, fun j hj => ?_, fun j hj k hk => ?_, fun i j hi hj hij k hk => ?_⟩, ?_⟩
  · unfold Blk at hb6 ⊢
    simp [World.setCell, Array.getElem?_modify, hb6]
  · rw [hlen]
    have e : pbs (l ++ [(⟨w.heap.size, x, S, c, rb, .slice none 0 0, room, [], kn⟩ : PairD)]) = pbs l ++ [.pointer (some ⟨w.heap.size, 0, none⟩)] := by simp [pbs]
    rw [e]
    exact ownsRow_setCell_other ho (a := ⟨b, 0, none⟩) (fun e => hgb (by simpa [Value.ownBlock] using e)) _
  · by_cases hlt : j < l.length
    · rw [hget j hlt]; exact (ha.pair j hlt).law hcM hM
    · rw [hlast j hj hlt]; exact hda.law hcM hM
  · by_cases hlt : j < l.length
    · rw [hget j hlt] at hk; exact h.foot j hlt k hk
    · rw [hlast j hj hlt] at hk; exact Nat.le_trans hBN (hfoot k hk)
  · by_cases hli : i < l.length
    · rw [hget i hli] at hk
      by_cases hlj : j < l.length
      · rw [hget j hlj]; exact h.apart i j hli hlj hij k hk
      · rw [hlast j hj hlj]; intro hm; have := hfoot k hm; have := hN i hli k hk; omega
    · rw [hlast i hi hli] at hk
      by_cases hlj : j < l.length
      · rw [hget j hlj]; intro hm; have := hfoot k hk; have := hN j hlj k hm; omega
      · rw [hlen] at hi hj; omega
  · have hBw : B ≤ w.heap.size := Nat.le_trans h.bB (Nat.le_of_lt h.blk.lt)
    exact (hba.mono hBw).trans ⟨hcM.os, hcM.tape, hcM.output, hcM.size, fun k hk => hcM.block k (by have := hba.size; omega) (fun hm => by have := hMB k hm; omega)⟩
end Go.Proofs.YtmnnojekcloblaaGreatDoor

namespace Go.Proofs.YtmnnojekcloblaaGreatDoor
open Go.RowKit

theorem Tryz.infoPP : (Tryz.prog.info? 43).map (fun i => (i.zero, i.size, i.bytes)) = some (some (.pointer none), 1, 8) := by kernel_rfl

set_option maxHeartbeats 4000000 in
set_option maxRecDepth 100000 in
theorem made_any (c B : Nat) (w : World) (b : Nat) (o : StepD) (ho : o.ok) (hcc : c < 1099511627776) (hJ : LawJ c B w b) :
    Calls Tryz.prog 13 #[.pointer (some ⟨b, 0, none⟩), o.val] w fun e w' => e = .returned (.bool true) ∧ LawJ (c + 1) B w' b ∧ Below B w w' := by
  obtain ⟨rv, l, hl, hI⟩ := hJ
  obtain ⟨iR, hiR, hzR0, hzR1, hzR2⟩ := info_parts Tryz.infoPP
  obtain ⟨k, a, n, m, s⟩ := o
  unfold StepD.val
  simp only at *
  have hb1 : Below w.heap.size w (w.alloc (.cells #[.int .i64 k, .int .i64 a, .int .i64 n, .int .i64 m, .string s] 31)) := (Below.refl _ w).alloc (Nat.le_refl _) _
  have hblk1 : Blk (w.alloc (.cells #[.int .i64 k, .int .i64 a, .int .i64 n, .int .i64 m, .string s] 31)) w.heap.size #[.int .i64 k, .int .i64 a, .int .i64 n, .int .i64 m, .string s] 31 := Blk.new w _ _
  have HN : Hid (∀ j (hj : j < l.length) i, l[j].foot i → i < w.heap.size) := fun j hj i hi => (hI.pair j hj).footLt hi
  have hBw : B ≤ w.heap.size := Nat.le_trans hI.bB (Nat.le_of_lt hI.blk.lt)
  by_cases hbad : n < 1 ∨ 6 < n ∨ m < 0 ∨ 50 < m
  · have Hc : Hid (_) := prog_ok.bad _ n m (hI.glob.mono hb1) hbad
    have HJ : Hid (∀ w', Below w.heap.size w w' → LawJ (c + 1) B w' b ∧ Below B w w') := fun w' hb => ⟨⟨rv, l, by omega, hI.below hb⟩, hb.mono hBw⟩
    have Hb1 : Hid (_) := hb1
    have Hk1 : Hid (Blk (w.alloc (.cells #[.int .i64 k, .int .i64 a, .int .i64 n, .int .i64 m, .string s] 31)) w.heap.size #[.int .i64 k, .int .i64 a, .int .i64 n, .int .i64 m, .string s] 31) := hblk1
    clear hI ho hb1 hblk1 HN
    go_enter Tryz.func13, Tryz.ntmps13
    go_wp2_with fail
    refine Calls.mono Hc.out ?_
    rintro e w2 ⟨rfl, hb2⟩
    have q2 : w2.cell? ⟨w.heap.size, 2, none⟩ = some (.int .i64 n) := ((Hk1.out.below hb2).cell 2).trans rfl
    have q3 : w2.cell? ⟨w.heap.size, 3, none⟩ = some (.int .i64 m) := ((Hk1.out.below hb2).cell 3).trans rfl
    have HB2 : Hid (Below w.heap.size w w2) := Hb1.out.trans (hb2.mono Hb1.out.size)
    clear hb2 Hc Hb1 Hk1
    go_wp2_with fail
    refine Calls.mono (Fresh_bad n m w2 hbad) ?_
    rintro e w3 ⟨rfl, rfl⟩
    go_wp2_with (first | (go_at_call 32; refine (num_any _ _).mono ?_; rintro e w5 ⟨rfl, rfl⟩))
    go_ret
    exact ⟨rfl, HJ.out _ HB2.out⟩
  · obtain ⟨r, rfl⟩ := Int.eq_ofNat_of_zero_le (show 0 ≤ n by omega)
    obtain ⟨room, rfl⟩ := Int.eq_ofNat_of_zero_le (show 0 ≤ m by omega)
    have h1 : 1 ≤ r := by omega
    have h6 : r ≤ 6 := by omega
    have h50 : room ≤ 50 := by omega
    have Hc : Hid (_) := prog_ok.good _ r room (hI.glob.mono hb1) h1 h6 h50
    have Hb1 : Hid (_) := hb1
    have Hk1 : Hid (Blk (w.alloc (.cells #[.int .i64 k, .int .i64 a, .int .i64 (r : Int), .int .i64 (room : Int), .string s] 31)) w.heap.size #[.int .i64 k, .int .i64 a, .int .i64 (r : Int), .int .i64 (room : Int), .string s] 31) := hblk1
    have HI : Hid (LawI B w b rv l) := hI
    have m1 : Hid (l.length + 1 ≤ maxLen) := by unfold Hid maxLen; omega
    have m2 : Hid ((l.length + 1) * 8 ≤ 140737488355328) := by unfold Hid; omega
    clear hI ho hb1 hblk1 hbad
    go_enter Tryz.func13, Tryz.ntmps13
    go_wp2_with fail
    refine Calls.mono Hc.out ?_
    rintro e w2 ⟨x, S, rfl, hf, hS, hb2⟩
    have q2 : w2.cell? ⟨w.heap.size, 2, none⟩ = some (.int .i64 (r : Int)) := ((Hk1.out.below hb2).cell 2).trans rfl
    have q3 : w2.cell? ⟨w.heap.size, 3, none⟩ = some (.int .i64 (room : Int)) := ((Hk1.out.below hb2).cell 3).trans rfl
    have HB2 : Hid (Below w.heap.size w w2) := Hb1.out.trans (hb2.mono Hb1.out.size)
    have HF2 : Hid (ProgF w2 x S [] (List.replicate r [])) := hf
    have HS2 : Hid (∀ k, S k → w.heap.size ≤ k) := fun k hk => Nat.le_trans Hb1.out.size (hS k hk)
    clear hb2 Hc Hb1 Hk1 hf hS
    go_wp2_with fail
    refine Calls.mono (Fresh_good r room w2 h1 h6 h50) ?_
    rintro e w3 ⟨rb, rfl, hr, hb3, hrb⟩
    have HB3 : Hid (Below w.heap.size w w3) := HB2.out.trans (hb3.mono HB2.out.size)
    have HF3 : Hid (ProgF w3 x S [] (List.replicate r [])) := prog_frame.stable HF2.out (Chg.of_below (M := fun _ => False) hb3) (fun _ _ h => h)
    have HR3 : Hid (_) := hr
    have Hrb : Hid (w.heap.size ≤ rb) := Nat.le_trans HB2.out.size hrb
    have Hc3 : Hid (w.heap.size ≤ w2.heap.size) := HB2.out.size
    have HI3 : Hid (LawI B w3 b rv l) := HI.out.below HB3.out
    have hbl : b < w3.heap.size := HI3.out.blk.lt
    have p0 : w3.cell? ⟨b, 0, none⟩ = some rv := (HI3.out.blk.cell 0).trans rfl
    have hB3 : B ≤ w3.heap.size := Nat.le_trans hBw HB3.out.size
    have HE : Hid (∀ o o', Blk ((w3.alloc o).alloc o') b #[rv, .bool false] 29) := fun o o' => (HI3.out.blk.alloc o).alloc o'
    have hne : Hid (rv.ownBlock ≠ some b) := fun e => Tagged.ne (HI3.out.rowTag b e) ⟨_, HI3.out.blk⟩ (by decide) rfl
    clear HB2 HF2 hr hb3 hrb q2 q3 HI
    go_wp2_with (first | (go_at_call 32; refine (num_any _ _).mono ?_; rintro e w5 ⟨rfl, rfl⟩) | (at_builtin; refine wpList_append_own _ rfl (.tmp 41) (.tmp 46) 27 rfl B 43 iR (.pointer none) 1 8 Tryz.underlying27 hiR hzR0 hzR1 hzR2 rfl (by decide) rv l.length (pbs l) rfl ((HI3.out.row.alloc _).alloc _) ⟨w5.heap.size + 1, 0, none⟩ 1 1 [.pointer (some ⟨w5.heap.size, 0, none⟩)] rfl rfl ?_ ?_ m1.out m2.out ?_ ?_; (intro j u hj; match j, hj with | 0, hj => (cases hj; simp [Addr.add])); (intro u hu; simp at hu; subst hu; rfl); (simp; omega); intro v6 w6 ho6 hg6 _; obtain ⟨g6, c6, rfl⟩ := own_some ho6 (Nat.succ_pos _); have k1 : w6.cell? ⟨b, 0, none⟩ = some rv := hg6.cell (((HE.out _ _).cell 0).trans rfl) (Ne.symm hne.out); have kf : w6.frozen? ⟨b, 0, none⟩ = false := Blk.frozen (cs := #[rv, .bool false]) (t := 29) ((hg6.block _ (HE.out _ _).lt (Ne.symm hne.out)).trans (HE.out _ _)) 0))
    go_ret
    obtain ⟨hL, hBe⟩ := HI3.out.more HN.out hBw HF3.out HR3.out HS2.out Hc3.out Hrb.out ho6 hg6
    exact ⟨rfl, ⟨_, _, by simp; omega, hL⟩, (HB3.out.mono hBw).trans hBe⟩
end Go.Proofs.YtmnnojekcloblaaGreatDoor

