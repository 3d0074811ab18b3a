import Derived.Test.YtoiiaankpnhppaaGreatDoorPart28
import Derived.Test.YtoiiaankpnhppaaGreatDoorPart31
set_option linter.unusedVariables false
set_option linter.unusedSimpArgs false
namespace Go.Proofs.YtoiiaankpnhppaaGreatDoor
open Go.RowKit

theorem tellR_evs (es : List Ev) (al : List Nat) (path : Thk.Bs) : tellR es al path = tellB (Thk.kindOf path) ((evsOf es al).foldl (tstep (Thk.kindOf path) path) ⟨[], 0, false⟩) := by
  unfold tellR evsOf
  congr 1
  generalize (⟨[], 0, false⟩ : TSt) = st
  induction al generalizing st with
  | nil => rfl
  | cons i r ih =>
    rw [List.foldl_cons, ih, List.filterMap_cons]
    cases es[i]? <;> rfl

theorem fold_m (k : UInt8) (path : Thk.Bs) (hk : (k.toNat : Int) = 109) : ∀ (evs : List Ev) (st : TSt), (∀ e ∈ evs, toL e.p ≠ path) → (evs.foldl (tstep k path) st).l = ((evs.filter fun e => (path ++ [47]).isPrefixOf (toL e.p)).map fun e => stepSeg path (toL e.p)).foldl withL st.l
  | [], _, _ => rfl
  | e :: r, st, h => by
    have hne := h e (by simp)
    have hb := begins_prefix (toL e.p) path
    have h1 : (toL e.p == path) = false := by simpa using hne
    rw [List.foldl_cons, fold_m k path hk r _ (fun y hy => h y (by simp [hy])), List.filter_cons]
    unfold tstep
    rw [hb, h1]
    cases hp : (path ++ [47]).isPrefixOf (toL e.p)
    · simp
    · simp [hk, stepSeg]

theorem fold_n (k : UInt8) (path : Thk.Bs) (hk : (k.toNat : Int) ≠ 109) : ∀ (evs : List Ev) (st : TSt), evs.foldl (tstep k path) st = ⟨((evs.filter fun e => toL e.p == path).map fun e => toL e.v).foldl withL st.l, st.sum + ((evs.filter fun e => toL e.p == path).map Ev.n).sum, st.some || evs.any fun e => toL e.p == path⟩
  | [], st => by simp
  | e :: r, st => by
    have h1 : ((k.toNat : Int) == 109) = false := by simpa using hk
    rw [List.foldl_cons, fold_n k path hk r, List.filter_cons]
    unfold tstep
    rw [h1]
    cases hp : (toL e.p == path)
    · simp [hp]
    · simp [hp, Int.add_assoc]

structure EvFit (e : Ev) : Prop where
  fit : Thk.fits (Thk.kindOf (toL e.p)) e.a = true
  p : e.p.size ≤ 20
  v : e.v.size ≤ 20
  n1 : e.n ≤ 1000000000
  n2 : -1000000000 ≤ e.n
theorem atP_eq (p : Thk.Bs) (xs : List Itm) : atP ⟨p.toArray⟩ xs = xs.filter fun x => toL x.p == p := by
  unfold atP
  congr 1
  funext x
  rw [toList_eq, toList_eq]
  rfl
theorem atP_key (p : Thk.Bs) (xs : List Itm) : (atP ⟨p.toArray⟩ xs).map key = (xs.map key).filter fun y => y.1 == p := by
  rw [atP_eq, List.filter_map]
  rfl
theorem tell_eq {es : List Ev} {known : List Bool} {xs : List Itm} (path : Thk.Bs) (hf : ∀ e ∈ es, EvFit e) (hp : (xs.map key).Perm ((evsOf es (aliveTo es known es.length)).map keyEv)) : tellP path xs = tellR es (aliveTo es known es.length) path := by
  have hal : ∀ e ∈ evsOf es (aliveTo es known es.length), effB e.a = true ∧ EvFit e := by
    intro e he
    unfold evsOf at he
    obtain ⟨i, hi, hei⟩ := List.mem_filterMap.1 he
    unfold aliveTo at hi
    have ha := (List.mem_filter.1 hi).2
    unfold alive at ha
    rw [hei] at ha
    simp only [Bool.and_eq_true] at ha
    exact ⟨ha.1.1, hf e (List.mem_of_getElem? hei)⟩
  rw [tellR_evs]
  generalize evsOf es (aliveTo es known es.length) = evs at *
  have hkept : ∀ e ∈ evs, toL e.p = path → (Thk.kindOf path).toNat ≠ 109 ∧ ((Thk.kindOf path).toNat ≠ 102 → (Thk.kindOf path).toNat ≠ 99 → keptVal e.a e.v = e.v) := by
    intro e he hpe
    obtain ⟨h1, h2⟩ := hal e he
    have h3 := h2.fit
    rw [hpe] at h3
    unfold Thk.fits at h3
    unfold effB at h1
    simp only [Bool.or_eq_true, beq_iff_eq] at h1
    unfold keptVal
    refine ⟨fun h => ?_, fun h4 h5 => ?_⟩
    · rw [if_neg (by omega), if_neg (by omega), if_neg (by omega), if_neg (by omega)] at h3
      simp only [beq_iff_eq] at h3
      omega
    · by_cases h6 : (Thk.kindOf path).toNat = 115
      · rw [if_pos h6] at h3
        simp only [Bool.or_eq_true, beq_iff_eq] at h3
        rw [if_pos (by omega)]
      · rw [if_neg h6, if_neg h4] at h3
        by_cases h7 : (Thk.kindOf path).toNat = 114
        · rw [if_pos h7] at h3
          simp only [Bool.or_eq_true, beq_iff_eq] at h3
          rw [if_pos (by omega)]
        · rw [if_neg h7, if_neg h5] at h3
          simp only [beq_iff_eq] at h3
          omega
  have hmem : ∀ y, y ∈ xs.map key ↔ y ∈ evs.map keyEv := fun y => hp.mem_iff
  unfold tellP tellB
  by_cases k1 : (Thk.kindOf path).toNat = 109
  · rw [if_pos k1, if_neg (by omega), if_neg (by omega), fold_m _ path (by omega) evs _ (fun e he hpe => (hkept e he hpe).1 k1)]
    refine (list_eq _ _ fun s => ?_).symm
    simp only [List.mem_map, stepsOf, List.mem_filter]
    constructor
    · rintro ⟨e, ⟨he, h1⟩, rfl⟩
      obtain ⟨x, hx, hk⟩ := List.mem_map.1 ((hmem _).2 (List.mem_map.2 ⟨e, he, rfl⟩))
      have hpp : toL x.p = toL e.p := congrArg (·.1) hk
      exact ⟨⟨(stepSeg path (toL x.p)).toArray⟩, ⟨x, ⟨hx, by rw [hpp]; exact h1⟩, rfl⟩, by rw [hpp]; rfl⟩
    · rintro ⟨_, ⟨x, ⟨hx, h1⟩, rfl⟩, rfl⟩
      obtain ⟨e, he, hk⟩ := List.mem_map.1 ((hmem _).1 (List.mem_map.2 ⟨x, hx, rfl⟩))
      have hpp : toL e.p = toL x.p := congrArg (·.1) hk
      exact ⟨e, ⟨he, by rw [hpp]; exact h1⟩, by rw [hpp]; rfl⟩
  · have k1' : ((Thk.kindOf path).toNat : Int) ≠ 109 := by omega
    rw [if_neg k1, fold_n _ path k1' evs]
    by_cases k2 : (Thk.kindOf path).toNat = 102
    · have k2i : ((Thk.kindOf path).toNat : Int) = 102 := by omega
      rw [if_pos k2, if_pos k2i]
      have : (atP ⟨path.toArray⟩ xs ≠ []) ↔ (false || evs.any fun e => toL e.p == path) = true := by
        rw [Bool.false_or, List.any_eq_true]
        constructor
        · intro h
          obtain ⟨x, hx⟩ := List.exists_mem_of_ne_nil _ h
          rw [atP_eq] at hx
          obtain ⟨hx1, hx2⟩ := List.mem_filter.1 hx
          obtain ⟨e, he, hk⟩ := List.mem_map.1 ((hmem _).1 (List.mem_map.2 ⟨x, hx1, rfl⟩))
          have hpp : toL e.p = toL x.p := congrArg (·.1) hk
          exact ⟨e, he, by rw [hpp]; exact hx2⟩
        · rintro ⟨e, he, h1⟩
          obtain ⟨x, hx, hk⟩ := List.mem_map.1 ((hmem _).2 (List.mem_map.2 ⟨e, he, rfl⟩))
          have hpp : toL x.p = toL e.p := congrArg (·.1) hk
          refine List.ne_nil_of_mem (a := x) ?_
          rw [atP_eq]
          exact List.mem_filter.2 ⟨hx, by rw [hpp]; exact h1⟩
      by_cases h3 : atP ⟨path.toArray⟩ xs ≠ []
      · rw [if_pos h3]
        exact (if_pos (this.1 h3)).symm
      · rw [if_neg h3]
        exact (if_neg (fun h4 => h3 (this.2 h4))).symm
    · have k2i : ¬ ((Thk.kindOf path).toNat : Int) = 102 := by omega
      rw [if_neg k2, if_neg k2i]
      by_cases k3 : (Thk.kindOf path).toNat = 99
      · have k3i : ((Thk.kindOf path).toNat : Int) = 99 := by omega
        rw [if_pos k3, if_pos k3i, digits_itoa]
        congr 1
        have e1 : sumOf (atP ⟨path.toArray⟩ xs) = (((xs.map key).filter fun y => y.1 == path).map fun y => y.2.2.2).sum := by
          rw [← atP_key]; unfold sumOf; rw [List.map_map]; (first | done | rfl)
        have e2 : ((evs.filter fun e => toL e.p == path).map Ev.n).sum = (((evs.map keyEv).filter fun y => y.1 == path).map fun y => y.2.2.2).sum := by
          rw [List.filter_map, List.map_map]; (first | done | rfl)
        rw [e1]
        show _ = 0 + _
        rw [e2, Int.zero_add]
        exact perm_sum ((hp.filter _).map _)
      · have k3i : ¬ ((Thk.kindOf path).toNat : Int) = 99 := by omega
        rw [if_neg k3, if_neg k3i]
        refine (list_eq _ _ fun s => ?_).symm
        simp only [List.mem_map, atP_eq, List.mem_filter]
        constructor
        · rintro ⟨e, ⟨he, h1⟩, rfl⟩
          obtain ⟨x, hx, hk⟩ := List.mem_map.1 ((hmem _).2 (List.mem_map.2 ⟨e, he, rfl⟩))
          have hpp : toL x.p = toL e.p := congrArg (·.1) hk
          have hvv : toL x.v = toL (keptVal e.a e.v) := congrArg (·.2.2.1) hk
          rw [(hkept e he (by simpa using h1)).2 k2 k3] at hvv
          exact ⟨x.v, ⟨x, ⟨hx, by rw [hpp]; exact h1⟩, rfl⟩, hvv⟩
        · rintro ⟨_, ⟨x, ⟨hx, h1⟩, rfl⟩, rfl⟩
          have h1' : (toL x.p == path) = true := h1
          obtain ⟨e, he, hk⟩ := List.mem_map.1 ((hmem _).1 (List.mem_map.2 ⟨x, hx, rfl⟩))
          have hpp : toL e.p = toL x.p := congrArg (·.1) hk
          have hvv : toL (keptVal e.a e.v) = toL x.v := congrArg (·.2.2.1) hk
          rw [← hpp] at h1'
          rw [(hkept e he (by simpa using h1')).2 k2 k3] at hvv
          exact ⟨e, ⟨he, h1'⟩, hvv⟩

theorem txt_read {l : Thk.Bs} {c : Thk.Ch} (h : Thk.read l = .inr c) (he : effB c.act = true) : txtC c = l ∧ l.length = c.path.length + 1 + c.val.length := by
  unfold Thk.read at h
  split at h
  · cases h
  · rename_i h0
    have hle : l.findIdx Thk.isAct ≤ l.length := List.findIdx_le_length
    generalize l.findIdx Thk.isAct = k at *
    have hkl : k < l.length := by omega
    unfold Thk.readAt at h
    split at h
    · cases h
    · split at h
      · cases h
      · have e := operand_inr h
        have hl : l.take k ++ [l.getD k 0] ++ l.drop (k + 1) = l := by
          have h1 : l.drop k = l.getD k 0 :: l.drop (k + 1) := by rw [List.drop_eq_getElem_cons hkl]; simp [hkl]
          rw [List.append_assoc, List.singleton_append, ← h1, List.take_append_drop]
        have p1 : c.path = l.take k := by rw [e]
        have p2 : c.act = l.getD k 0 := by rw [e]
        have p3 : c.val = l.drop (k + 1) := by rw [e]
        refine ⟨?_, ?_⟩
        · rw [← p2] at h
          have hl' : c.path ++ [c.act] ++ c.val = l := by rw [p1, p2, p3]; exact hl
          unfold txtC textB
          have q1 : toL ⟨c.path.toArray⟩ = c.path := rfl
          rw [q1]
          unfold effB at he
          simp only [Bool.or_eq_true, beq_iff_eq] at he
          unfold Thk.operand at h
          by_cases h43 : c.act.toNat = 43 ∨ c.act.toNat = 45 ∨ c.act.toNat = 61
          · unfold keptVal
            rw [if_pos h43, if_neg (by omega), List.append_nil]
            exact hl'
          · rw [if_neg h43] at h
            unfold keptVal
            rw [if_neg h43]
            have q2 : toL ByteArray.empty = [] := rfl
            rw [q2, List.append_nil]
            by_cases h62 : c.act.toNat = 62
            · rw [if_pos h62]
              rw [if_pos h62] at h
              split at h
              · rename_i m hm
                have hn : c.n = m := (congrArg Thk.Ch.n (Sum.inr.inj h)).symm
                rw [hn, (Thk.prog_of_num _ _ hm).2.1, ← p3]
                exact hl'
              · cases h
            · rw [if_neg h62, List.append_nil]
              rw [if_neg h62] at h
              split at h
              · rename_i hv
                rw [← p3] at hv
                rw [hv, List.append_nil] at hl'
                exact hl'
              · cases h
        · rw [p1, p3]
          have := congrArg List.length hl
          simp only [List.length_append, List.length_singleton] at this
          exact this.symm

theorem itsC_wIt {C : Nat → Option Thk.Ch} {xs : List Itm} (hx : SAll (itOf C) xs) (hr : ∀ d c, C d = some c → Thk.read (txtC c) = .inr c) : itsC (wIt C xs) (wIt C xs).length = itOf C := by
  funext d
  unfold itsC
  rw [List.take_length]
  obtain ⟨⟨_, hmem⟩, _⟩ := hx
  cases hf : (wIt C xs).reverse.find? (fun x => x.1 == d) with
  | none =>
    rw [List.find?_eq_none] at hf
    have : C d = none := Classical.byContradiction fun hc => by
      have h1 := (hmem d).2 (itOf_none.2 hc)
      obtain ⟨x, hx1, hx2⟩ := List.mem_map.1 h1
      refine hf (x.n, _) (List.mem_reverse.2 (List.mem_map.2 ⟨x, hx1, rfl⟩)) ?_
      simpa using hx2
    unfold itOf
    rw [this]; (first | done | rfl)
  | some y =>
    have h1 := List.find?_some hf
    have h2 := List.mem_reverse.1 (List.mem_of_find?_eq_some hf)
    obtain ⟨x, hx1, rfl⟩ := List.mem_map.1 h2
    have hd : x.n = d := by simpa using h1
    have hc : C d ≠ none := itOf_none.1 ((hmem d).1 (List.mem_map.2 ⟨x, hx1, hd⟩))
    cases hcd : C d with
    | none => exact absurd hcd hc
    | some c =>
      unfold itOf
      simp only [Option.bind_some, hd, hcd]
      rw [hr d c hcd]
      rfl

structure ByBr (s : ByteArray) (a : Nat) (K2 : Nat → Nat) (C2 : Nat → Option Thk.Ch) : Prop where
  a5 : a ≤ 5
  ex : ∃ rs its, toL s = encF a rs its ∧ s.size ≤ 1000000000 ∧ rs.length ≤ 500 ∧ (∀ x ∈ rs, okR x) ∧ its.length ≤ 500 ∧ (∀ x ∈ its, (who x.1 ≤ 5 ∧ 1 ≤ nth x.1 ∧ nth x.1 ≤ 500) ∧ x.2.length < 16384 ∧ ∃ c, Thk.read x.2 = .inr c ∧ effB c.act = true) ∧ itsC its its.length = itOf C2 ∧ ∀ d, 1 ≤ nth d → ((itsC its its.length d ≠ none ∨ d ∈ flatR rs) ↔ nth d ≤ K2 (who d))
  k5 : ∀ x, K2 x ≤ 500
  cp : ∀ k c, C2 k = some c → c.path.length ≤ 1048576

section
variable {es : List Ev} {D : List Nat} {n : Nat} {known : List Bool} {K : Nat → Nat} {C : Nat → Option Thk.Ch}
theorem Kn.ch (h : Kn es D known K C) (hs : ∀ e ∈ es, ∃ s, Thk.read s = .inr (chOf e)) {k : Nat} {c : Thk.Ch} (hc : C k = some c) : effB c.act = true ∧ ∃ s, Thk.read s = .inr c := by
  obtain ⟨i, e, _, ha, he, hce⟩ := h.sup (d := k) (by rw [hc]; simp)
  rw [hc] at hce
  cases hce
  obtain ⟨⟨y, hy, heff⟩, _⟩ := (alive_iff es known i).1 ha
  rw [he] at hy
  cases hy
  exact ⟨heff, hs e (List.mem_of_getElem? he)⟩
theorem Kn.chs (h : Kn es D known K C) (hs : ∀ e ∈ es, ∃ s, Thk.read s = .inr (chOf e)) : ∀ k c, C k = some c → (c.act = 43 ∨ c.act = 94 ∨ c.act = 61 ∨ c.act = 62) ∧ (-9223372036854775808 ≤ c.n ∧ c.n ≤ 9223372036854775807) ∧ c.path.length ≤ 1048576 ∧ (keptVal c.act ⟨c.val.toArray⟩).size ≤ 1048576 ∧ (txtC c).length ≤ 1000 := by
  intro k c hc
  obtain ⟨heff, s, hr⟩ := h.ch hs hc
  obtain ⟨p1, p2, p3, p4, _⟩ := Thk.read_ok _ _ hr
  obtain ⟨t1, t2⟩ := txt_read hr heff
  have hk := keptVal_size c.act ⟨c.val.toArray⟩
  have hv : (⟨c.val.toArray⟩ : ByteArray).size = c.val.length := by simp [ByteArray.size]
  refine ⟨?_, ⟨by omega, by omega⟩, by omega, by omega, by rw [t1]; omega⟩
  unfold effB at heff
  simp only [Bool.or_eq_true, beq_iff_eq] at heff
  rcases heff with ((h1 | h1) | h1) | h1
  · exact Or.inl (UInt8.toNat_inj.1 h1)
  · exact Or.inr (Or.inl (UInt8.toNat_inj.1 h1))
  · exact Or.inr (Or.inr (Or.inl (UInt8.toNat_inj.1 h1)))
  · exact Or.inr (Or.inr (Or.inr (UInt8.toNat_inj.1 h1)))
theorem Kn.mem (h : Kn es D known K C) {d : Nat} (h1 : 1 ≤ nth d) (h2 : nth d ≤ K (who d)) : d ∈ D := by
  have := (h.all (who d) (nth d) h1 h2).2
  rw [mk_wn] at this
  exact this
theorem Kn.ns (h : Kn es D known K C) (hE : EvD es D n) (he : es.length ≤ 500) : ∀ ns : List Nat, ns.Nodup → (∀ d, d ∈ ns ↔ 1 ≤ nth d ∧ inK K (fun _ => false) d) → ns.length ≤ 500 := by
  intro ns hn hm
  have := nodup_le hn (fun d hd => by
    obtain ⟨h1, h2⟩ := (hm d).1 hd
    unfold inK at h2
    exact h.mem h1 (h2.elim id (fun h3 => by cases h3)))
  rw [hE.len] at this
  omega
theorem Kn.xs (h : Kn es D known K C) (hE : EvD es D n) (he : es.length ≤ 500) {xs : List Itm} (hx : SAll (itOf C) xs) : xs.length ≤ 500 := by
  have := nodup_le hx.1.1 (m := D) (fun d hd => by
    have h1 := itOf_none.1 ((hx.1.2 d).1 hd)
    obtain ⟨i, e, h2, _⟩ := h.sup h1
    exact List.mem_of_getElem? h2)
  rw [hE.len, List.length_map] at this
  omega

theorem flatMap_le {α : Type} (f : α → Thk.Bs) (b : Nat) : ∀ (l : List α), (∀ x ∈ l, (f x).length ≤ b) → (l.flatMap f).length ≤ l.length * b
  | [], _ => by simp
  | x :: r, h => by
    have h1 := flatMap_le f b r (fun y hy => h y (by simp [hy]))
    have h2 := h x (by simp)
    rw [List.flatMap_cons, List.length_append, List.length_cons, Nat.add_mul]
    omega
theorem by_of (h : Kn es D known K C) (hE : EvD es D n) (hn : n ≤ 6) (he : es.length ≤ 500) (hs : ∀ e ∈ es, ∃ s, Thk.read s = .inr (chOf e)) (hK : ∀ x, K x ≤ 500) {s : ByteArray} {a : Nat} (ha : a ≤ 5) {ns : List Nat} {rs : List (Nat × Nat)} {xs : List Itm}
    (h1 : ns.Nodup) (h2 : ∀ d, d ∈ ns ↔ 1 ≤ nth d ∧ inK K (fun _ => false) d) (h3 : Runs ns ns.length rs) (h4 : SAll (itOf C) xs) (h5 : toL s = encF a rs (wIt C xs)) : ByBr s a K C := by
  have hr : ∀ d c, C d = some c → Thk.read (txtC c) = .inr c := fun d c hc => by
    obtain ⟨heff, t, ht⟩ := h.ch hs hc
    rw [(txt_read ht heff).1]; exact ht
  have hit := itsC_wIt h4 hr
  have hfl : flatR rs = ns := by have := h3.flat; rw [List.take_length] at this; exact this
  have hnl := h.ns hE he ns h1 h2
  have hxl := h.xs hE he h4
  have hwl : (wIt C xs).length = xs.length := by unfold wIt; simp
  have hin : ∀ d, d ∈ ns ↔ 1 ≤ nth d ∧ nth d ≤ K (who d) := fun d => by rw [h2]; unfold inK; simp
  have hrl : rs.length ≤ 500 := Nat.le_trans h3.len hnl
  have hsz : s.size ≤ 1000000000 := by
    rw [← toL_length, h5]
    unfold encF encS
    have q1 := encN_len 0
    have q2 := encN_len a
    have q3 := encN_len rs.length
    have q4 := encN_len (wIt C xs).length
    have q5 := flatMap_le encR 6 rs (fun r _ => by
      unfold encR encD
      have := encN_len (who r.1); have := encN_len (nth r.1); have := encN_len r.2
      simp only [List.length_append]; omega)
    have q6 := items_small C (fun k c hc => (h.chs hs k c hc).2.2.2.2) xs
    simp only [List.length_append]
    omega
  refine ⟨ha, ⟨rs, wIt C xs, h5, hsz, hrl, fun r hr2 => ?_, by omega, fun x hx => ?_, hit, fun d hd => ?_⟩, hK, fun k c hc => (h.chs hs k c hc).2.2.1⟩
  · obtain ⟨⟨o1, o2, o3⟩, o4, o5⟩ := h3.ok r hr2
    have hmem : ∀ k, k < r.2 → r.1 + k ∈ ns := fun k hk => by
      rw [← hfl]
      unfold flatR
      exact List.mem_flatMap.2 ⟨r, hr2, by unfold runD; exact List.mem_map.2 ⟨k, List.mem_range.2 hk, rfl⟩⟩
    have m0 := (hin _).1 (hmem 0 (by omega))
    have m1 := (hin _).1 (hmem (r.2 - 1) (by omega))
    rw [Nat.add_zero] at m0
    rw [nth_add (by omega), who_add (by omega)] at m1
    have := hK (who r.1)
    exact ⟨⟨o1, o2, by omega⟩, o4, by omega, o5⟩
  · obtain ⟨y, hy, rfl⟩ := List.mem_map.1 hx
    have hc : C y.n ≠ none := itOf_none.1 ((h4.1.2 y.n).1 (List.mem_map.2 ⟨y, hy, rfl⟩))
    obtain ⟨i, e, hd, _⟩ := h.sup hc
    have ho := hE.ok _ (List.mem_of_getElem? hd)
    cases hcy : C y.n with
    | none => exact absurd hcy hc
    | some c =>
      simp only [hcy]
      have := (h.chs hs _ c hcy).2.2.2.2
      exact ⟨⟨by omega, ho.2.1, ho.2.2⟩, by omega, c, hr _ c hcy, (h.ch hs hcy).1⟩
  · rw [hit, hfl, itOf_none]
    constructor
    · rintro (h6 | h6)
      · obtain ⟨i, e, h7, h8, _⟩ := h.sup h6
        exact (h.vec i d h7).1 ((alive_iff es known i).1 h8).2.1
      · exact ((hin d).1 h6).2
    · intro h6
      exact Or.inr ((hin d).2 ⟨hd, h6⟩)
theorem Kn.itms (h : Kn es D known K C) (hE : EvD es D n) (he : es.length ≤ 500) (hf : ∀ e ∈ es, EvFit e) : ItmsOK (SAll (itOf C)) := by
  have hev : ∀ e ∈ evsOf es (aliveTo es known es.length), e ∈ es := fun e he => by
    obtain ⟨i, _, hei⟩ := List.mem_filterMap.1 he
    exact List.mem_of_getElem? hei
  constructor
  · intro xs hx
    have := h.xs hE he hx
    omega
  · intro xs hx x hxm
    obtain ⟨e, he, hk⟩ := List.mem_map.1 ((h.perm hE hx).mem_iff.1 (List.mem_map.2 ⟨x, hxm, rfl⟩))
    have hfe := hf e (hev e he)
    unfold keyEv key at hk
    simp only [Prod.mk.injEq] at hk
    obtain ⟨h1, _, h3, h4⟩ := hk
    have p1 : x.p.size = e.p.size := by rw [← toL_length, ← toL_length, h1]
    have p2 : x.v.size = (keptVal e.a e.v).size := by rw [← toL_length, ← toL_length, h3]
    have p3 := keptVal_size e.a e.v
    have := hfe.p; have := hfe.v; have := hfe.n1; have := hfe.n2
    exact ⟨by omega, by omega, by omega, by omega⟩
end
end Go.Proofs.YtoiiaankpnhppaaGreatDoor

