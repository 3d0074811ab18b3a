import Derived.Test.YtoiiaankpnhppaaGreatDoorPart03
import Derived.Test.YtoiiaankpnhppaaGreatDoorPart34
set_option linter.unusedVariables false
set_option linter.unusedSimpArgs false
namespace Go.Proofs.YtoiiaankpnhppaaGreatDoor
open Go.RowKit Go.Maps Go.WideMaps

theorem Thk.read_fit (l : Thk.Bs) (c : Thk.Ch) (h : Thk.read l = .inr c) : Thk.fits (Thk.kindOf c.path) c.act = true := by
  unfold Thk.read at h
  split at h
  · cases h
  · unfold Thk.readAt at h
    split at h
    · cases h
    · split at h
      · cases h
      · rename_i h3
        have e := operand_inr h
        rw [e]
        simpa using h3
theorem fit_of {e : Ev} {t : Thk.Bs} (h : Thk.read t = .inr (chOf e)) : EvFit e := by
  obtain ⟨p1, p2, p3, p4, _⟩ := Thk.read_ok _ _ h
  have hf := Thk.read_fit _ _ h
  unfold chOf at p1 p2 p3 p4 hf
  simp only at p1 p2 p3 p4 hf
  exact ⟨hf, by rw [← toL_length]; omega, by rw [← toL_length]; omega, by omega, by omega⟩

def FrTie (es : List Ev) (D : List Nat) (n : Nat) (b : Nat × ByteArray) (f : FrD) : Prop :=
  b.1 = f.dst ∧ b.2 = f.bytes ∧ f.dst < n ∧ f.src < n ∧ f.bytes.size ≤ 1000000000 ∧ (0 < f.ack → toL f.bytes = encA f.src) ∧ (¬ 0 < f.ack → ∃ K2 C2, Kn es D f.known K2 C2 ∧ ByBr f.bytes f.src K2 C2)

structure CluF (w : World) (x : Nat) (S : Nat → Prop) (s : St) (q cap : Nat) (fv : Value) (ds : List RepD) (bs : List (Nat × ByteArray)) (D : List Nat) : Prop where
  clu : CluP w x q cap fv 0 ds bs
  own : ∀ k, S k ↔ k = x ∨ k = q ∨ fv.ownBlock = some k ∨ ∃ j, ∃ h : j < ds.length, ds[j].own k
  len : s.kn.length = ds.length
  evd : EvD s.es D ds.length
  tie : ∀ j (h : j < ds.length), Kn s.es D (s.kn.getD j []) ds[j].K ds[j].C
  mine : ∀ j (h : j < ds.length) d, d ∈ D → who d = j → nth d ≤ ds[j].K j
  sum : sumN ds ds.length = s.es.length
  e500 : s.es.length ≤ 500
  src : ∀ e ∈ s.es, ∃ t, Thk.read t = .inr (chOf e)
  blen : bs.length = s.fs.length
  frs : ∀ j (h : j < bs.length) (h' : j < s.fs.length), FrTie s.es D ds.length bs[j] s.fs[j]
def ProgF (w : World) (x : Nat) (S : Nat → Prop) (s : St) : Prop := ∃ q cap fv ds bs D, CluF w x S s q cap fv ds bs D

theorem CluF.tagS {w : World} {x : Nat} {S : Nat → Prop} {s : St} {q cap : Nat} {fv : Value} {ds : List RepD} {bs : List (Nat × ByteArray)} {D : List Nat} (h : CluF w x S s q cap fv ds bs D) {k : Nat} (hk : S k) {t : TypeId} (ht : Tagged w k t) : t = 74 ∨ t = 76 ∨ t = 112 ∨ t = 92 := by
  rcases (h.own k).1 hk with rfl | rfl | hk | ⟨j, hj, ho⟩
  · exact Or.inl (blk_tag h.clu.blk ht)
  · obtain ⟨cs, r1, _⟩ := h.clu.row
    exact Or.inr (Or.inl (blk_tag r1 ht))
  · exact Or.inr (Or.inr (Or.inr (tag_same ht (h.clu.frT k hk))))
  · exact Or.inr (Or.inr (Or.inl (h.clu.repTag j hj ho ht)))
theorem prog_frame : ProgFrame ProgF := {
  stable := by
    rintro M w w' x S s ⟨q, cap, fv, ds, bs, D, h⟩ hc hm
    exact ⟨q, cap, fv, ds, bs, D, h.clu.chg hc (hm x ((h.own x).2 (Or.inl rfl))) (hm q ((h.own q).2 (Or.inr (Or.inl rfl)))) (fun j hj k hk => hm k ((h.own k).2 (Or.inr (Or.inr (Or.inr ⟨j, hj, hk⟩))))) (fun g hg => hm g ((h.own g).2 (Or.inr (Or.inr (Or.inl hg))))), h.own, h.len, h.evd, h.tie, h.mine, h.sum, h.e500, h.src, h.blen, h.frs⟩
  tags := by
    rintro w x S s k t ⟨q, cap, fv, ds, bs, D, h⟩ hk ht
    have key := h.tagS hk ht
    unfold isRef
    rcases key with rfl | rfl | rfl | rfl <;> decide
  lt := by
    rintro w x S s k ⟨q, cap, fv, ds, bs, D, h⟩ hk
    rcases (h.own k).1 hk with rfl | rfl | hk | ⟨j, hj, ho⟩
    · exact h.clu.blk.lt
    · obtain ⟨cs, r1, _⟩ := h.clu.row
      exact r1.lt
    · exact (h.clu.frT k hk).lt
    · have hr := h.clu.rep j hj
      rcases ho with rfl | ho | ho | ho
      · exact hr.blk.lt
      · exact hr.st.lt k (Or.inl (by rw [ho]))
      · exact hr.st.lt k (Or.inr (Or.inl (by rw [ho])))
      · exact hr.st.lt k (Or.inr (Or.inr (by rw [ho]))) }

theorem ownN_set (ds : List RepD) (k : Nat) (hk : k < ds.length) (d : RepD) (j : Nat) : ownN (ds.set k d) j = if j = k then d.K k else ownN ds j := by
  unfold ownN
  rw [List.getElem?_set]
  by_cases e : k = j
  · subst e; simp [hk]
  · rw [if_neg e, if_neg (fun h => e h.symm)]
theorem sumN_set (ds : List RepD) (k : Nat) (hk : k < ds.length) (d : RepD) : ∀ m, sumN (ds.set k d) m + (if k < m then ds[k].K k else 0) = sumN ds m + (if k < m then d.K k else 0)
  | 0 => by simp [sumN]
  | m + 1 => by
    have ih := sumN_set ds k hk d m
    rw [sumN, sumN, ownN_set ds k hk]
    by_cases e : m = k
    · subst e
      rw [if_pos rfl, if_pos (by omega), if_pos (by omega)]
      rw [if_neg (by omega), if_neg (by omega)] at ih
      rw [ownN_eq ds m hk]
      omega
    · rw [if_neg e]
      by_cases h2 : k < m
      · rw [if_pos h2, if_pos h2] at ih
        rw [if_pos (by omega), if_pos (by omega)]
        omega
      · rw [if_neg h2, if_neg h2] at ih
        rw [if_neg (by omega), if_neg (by omega)]
        omega
theorem sumN_new (rbs : List Nat) : ∀ k, sumN (rbs.map fun b => ⟨b, none, none, none, fun _ => 0, fun _ => none⟩) k = 0
  | 0 => rfl
  | k + 1 => by
    rw [sumN, sumN_new rbs k]
    unfold ownN
    rw [List.getElem?_map]
    cases rbs[k]? <;> simp
theorem getD_set (kn : List (List Bool)) (k : Nat) (hk : k < kn.length) (a : List Bool) (j : Nat) : (kn.set k a).getD j [] = if k = j then a else kn.getD j [] := by
  rw [List.getD_eq_getElem?_getD, List.getElem?_set]
  by_cases e : k = j
  · subst e; simp [hk]
  · rw [if_neg e, if_neg e, List.getD_eq_getElem?_getD]

theorem Kn.congr {es : List Ev} {D : List Nat} {known k2 : List Bool} {K : Nat → Nat} {C : Nat → Option Thk.Ch} (h : Kn es D known K C) (hl : k2.length ≤ es.length) (hk : ∀ i, k2.getD i false = known.getD i false) : Kn es D k2 K C := by
  have ha : ∀ i, alive es k2 i = true ↔ alive es known i = true := fun i => by
    rw [alive_iff, alive_iff, hk]
    refine and_congr_right fun _ => and_congr_right fun _ => ⟨fun h d h1 h2 h3 => h d h1 h2 (by rw [hk]; exact h3), fun h d h1 h2 h3 => h d h1 h2 (by rw [← hk]; exact h3)⟩
  refine ⟨hl, fun i d hd => by rw [hk]; exact h.vec i d hd, h.all, fun d e i he h1 h2 => by rw [hk] at h1 ⊢; exact h.cl d e i he h1 h2, fun i d hd => ?_, h.c2⟩
  rw [h.c1 i d hd]
  by_cases h1 : alive es known i = true
  · rw [if_pos h1, if_pos ((ha i).2 h1)]
  · rw [if_neg h1, if_neg (fun h2 => h1 ((ha i).1 h2))]
theorem Kn.repB {es : List Ev} {D : List Nat} {n : Nat} {known : List Bool} {K : Nat → Nat} {C : Nat → Option Thk.Ch} (h : Kn es D known K C) (hE : EvD es D n) (he : es.length ≤ 500) (hs : ∀ e ∈ es, ∃ t, Thk.read t = .inr (chOf e)) : RepB K C := by
  refine ⟨h.ns hE he, fun w v N hm => ?_, h.chs hs⟩
  have hall : AllOf (itOf C) (D.filter fun d => (C d).isSome) := by
    refine ⟨List.Pairwise.filter _ hE.nd, fun d => ?_⟩
    rw [List.mem_filter, itOf_none]
    constructor
    · rintro ⟨_, h1⟩ h2
      rw [h2] at h1; cases h1
    · intro h1
      obtain ⟨i, e, h2, _⟩ := h.sup h1
      exact ⟨List.mem_of_getElem? h2, by cases hc : C d with
        | none => exact absurd hc h1
        | some c => rfl⟩
  have hx := sAll_of hall (fun n v hv => itOf_item hv)
  have h1 := all_len hm hx
  have h2 := h.xs hE he hx
  omega

section
variable {w w' : World} {x : Nat} {S : Nat → Prop} {s : St} {q cap : Nat} {fv : Value} {ds : List RepD} {bs : List (Nat × ByteArray)} {D : List Nat}
theorem CluF.keep (h : CluF w x S s q cap fv ds bs D) (hc : CluP w' x q cap fv 0 ds bs) : ProgF w' x S s := ⟨q, cap, fv, ds, bs, D, hc, h.own, h.len, h.evd, h.tie, h.mine, h.sum, h.e500, h.src, h.blen, h.frs⟩
theorem CluF.sx (h : CluF w x S s q cap fv ds bs D) (hc : Chg (fun k => k = x) w w') : Chg S w w' := hc.wide (fun k e => (h.own k).2 (Or.inl e))
theorem CluF.done (h : CluF w x S s q cap fv ds bs D) {t : Thk.Bs} {c : Thk.Ch} (hr : Thk.read t = .inr c) {k : Nat} (hk : k < ds.length) (hl : s.es.length < 500) {e : Ev}
    (e1 : toL e.p = c.path) (e2 : e.a = c.act) (e3 : toL e.v = c.val) (e4 : e.n = c.n) (e5 : e.saw = s.kn.getD k []) {io co lo : Nat} (hn : w.heap.size ≤ io ∧ w.heap.size ≤ co ∧ w.heap.size ≤ lo)
    (hc : CluP w' x q cap fv 0 (ds.set k ⟨ds[k].rb, some io, some co, some lo, inc ds[k].K k, stepC ds[k].C c (mkD k (ds[k].K k + 1))⟩) bs) :
    ∃ S', ProgF w' x S' ⟨s.es ++ [e], s.kn.set k (moreOf (s.kn.getD k []) s.es.length), s.fs⟩ ∧ ∀ b, S' b → S b ∨ w.heap.size ≤ b := by
  have hch : chOf e = c := by unfold chOf; rw [e1, e2, e3, e4]
  have hkt := h.tie k hk
  have hKe := hkt.dle h.evd k
  have hK5 : ds[k].K k + 1 ≤ 500 := by omega
  have hwd : who (mkD k (ds[k].K k + 1)) = k := who_mk (by omega)
  have hnd : nth (mkD k (ds[k].K k + 1)) = ds[k].K k + 1 := nth_mk (by omega)
  have hnew : mkD k (ds[k].K k + 1) ∉ D := fun hm => by
    have := h.mine k hk _ hm hwd
    rw [hnd] at this
    omega
  have h6 := h.clu.len
  have hget : ∀ j (hj : j < ds.length), (ds.set k ⟨ds[k].rb, some io, some co, some lo, inc ds[k].K k, stepC ds[k].C c (mkD k (ds[k].K k + 1))⟩)[j]'(by simpa using hj) = if k = j then ⟨ds[k].rb, some io, some co, some lo, inc ds[k].K k, stepC ds[k].C c (mkD k (ds[k].K k + 1))⟩ else ds[j] := fun j hj => by rw [List.getElem_set]
  refine ⟨fun b => b = x ∨ b = q ∨ fv.ownBlock = some b ∨ ∃ j, ∃ h : j < (ds.set k ⟨ds[k].rb, some io, some co, some lo, inc ds[k].K k, stepC ds[k].C c (mkD k (ds[k].K k + 1))⟩).length, (ds.set k ⟨ds[k].rb, some io, some co, some lo, inc ds[k].K k, stepC ds[k].C c (mkD k (ds[k].K k + 1))⟩)[j].own b,
    ⟨q, cap, fv, _, bs, D ++ [mkD k (ds[k].K k + 1)], hc, fun b => Iff.rfl, by simp [h.len], ⟨by simp [h.evd.len], ?_, fun d hd => ?_⟩, fun j hj => ?_, fun j hj d hd hw => ?_, ?_, by simp; omega, fun e' he' => ?_, h.blen, fun j h1 h2 => ?_⟩, fun b hb => ?_⟩
  · rw [List.nodup_append]
    exact ⟨h.evd.nd, by simp, fun a ha b hb e9 => by simp at hb; subst hb; subst e9; exact hnew ha⟩
  · rw [List.length_set]
    rcases List.mem_append.1 hd with h1 | h1
    · exact h.evd.ok d h1
    · simp at h1
      subst h1
      rw [hwd, hnd]
      exact ⟨hk, by omega, by omega⟩
  · have hj' : j < ds.length := by simpa using hj
    rw [getD_set _ _ (by rw [h.len]; exact hk), hget j hj']
    by_cases e9 : k = j
    · subst e9
      rw [if_pos rfl, if_pos rfl]
      exact hkt.mine h.evd e c hch e5 k hK5 hnew
    · rw [if_neg e9, if_neg e9]
      exact (h.tie j hj').other h.evd e _ hnew (by rw [hnd]; omega)
  · have hj' : j < ds.length := by simpa using hj
    rw [hget j hj']
    by_cases e9 : k = j
    · subst e9
      rw [if_pos rfl]
      show nth d ≤ inc ds[k].K k k
      rw [inc_same]
      rcases List.mem_append.1 hd with h1 | h1
      · have := h.mine k hk d h1 hw; omega
      · simp at h1; subst h1; rw [hnd]; omega
    · rw [if_neg e9]
      rcases List.mem_append.1 hd with h1 | h1
      · exact h.mine j hj' d h1 hw
      · simp at h1; subst h1; rw [hwd] at hw; exact absurd hw e9
  · have h1 := sumN_set ds k hk ⟨ds[k].rb, some io, some co, some lo, inc ds[k].K k, stepC ds[k].C c (mkD k (ds[k].K k + 1))⟩ ds.length
    rw [if_pos hk, if_pos hk] at h1
    have h2 := h.sum
    simp only [inc_same] at h1
    rw [List.length_set, List.length_append, List.length_singleton]
    omega
  · rcases List.mem_append.1 he' with h1 | h1
    · exact h.src e' h1
    · simp at h1; subst h1; exact ⟨t, by rw [hch]; exact hr⟩
  · rw [List.length_set]
    obtain ⟨f1, f2, f3, f4, f5, f6, f7⟩ := h.frs j h1 h2
    refine ⟨f1, f2, f3, f4, f5, f6, fun h9 => ?_⟩
    obtain ⟨K2, C2, g1, g2⟩ := f7 h9
    exact ⟨K2, C2, g1.other h.evd e _ hnew (by rw [hnd]; omega), g2⟩
  · rcases hb with rfl | rfl | hb | ⟨j, hj, ho⟩
    · exact Or.inl ((h.own _).2 (Or.inl rfl))
    · exact Or.inl ((h.own _).2 (Or.inr (Or.inl rfl)))
    · exact Or.inl ((h.own _).2 (Or.inr (Or.inr (Or.inl hb))))
    · have hj' : j < ds.length := by simpa using hj
      rw [hget j hj'] at ho
      by_cases e9 : k = j
      · rw [if_pos e9] at ho
        rcases ho with ho | ho | ho | ho
        · exact Or.inl ((h.own _).2 (Or.inr (Or.inr (Or.inr ⟨k, hk, Or.inl ho⟩))))
        · cases ho; exact Or.inr hn.1
        · cases ho; exact Or.inr hn.2.1
        · cases ho; exact Or.inr hn.2.2
      · rw [if_neg e9] at ho
        exact Or.inl ((h.own _).2 (Or.inr (Or.inr (Or.inr ⟨j, hj', ho⟩))))
theorem CluF.sent (h : CluF w x S s q cap fv ds bs D) {fv' : Value} {k k' : Nat} (hk : k < ds.length) (hk' : k' < ds.length) {b : ByteArray} (hb : FrBy b k ds[k].K ds[k].C) (hc : CluP w' x q cap fv' 0 ds (bs ++ [(k', b)])) (hn : ∀ g, fv'.ownBlock = some g → fv.ownBlock = some g ∨ w.heap.size ≤ g) :
    ∃ S', ProgF w' x S' ⟨s.es, s.kn, s.fs ++ [⟨k, k', 0, s.kn.getD k [], b⟩]⟩ ∧ ∀ g, S' g → S g ∨ w.heap.size ≤ g := by
  have h6 := h.clu.len
  refine ⟨fun g => g = x ∨ g = q ∨ fv'.ownBlock = some g ∨ ∃ j, ∃ h : j < ds.length, ds[j].own g, ⟨q, cap, fv', ds, _, D, hc, fun g => Iff.rfl, h.len, h.evd, h.tie, h.mine, h.sum, h.e500, h.src, by simp [h.blen], fun j h1 h2 => ?_⟩, fun g hg => ?_⟩
  · have hbl := h.blen
    by_cases hj : j < bs.length
    · have e1 : (bs ++ [(k', b)])[j] = bs[j] := List.getElem_append_left hj
      have e2 : (s.fs ++ [(⟨k, k', 0, s.kn.getD k [], b⟩ : FrD)])[j] = s.fs[j]'(by omega) := List.getElem_append_left (by omega)
      rw [e1]
      show FrTie _ _ _ _ ((s.fs ++ [(⟨k, k', 0, s.kn.getD k [], b⟩ : FrD)])[j])
      rw [e2]
      exact h.frs j hj (by omega)
    · have hje : j = bs.length := by simp at h1; omega
      have e1 : (bs ++ [(k', b)])[j] = (k', b) := by rw [List.getElem_append_right (by omega)]; simp
      have e2 : (s.fs ++ [(⟨k, k', 0, s.kn.getD k [], b⟩ : FrD)])[j] = ⟨k, k', 0, s.kn.getD k [], b⟩ := by rw [List.getElem_append_right (by omega)]; simp
      rw [e1]
      show FrTie _ _ _ _ ((s.fs ++ [(⟨k, k', 0, s.kn.getD k [], b⟩ : FrD)])[j])
      rw [e2]
      obtain ⟨ns, rs, xs, h3, h4, h5, h7, h8⟩ := hb
      have hby := by_of (h.tie k hk) h.evd h6 h.e500 h.src (h.clu.rep k hk).k500 (show k ≤ 5 by omega) h3 h4 h5 h7 h8
      obtain ⟨_, _, _, hsz, _⟩ := hby.ex
      exact ⟨rfl, rfl, hk', hk, hsz, fun h9 => absurd h9 (by simp), fun _ => ⟨_, _, h.tie k hk, hby⟩⟩
  · rcases hg with rfl | rfl | hg | hg
    · exact Or.inl ((h.own _).2 (Or.inl rfl))
    · exact Or.inl ((h.own _).2 (Or.inr (Or.inl rfl)))
    · exact (hn g hg).imp (fun h9 => (h.own _).2 (Or.inr (Or.inr (Or.inl h9)))) id
    · exact Or.inl ((h.own _).2 (Or.inr (Or.inr (Or.inr hg))))
theorem CluF.came (h : CluF w x S s q cap fv ds bs D) {fv' : Value} (f : FrD) (i k : Nat) (hk : k < ds.length) {K2 : Nat → Nat} {C2 : Nat → Option Thk.Ch} (h2 : Kn s.es D f.known K2 C2) (hsr : f.src < ds.length) {io co lo : Nat} (hnw : w.heap.size ≤ io ∧ w.heap.size ≤ co ∧ w.heap.size ≤ lo) {b : ByteArray} (hb : toL b = encA k)
    (hc : CluP w' x q cap fv' 0 (ds.set k ⟨ds[k].rb, some io, some co, some lo, maxK ds[k].K K2, joinC ds[k].K ds[k].C K2 C2⟩) (bs ++ [(f.src, b)])) (hn : ∀ g, fv'.ownBlock = some g → fv.ownBlock = some g ∨ w.heap.size ≤ g) :
    ∃ S', ProgF w' x S' ⟨s.es, s.kn.set k (delK (s.kn.getD k []) f.known), s.fs ++ [⟨k, f.src, i + 1, [], b⟩]⟩ ∧ ∀ g, S' g → S g ∨ w.heap.size ≤ g := by
  have h6 := h.clu.len
  have hkt := h.tie k hk
  have hmax : maxK ds[k].K K2 k = ds[k].K k := by
    unfold maxK
    by_cases h0 : K2 k = 0
    · omega
    · obtain ⟨g1, g2⟩ := h2.all k (K2 k) (by omega) (Nat.le_refl _)
      have := h.mine k hk _ g2 (who_mk g1)
      rw [nth_mk g1] at this
      omega
  have hget : ∀ j (hj : j < ds.length), (ds.set k ⟨ds[k].rb, some io, some co, some lo, maxK ds[k].K K2, joinC ds[k].K ds[k].C K2 C2⟩)[j]'(by simpa using hj) = if k = j then ⟨ds[k].rb, some io, some co, some lo, maxK ds[k].K K2, joinC ds[k].K ds[k].C K2 C2⟩ else ds[j] := fun j hj => by rw [List.getElem_set]
  refine ⟨fun g => g = x ∨ g = q ∨ fv'.ownBlock = some g ∨ ∃ j, ∃ h : j < (ds.set k ⟨ds[k].rb, some io, some co, some lo, maxK ds[k].K K2, joinC ds[k].K ds[k].C K2 C2⟩).length, (ds.set k ⟨ds[k].rb, some io, some co, some lo, maxK ds[k].K K2, joinC ds[k].K ds[k].C K2 C2⟩)[j].own g,
    ⟨q, cap, fv', _, _, D, hc, fun g => Iff.rfl, by simp [h.len], by rw [List.length_set]; exact h.evd, fun j hj => ?_, fun j hj d hdm hw => ?_, ?_, h.e500, h.src, by simp [h.blen], fun j h1 h3 => ?_⟩, fun g hg => ?_⟩
  · have hj' : j < ds.length := by simpa using hj
    rw [hget j hj']
    show Kn s.es D ((s.kn.set k (delK (s.kn.getD k []) f.known)).getD j []) _ _
    rw [getD_set _ _ (by rw [h.len]; exact hk)]
    by_cases e9 : k = j
    · subst e9
      rw [if_pos rfl, if_pos rfl]
      exact (hkt.join h2).congr (delK_len _ _ _ hkt.len h2.len) (fun i => delK_getD _ _ i)
    · rw [if_neg e9, if_neg e9]
      exact h.tie j hj'
  · have hj' : j < ds.length := by simpa using hj
    rw [hget j hj']
    by_cases e9 : k = j
    · subst e9
      rw [if_pos rfl]
      show nth d ≤ maxK ds[k].K K2 k
      rw [hmax]
      exact h.mine k hk d hdm hw
    · rw [if_neg e9]; exact h.mine j hj' d hdm hw
  · have h1 := sumN_set ds k hk ⟨ds[k].rb, some io, some co, some lo, maxK ds[k].K K2, joinC ds[k].K ds[k].C K2 C2⟩ ds.length
    rw [if_pos hk, if_pos hk] at h1
    have h3 := h.sum
    simp only [hmax] at h1
    rw [List.length_set]
    show _ = s.es.length
    omega
  · rw [List.length_set]
    have hbl := h.blen
    by_cases hj : j < bs.length
    · have e1 : (bs ++ [(f.src, b)])[j] = bs[j] := List.getElem_append_left hj
      have e2 : (s.fs ++ [(⟨k, f.src, i + 1, [], b⟩ : FrD)])[j] = s.fs[j]'(by omega) := List.getElem_append_left (by omega)
      rw [e1]
      show FrTie _ _ _ _ ((s.fs ++ [(⟨k, f.src, i + 1, [], b⟩ : FrD)])[j])
      rw [e2]
      exact h.frs j hj (by omega)
    · have hje : j = bs.length := by simp at h1; omega
      have e1 : (bs ++ [(f.src, b)])[j] = (f.src, b) := by rw [List.getElem_append_right (by omega)]; simp
      have e2 : (s.fs ++ [(⟨k, f.src, i + 1, [], b⟩ : FrD)])[j] = ⟨k, f.src, i + 1, [], b⟩ := by rw [List.getElem_append_right (by omega)]; simp
      rw [e1]
      show FrTie _ _ _ _ ((s.fs ++ [(⟨k, f.src, i + 1, [], b⟩ : FrD)])[j])
      rw [e2]
      have hsz : b.size ≤ 1000000000 := by
        rw [← toL_length, hb]
        unfold encA
        have := encN_len 1; have := encN_len k
        rw [List.length_append]; omega
      exact ⟨rfl, rfl, hsr, hk, hsz, fun _ => hb, fun h9 => absurd (Nat.succ_pos i) h9⟩
  · rcases hg with rfl | rfl | hg | ⟨j, hj, ho⟩
    · exact Or.inl ((h.own _).2 (Or.inl rfl))
    · exact Or.inl ((h.own _).2 (Or.inr (Or.inl rfl)))
    · exact (hn g hg).imp (fun h9 => (h.own _).2 (Or.inr (Or.inr (Or.inl h9)))) id
    · have hj' : j < ds.length := by simpa using hj
      rw [hget j hj'] at ho
      by_cases e9 : k = j
      · rw [if_pos e9] at ho
        rcases ho with ho | ho | ho | ho
        · exact Or.inl ((h.own _).2 (Or.inr (Or.inr (Or.inr ⟨k, hk, Or.inl ho⟩))))
        · cases ho; exact Or.inr hnw.1
        · cases ho; exact Or.inr hnw.2.1
        · cases ho; exact Or.inr hnw.2.2
      · rw [if_neg e9] at ho
        exact Or.inl ((h.own _).2 (Or.inr (Or.inr (Or.inr ⟨j, hj', ho⟩))))
theorem CluF.bsz (h : CluF w x S s q cap fv ds bs D) : ∀ p ∈ bs, p.2.size ≤ 1000000000 := by
  intro p hp
  obtain ⟨j, hj, rfl⟩ := List.getElem_of_mem hp
  obtain ⟨_, f2, _, _, f5, _⟩ := h.frs j hj (by rw [← h.blen]; exact hj)
  rw [f2]; exact f5
end

theorem prog_ok : ProgOK ProgF := {
  bad := by
    intro w r room _ h
    refine Calls.mono (New_bad r room w h) ?_
    rintro e w' ⟨rfl, rfl⟩
    exact ⟨rfl, Below.refl _ _⟩
  good := by
    intro w r room hG h1 h6 h50
    have h4 : 4 ≤ w.heap.size := hG.size
    refine Calls.mono (New_good r room w h4 h1 h6 h50) ?_
    rintro e w' ⟨rv, rbs, rfl, hr, hN⟩
    subst hr
    obtain ⟨q, cap, rfl, hq, hC⟩ := hN.done h4 h1 h6
    refine ⟨w.heap.size, fun k => k = w.heap.size ∨ k = q ∨ (Value.slice none 0 0).ownBlock = some k ∨ ∃ j, ∃ h : j < (rbs.map fun b => (⟨b, none, none, none, fun _ => 0, fun _ => none⟩ : RepD)).length, ((rbs.map fun b => (⟨b, none, none, none, fun _ => 0, fun _ => none⟩ : RepD))[j]).own k, rfl, ⟨q, cap, .slice none 0 0, _, [], [], hC, fun k => Iff.rfl, by simp, ⟨rfl, List.Pairwise.nil, fun d h => absurd h (by simp)⟩, fun j hj => ?_, fun j hj d h => absurd h (by simp), ?_, by simp, fun e he => absurd he (by simp), rfl, fun j h => absurd h (by simp)⟩, fun k hk => ?_, hN.bel⟩
    · have : (List.replicate rbs.length ([] : List Bool)).getD j [] = [] := by
        have hj' : j < rbs.length := by simpa using hj
        simp [hj']
      show Kn [] [] ((List.replicate rbs.length ([] : List Bool)).getD j []) _ _
      rw [this]
      simp only [List.getElem_map]
      exact Kn.nil
    · rw [sumN_new]; (first | done | rfl)
    · rcases hk with rfl | rfl | hk | ⟨j, hj, ho⟩
      · exact Nat.le_refl _
      · exact hq
      · cases hk
      · have hj' : j < rbs.length := by simpa using hj
        simp only [List.getElem_map] at ho
        rcases ho with ho | ho | ho | ho
        · rw [ho]; exact (hN.rep j hj').2
        · cases ho
        · cases ho
        · cases ho
  does := by
    rintro w x S s i t r es' kn' hG ⟨q, cap, fv, ds, bs, D, h⟩ hs hd
    refine Calls.mono (CDo_any w hG x q cap fv ds bs h.clu i t hs) ?_
    rintro e w' ⟨r', ds', rfl, hD, hC, hc⟩
    have hcS : Chg S w w' := hc.wide (fun k hk => (h.own k).2 (by
      rcases hk with rfl | ⟨j, hj, rfl⟩
      · exact Or.inl rfl
      · exact Or.inr (Or.inr (Or.inr ⟨j, hj, Or.inl rfl⟩))))
    have hle := h.len
    have hsm := h.sum
    rcases hD with ⟨hi, rfl, rfl⟩ | ⟨m, hi, hr, rfl, rfl⟩ | ⟨c, hi, hr, hl, rfl, rfl⟩ | ⟨c, k, hk, io, co, lo, rfl, hr, hl, hn, rfl, rfl⟩ <;>
      rcases hd with ⟨h3, rfl, rfl, rfl⟩ | ⟨k', h3, h4, rfl, rfl, rfl⟩ | ⟨c', h3, h4, h5, rfl, rfl, rfl⟩ | ⟨c', e', h3, h4, h5, b1, b2, b3, b4, b5, rfl, rfl, rfl⟩
    · exact ⟨rfl, S, h.keep hC, fun k hk => Or.inl hk, hcS⟩
    · exact absurd h3 (by rw [hle]; exact hi)
    · exact absurd h3 (by rw [hle]; exact hi)
    · exact absurd h3 (by rw [hle]; exact hi)
    · exact absurd (by rw [hle]; exact hi) h3
    · rw [hr] at h4; cases h4; exact ⟨rfl, S, h.keep hC, fun k hk => Or.inl hk, hcS⟩
    · rw [hr] at h4; cases h4
    · rw [hr] at h4; cases h4
    · exact absurd (by rw [hle]; exact hi) h3
    · rw [hr] at h4; cases h4
    · exact ⟨rfl, S, h.keep hC, fun k hk => Or.inl hk, hcS⟩
    · omega
    · exact absurd (by rw [hle]; omega) h3
    · rw [hr] at h4; cases h4
    · omega
    · rw [hr] at h4
      cases h4
      obtain ⟨S', h6, h7⟩ := h.done hr hk h5 b1 b2 b3 b4 b5 hn hC
      exact ⟨rfl, S', h6, h7, hcS⟩
  asks := by
    rintro w x S s i t hG ⟨q, cap, fv, ds, bs, D, h⟩ hs
    have hfit : ∀ e ∈ s.es, EvFit e := fun e he => by obtain ⟨u, hu⟩ := h.src e he; exact fit_of hu
    refine Calls.mono (CAsk_any w hG x q cap fv ds bs h.clu (fun j hj => (h.tie j hj).itms h.evd h.e500 hfit) i t hs) ?_
    rintro e w' ⟨u, r, rfl, hA, hC, hc⟩
    have hle := h.len
    have fin : (askR s.es s.kn i (toL t)).2 = r ∧ toL u = (askR s.es s.kn i (toL t)).1 := by
      unfold askR
      rcases hA with ⟨h1, rfl, rfl⟩ | ⟨h1, h2, rfl, rfl⟩ | ⟨k, hk, rfl, h2, rfl, xs, hx, rfl⟩
      · rw [if_neg (by rw [hle]; exact h1)]; exact ⟨rfl, rfl⟩
      · rw [if_pos (by rw [hle]; exact h1), h2]; exact ⟨rfl, rfl⟩
      · rw [if_pos (by rw [hle]; omega), h2]
        exact ⟨rfl, tell_eq (toL t) hfit ((h.tie k hk).perm h.evd hx)⟩
    refine ⟨u, by rw [fin.1], fin.2, S, h.keep hC, fun k hk => Or.inl hk, h.sx hc⟩
  knows := by
    rintro w x S s i hG ⟨q, cap, fv, ds, bs, D, h⟩
    refine Calls.mono (CKnows_any w x q cap fv ds bs h.clu i) ?_
    rintro e w' ⟨rfl, hC, hc⟩
    have hle := h.len
    have fin : knowsD ds i = knowsR s.kn i := by
      unfold knowsD knowsR
      by_cases hi : 0 ≤ i ∧ i < ds.length
      · rw [if_pos hi, if_pos (by rw [hle]; exact hi)]
        have hk : i.toNat < ds.length := by omega
        rw [(h.tie i.toNat hk).size h.evd h.clu.len (h.clu.rep _ hk).k500, List.getElem?_eq_getElem hk]
        rfl
      · rw [if_neg hi, if_neg (by rw [hle]; exact hi)]
    refine ⟨by rw [fin], S, h.keep hC, fun k hk => Or.inl hk, h.sx hc⟩
  sends := by
    rintro w x S s i j hG ⟨q, cap, fv, ds, bs, D, h⟩
    refine Calls.mono (CSend_any w hG x q cap fv ds bs h.clu (fun j hj => (h.tie j hj).repB h.evd h.e500 h.src) i j) ?_
    rintro e w' ⟨n, r, bs', fv', rfl, hD, hC, hc, hn⟩
    have hle := h.len
    have hbl := h.blen
    have hcS : Chg S w w' := hc.wide (fun k hk => (h.own k).2 (hk.elim Or.inl (fun hk => Or.inr (Or.inr (Or.inl hk)))))
    have same : ∀ {fv2 : Value}, CluP w' x q cap fv2 0 ds bs → (∀ g, fv2.ownBlock = some g → fv.ownBlock = some g ∨ w.heap.size ≤ g) → ∃ S', ProgF w' x S' s ∧ ∀ g, S' g → S g ∨ w.heap.size ≤ g := fun {fv2} hC2 hn2 => ⟨fun g => g = x ∨ g = q ∨ fv2.ownBlock = some g ∨ ∃ j, ∃ h : j < ds.length, ds[j].own g, ⟨q, cap, fv2, ds, bs, D, hC2, fun g => Iff.rfl, h.len, h.evd, h.tie, h.mine, h.sum, h.e500, h.src, h.blen, h.frs⟩, fun g hg => by
      rcases hg with hg | hg | hg | hg
      · exact Or.inl ((h.own _).2 (Or.inl hg))
      · exact Or.inl ((h.own _).2 (Or.inr (Or.inl hg)))
      · exact (hn2 g hg).imp (fun h9 => (h.own _).2 (Or.inr (Or.inr (Or.inl h9)))) id
      · exact Or.inl ((h.own _).2 (Or.inr (Or.inr (Or.inr hg))))⟩
    rcases hD with ⟨hi, rfl, rfl, rfl⟩ | ⟨hi, hij, rfl, rfl, rfl⟩ | ⟨hi, hij, h5, rfl, rfl, rfl⟩ | ⟨k, k', hk, b, rfl, rfl, hk', hij, h5, rfl, rfl, rfl, hb⟩
    · have e1 : sendR s i j = (0, 2) := by unfold sendR; rw [if_neg (by rw [hle]; exact hi)]
      obtain ⟨S', h7, h8⟩ := same hC hn
      exact ⟨by rw [e1], S', s, ⟨rfl, rfl, by rw [e1, if_neg (by decide)]⟩, h7, h8, hcS⟩
    · have e1 : sendR s i j = (0, 1) := by unfold sendR; rw [if_pos (by rw [hle]; exact hi), if_pos hij]
      obtain ⟨S', h7, h8⟩ := same hC hn
      exact ⟨by rw [e1], S', s, ⟨rfl, rfl, by rw [e1, if_neg (by decide)]⟩, h7, h8, hcS⟩
    · have e1 : sendR s i j = (0, 7) := by unfold sendR; rw [if_pos (by rw [hle]; exact hi), if_neg hij, if_pos (by omega)]
      obtain ⟨S', h7, h8⟩ := same hC hn
      exact ⟨by rw [e1], S', s, ⟨rfl, rfl, by rw [e1, if_neg (by decide)]⟩, h7, h8, hcS⟩
    · have e1 : sendR s (k : Int) (k' : Int) = (((bs.length + 1 : Nat) : Int), 0) := by unfold sendR; rw [if_pos (by rw [hle]; omega), if_neg hij, if_neg (by omega), hbl]; (first | done | rfl)
      obtain ⟨S', h7, h8⟩ := h.sent hk hk' hb hC hn
      exact ⟨by rw [e1], S', ⟨s.es, s.kn, s.fs ++ [⟨k, k', 0, s.kn.getD k [], b⟩]⟩, ⟨rfl, rfl, by rw [e1, if_pos rfl]; exact ⟨b, rfl⟩⟩, h7, h8, hcS⟩
  frame := by
    rintro w x S s f hG ⟨q, cap, fv, ds, bs, D, h⟩
    refine Calls.mono (CFrame_any w x q cap fv ds bs h.clu h.bsz f) ?_
    rintro e w' ⟨rfl, hC, hc⟩
    have hbl := h.blen
    have fin : frameD bs f = frameR s f := by
      unfold frameD frameR frNo
      by_cases hf : 1 ≤ f ∧ f ≤ bs.length
      · rw [if_pos hf, if_pos (by rw [← hbl]; exact hf)]
        have h1 : f.toNat - 1 < bs.length := by omega
        have h2 : f.toNat - 1 < s.fs.length := by omega
        obtain ⟨_, f2, _⟩ := h.frs _ h1 h2
        rw [List.getElem?_eq_getElem h1, List.getElem?_eq_getElem h2]
        simp only [Option.map_some, Option.getD_some]
        rw [f2]
      · rw [if_neg hf, if_neg (by rw [← hbl]; exact hf)]
    refine ⟨by rw [fin], S, h.keep hC, fun k hk => Or.inl hk, h.sx hc⟩
  dels := by
    rintro w x S s f hG ⟨q, cap, fv, ds, bs, D, h⟩
    have hbl := h.blen
    by_cases hf : 1 ≤ f ∧ f ≤ bs.length
    · obtain ⟨i, rfl⟩ : ∃ i : Nat, f = (i : Int) + 1 := ⟨(f - 1).toNat, by omega⟩
      have hi : i < bs.length := by omega
      have hi' : i < s.fs.length := by omega
      have hno : frNo s ((i : Int) + 1) = some s.fs[i] := by
        unfold frNo
        rw [if_pos (by omega), show ((i : Int) + 1).toNat - 1 = i by omega, List.getElem?_eq_getElem hi']
      obtain ⟨f1, f2, f3, f4, f5, f6, f7⟩ := h.frs i hi hi'
      have hdel : ∀ (n r : Int), delR s ((i : Int) + 1) = (n, r) → DelTo s ((i : Int) + 1) s → ∀ wx, CluP wx x q cap fv 0 ds bs → Chg (fun k => k = x) w wx → (Ending.returned (.tuple #[.int .i64 n, .int .i64 r]) : Ending) = .returned (.tuple #[.int .i64 (delR s ((i : Int) + 1)).1, .int .i64 (delR s ((i : Int) + 1)).2]) ∧ ∃ S' s', DelTo s ((i : Int) + 1) s' ∧ ProgF wx x S' s' ∧ (∀ k, S' k → S k ∨ w.heap.size ≤ k) ∧ Chg S w wx := fun n r e1 e2 wx hC hc => ⟨by rw [e1], S, s, e2, h.keep hC, fun k hk => Or.inl hk, h.sx hc⟩
      by_cases ha : 0 < s.fs[i].ack
      · have e1 : delR s ((i : Int) + 1) = (0, 0) := by unfold delR; rw [hno]; exact if_pos ha
        have e2 : DelTo s ((i : Int) + 1) s := ⟨rfl, by rw [hno]; dsimp only; rw [if_pos (Or.inl ha)]; exact ⟨rfl, rfl⟩⟩
        refine Calls.mono (CDel_of w x q cap fv ds bs h.clu i hi (fun k => k = x) rfl (fun n r wx => n = 0 ∧ r = 0 ∧ CluP wx x q cap fv 0 ds bs ∧ Chg (fun k => k = x) w wx) (fun wx hx hc => ?_)) ?_
        · refine Calls.mono (come_ack wx x _ _ s.fs[i].src (by have := h.clu.len; omega) (by rw [f2]; exact f6 ha)) ?_
          rintro e w' ⟨rfl, hb⟩
          exact ⟨0, 0, fv, ds, bs, rfl, hx.below hb, fun h1 h2 => ⟨rfl, rfl, h1, h2⟩, hc.below hb⟩
        · rintro e w' ⟨n, r, rfl, rfl, rfl, h1, h2⟩
          exact hdel 0 0 e1 e2 w' h1 h2
      · obtain ⟨K2, C2, g1, g2⟩ := f7 ha
        by_cases h5 : 500 ≤ bs.length
        · have e1 : delR s ((i : Int) + 1) = (0, 7) := by unfold delR; rw [hno]; exact (if_neg ha).trans (if_pos (by omega))
          have e2 : DelTo s ((i : Int) + 1) s := ⟨rfl, by rw [hno]; dsimp only; rw [if_pos (Or.inr (show 500 ≤ s.fs.length by omega))]; exact ⟨rfl, rfl⟩⟩
          refine Calls.mono (CDel_of w x q cap fv ds bs h.clu i hi (fun k => k = x) rfl (fun n r wx => n = 0 ∧ r = 7 ∧ CluP wx x q cap fv 0 ds bs ∧ Chg (fun k => k = x) w wx) (fun wx hx hc => ?_)) ?_
          · refine Calls.mono (come_full wx (hG.chg4 hc (fun k e => by subst e; exact h.clu.x4)) x q cap fv ds bs hx _ _ s.fs[i].src K2 C2 (by rw [f2]; exact g2) h5) ?_
            rintro e w' ⟨rfl, hb⟩
            exact ⟨0, 7, fv, ds, bs, rfl, hx.below hb, fun h1 h2 => ⟨rfl, rfl, h1, h2⟩, hc.below hb⟩
          · rintro e w' ⟨n, r, rfl, rfl, rfl, h1, h2⟩
            exact hdel 0 7 e1 e2 w' h1 h2
        · have e1 : delR s ((i : Int) + 1) = (((bs.length + 1 : Nat) : Int), 0) := by
            unfold delR; rw [hno]
            refine ((if_neg ha).trans (if_neg (by omega))).trans ?_
            rw [hbl]; (first | done | rfl)
          refine Calls.mono (CDel_of w x q cap fv ds bs h.clu i hi S ((h.own x).2 (Or.inl rfl)) (fun n r wx => n = ((bs.length + 1 : Nat) : Int) ∧ r = 0 ∧ Chg S w wx ∧ ∃ S' b, ProgF wx x S' ⟨s.es, s.kn.set s.fs[i].dst (delK (s.kn.getD s.fs[i].dst []) s.fs[i].known), s.fs ++ [⟨s.fs[i].dst, s.fs[i].src, i + 1, [], b⟩]⟩ ∧ ∀ g, S' g → S g ∨ w.heap.size ≤ g) (fun wx hx hc => ?_)) ?_
          · rw [f1, f2]
            refine Calls.mono (come_br wx (hG.chg4 hc (fun k e => by subst e; exact h.clu.x4)) x q cap fv ds bs hx s.fs[i].dst f3 _ s.fs[i].src K2 C2 g2 (by omega) ((h.tie _ f3).same g1)) ?_
            rintro e w' ⟨io, co, lo, b, fv', rfl, hbb, hC', hnw, hc', hn'⟩
            have hcS : Chg S w w' := (hc.wide (fun k e => (h.own k).2 (Or.inl e))).trans (hc'.wide (fun k hk => (h.own k).2 (by
              rcases hk with hk | hk | hk
              · exact Or.inl hk
              · exact Or.inr (Or.inr (Or.inl hk))
              · exact Or.inr (Or.inr (Or.inr ⟨_, f3, Or.inl hk⟩)))))
            have hz := hc.size
            refine ⟨_, _, fv', _, _, rfl, hC', fun h1 h2 => ⟨rfl, rfl, h2, ?_⟩, hcS⟩
            obtain ⟨S', h7, h8⟩ := h.came s.fs[i] i s.fs[i].dst f3 g1 f4 (io := io) (co := co) (lo := lo) ⟨by omega, by omega, by omega⟩ hbb h1 (fun g hg => (hn' g hg).imp id (fun h9 => Nat.le_trans hz h9))
            exact ⟨S', b, h7, h8⟩
          · rintro e w' ⟨n, r, rfl, rfl, rfl, h1, S', b, h2, h3⟩
            refine ⟨by rw [e1], S', ⟨s.es, s.kn.set s.fs[i].dst (delK (s.kn.getD s.fs[i].dst []) s.fs[i].known), s.fs ++ [⟨s.fs[i].dst, s.fs[i].src, i + 1, [], b⟩]⟩, ⟨rfl, ?_⟩, h2, h3, h1⟩
            rw [hno]
            dsimp only
            rw [if_neg (show ¬ (0 < s.fs[i].ack ∨ 500 ≤ s.fs.length) by omega)]
            exact ⟨rfl, b, rfl⟩
    · have hno : frNo s f = none := by unfold frNo; rw [if_neg (by rw [← hbl]; exact hf)]
      refine Calls.mono (CDel_bad w x q cap fv ds bs h.clu f hf) ?_
      rintro e w' ⟨rfl, hC, hc⟩
      exact ⟨by unfold delR; rw [hno], S, s, ⟨rfl, by rw [hno]; exact ⟨rfl, rfl⟩⟩, h.keep hC, fun k hk => Or.inl hk, h.sx hc⟩
  fsz := by
    rintro w x S s f g ⟨q, cap, fv, ds, bs, D, h⟩ hg
    unfold frNo at hg
    by_cases hf : 1 ≤ f ∧ f ≤ s.fs.length
    · rw [if_pos hf] at hg
      have h2 : f.toNat - 1 < s.fs.length := by omega
      rw [List.getElem?_eq_getElem h2] at hg
      cases hg
      exact (h.frs _ (by rw [h.blen]; exact h2) h2).2.2.2.2.1
    · rw [if_neg hf] at hg; cases hg
  flen := by
    rintro w x S s ⟨q, cap, fv, ds, bs, D, h⟩
    have := h.clu.b500
    have := h.blen
    omega }
end Go.Proofs.YtoiiaankpnhppaaGreatDoor

