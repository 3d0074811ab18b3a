import Derived.Maps.OwnSet
import Derived.Maps.OwnOps
import Derived.Maps.RangeWalk
import Derived.Maps.Ext
import Derived.DeepKeys4
import Derived.WalkKit
import Derived.WalkSpells
import Derived.Deep.LoopGhost
import Derived.Test.YtoiiaankpnhppaaGreatDoorPart03
set_option linter.unusedVariables false
set_option linter.unusedSimpArgs false
namespace Go.Proofs.YtoiiaankpnhppaaGreatDoor
open Go.RowKit Go.Maps Go.ChangeMaps Go.MapKept

def idR (v : Value) : Option (DataW Value × List MemPlace) := some (.held v, [])

def Says (P : Program) (k : TypeId) (D : DataW Value) (m : Value → Option Value) : Prop :=
  (∀ key kl, keyOf P k key = some kl → Maps.has D kl = (m key).isSome ∧ ∀ v, m key = some v → ∀ z, D.atKey kl z = .held v) ∧ ∀ key, (m key).isSome = true → ∃ kl, keyOf P k key = some kl

def MapV (P : Program) (k : TypeId) (w : World) (b N : Nat) (m : Value → Option Value) : Prop := ∃ D, w.ownsMap P k idR b N D ∧ Maps.size D = N ∧ Says P k D m

def RangeV (P : Program) (k : TypeId) (w : World) (b r N : Nat) (m : Value → Option Value) (left : Value → Prop) (cnt : Nat) : Prop :=
  ∃ D lf, w.ranges P k idR b r N D lf cnt ∧ Maps.size D = N ∧ Says P k D m ∧ (∀ key kl, keyOf P k key = some kl → (lf kl = true ↔ left key)) ∧ ∀ key, left key → ∃ kl, keyOf P k key = some kl

open Classical in
noncomputable def upd (m : Value → Option Value) (key v : Value) : Value → Option Value := fun x => if x = key then some v else m x
open Classical in
noncomputable def era (m : Value → Option Value) (key : Value) : Value → Option Value := fun x => if x = key then none else m x
theorem upd_same (m : Value → Option Value) (key v : Value) : upd m key v key = some v := by simp [upd]
theorem upd_other {m : Value → Option Value} {key v x : Value} (h : x ≠ key) : upd m key v x = m x := by simp [upd, h]
theorem era_same (m : Value → Option Value) (key : Value) : era m key key = none := by simp [era]
theorem era_other {m : Value → Option Value} {key x : Value} (h : x ≠ key) : era m key x = m x := by simp [era, h]

variable {P : Program} {k : TypeId} {w : World} {b r N cnt : Nat} {m : Value → Option Value} {left : Value → Prop}

theorem own_tight {D : DataW Value} {n : Nat} (h : w.ownsMap P k idR b n D) : w.ownsMap P k idR b (Maps.size D) D := by
  obtain ⟨es, clock, hb, F, hs, hD⟩ := h
  refine ⟨es, clock, hb, F, ?_, hD⟩
  rw [hD]; simp [Maps.size, length_sorted]

theorem MapV.lt (h : MapV P k w b N m) : b < w.heap.size := by obtain ⟨D, h1, _⟩ := h; exact h1.lt
theorem MapV.kept {w' : World} {row : Option Nat} (h : MapV P k w b N m) (hg : w.grownBy w' row) (hne : some b ≠ row) : MapV P k w' b N m := by
  obtain ⟨D, h1, h2⟩ := h; exact ⟨D, h1.kept hg hne, h2⟩
theorem MapV.block {w' : World} (h : MapV P k w b N m) (hb : w'.heap[b]? = w.heap[b]?) : MapV P k w' b N m := by
  obtain ⟨D, ⟨es, clock, h1, r⟩, h2⟩ := h; exact ⟨D, ⟨es, clock, hb.trans h1, r⟩, h2⟩
theorem RangeV.block {w' : World} (h : RangeV P k w b r N m left cnt) (hb : w'.heap[b]? = w.heap[b]?) (hr : w'.heap[r]? = w.heap[r]?) : RangeV P k w' b r N m left cnt := by
  obtain ⟨D, lf, ⟨es, clock, since, seen, c0, h1, F, hs, hD, h2, rest⟩, h3⟩ := h
  exact ⟨D, lf, ⟨es, clock, since, seen, c0, hb.trans h1, F, hs, hD, hr.trans h2, rest⟩, h3⟩
theorem RangeV.map (h : RangeV P k w b r N m left cnt) : MapV P k w b N m := by obtain ⟨D, lf, h1, h2, h3, _⟩ := h; exact ⟨D, h1.owns, h2, h3⟩
theorem RangeV.left_eq (h : RangeV P k w b r N m left cnt) : w.rangeLeft b r = cnt := by obtain ⟨D, lf, h1, _⟩ := h; exact h1.left_eq
theorem RangeV.ne (h : RangeV P k w b r N m left cnt) : r ≠ b := by obtain ⟨D, lf, h1, _⟩ := h; exact h1.ne
theorem RangeV.lt (h : RangeV P k w b r N m left cnt) : r < w.heap.size := by obtain ⟨D, lf, h1, _⟩ := h; exact h1.lt
theorem MapV.noTag {t : TypeId} {cur : Array Value} {fz : Nat × Nat} (h : MapV P k w b N m) : w.heap[b]? ≠ some (.cells cur t fz) := by
  obtain ⟨D, ⟨es, clock, h1, r⟩, h2⟩ := h; rw [h1]; intro e; cases e

theorem MapV.made (w : World) (P : Program) (k : TypeId) : MapV P k (w.alloc (.map #[] 0)) w.heap.size 0 (fun _ => none) :=
  ⟨_, World.ownsMap_made w P k idR, rfl, fun key kl _ => ⟨rfl, fun v h => by cases h⟩, fun key h => by cases h⟩

theorem Says.at {D : DataW Value} (h : Says P k D m) {key : Value} {kl : Lit} (hk : keyOf P k key = some kl) (z : Value) : D.atKey kl (.held z) = .held ((m key).getD z) := by
  obtain ⟨h1, h2⟩ := h.1 key kl hk
  cases hm : m key with
  | none => rw [hm] at h1; exact atKey_of_not_has h1 _
  | some v => exact h2 v hm _

theorem MapV.look {t e : TypeId} (h : MapV P k w b N m) (K : Keyed P k) (ht : P.underlying t = some (.map k e)) {z : Value} (hz : (zeroValue e).run P w = .ok z w) {key : Value} {kl : Lit} (hk : keyOf P k key = some kl) :
    (Instr.lookup t (.map (some b)) key false).run P w = .ok ((m key).getD z) w := by
  obtain ⟨D, h1, _, h2⟩ := h
  obtain ⟨v, ps, hr, hv⟩ := h1.lookup K ht hz (show idR z = some (.held z, []) from rfl) hk
  rw [h2.at hk z] at hv
  simp only [idR, Option.some.injEq, Prod.mk.injEq, DataW.held.injEq] at hv
  rw [hr, hv.1]

theorem MapV.look_ok {t e : TypeId} (h : MapV P k w b N m) (K : Keyed P k) (ht : P.underlying t = some (.map k e)) {z : Value} (hz : (zeroValue e).run P w = .ok z w) {key : Value} {kl : Lit} (hk : keyOf P k key = some kl) :
    (Instr.lookup t (.map (some b)) key true).run P w = .ok (.tuple #[(m key).getD z, .bool (m key).isSome]) w := by
  obtain ⟨D, h1, _, h2⟩ := h
  obtain ⟨v, ps, hr, hv⟩ := h1.look_ok K ht hz (show idR z = some (.held z, []) from rfl) hk
  rw [h2.at hk z] at hv
  simp only [idR, Option.some.injEq, Prod.mk.injEq, DataW.held.injEq] at hv
  rw [hr, hv.1, (h2.1 key kl hk).1]

theorem MapV.len {t e : TypeId} (h : MapV P k w b N m) (ht : P.underlying t = some (.map k e)) (ty : TypeId) : (Builtin.len_ #[t] ty #[.map (some b)]).run P w = .ok (.int .i64 (N : Int)) w := by
  obtain ⟨D, h1, h2, _⟩ := h
  rw [h1.len ht ty, h2]

theorem MapV.zero (h : MapV P k w b N m) (K : Keyed P k) (h0 : ∀ key, m key = none) : N = 0 := by
  obtain ⟨D, h1, h2, h3⟩ := h
  obtain ⟨es, clock, hb, F, hs, rfl⟩ := h1
  rw [← h2]
  simp only [Maps.size, length_sorted, List.length_map, Array.length_toList]
  rcases Nat.eq_zero_or_pos es.size with h | h
  · exact h
  · exfalso
    obtain ⟨x, hx⟩ : ∃ x, x ∈ es.toList := ⟨es[0], by simp⟩
    obtain ⟨y, hy⟩ := F.reads x hx
    have hkey := WideElems.rd_key hy
    have hh := (h3.1 _ _ hkey).1
    rw [h0] at hh
    have : Maps.has (DataW.map ((es.toList.map (WideElems.rg P k idR)).foldr DataW.insert [])) y.1 = true :=
      List.any_eq_true.2 ⟨WideElems.rg P k idR x, mem_sorted.2 (List.mem_map.2 ⟨x, hx, rfl⟩), by rw [WideElems.rg_of hy]; exact WideAt.sameKey_self (K.key hkey)⟩
    rw [this] at hh
    cases hh

theorem MapV.store {t e : TypeId} (h : MapV P k w b N m) (K : Keyed P k) (ht : P.underlying t = some (.map k e)) (hn : N < maxLen) {key : Value} (val : Value) {kl : Lit} (hk : keyOf P k key = some kl) :
    ∃ w', (Instr.mapUpdate t (.map (some b)) key val).run P w = .ok () w' ∧ MapV P k w' b (if (m key).isSome then N else N + 1) (upd m key val) ∧ w.grownBy w' (some b) ∧ w'.heap.size = w.heap.size := by
  obtain ⟨D, h1, h2, h3⟩ := h
  have tidy := h1.tidy K
  have hisl := K.key hk
  obtain ⟨w', hr, h4, h5⟩ := h1.store K ht hn hk (show idR val = some (.held val, []) from rfl)
  have hsz : w'.heap.size = w.heap.size := by obtain ⟨_, _, _, _, _, rfl⟩ := h5; simp [setBlock]
  have hN : Maps.size (D.put kl (.held val)) = if (m key).isSome then N else N + 1 := by rw [size_put tidy, (h3.1 key kl hk).1, h2]
  refine ⟨w', hr, ⟨_, hN ▸ own_tight h4, hN, ?_, ?_⟩, h5.grown, hsz⟩
  · intro key2 kl2 hk2
    by_cases e : key2 = key
    · subst e
      rw [hk] at hk2; cases hk2
      rw [upd_same]
      exact ⟨has_put_same tidy.isMap hisl _, fun v hv z => by cases hv; exact atKey_put_same tidy.isMap hisl _ _⟩
    · have hne : kl2 ≠ kl := fun e2 => e (K.inj hk2 (e2 ▸ hk))
      rw [upd_other e]
      exact ⟨(has_put_other hne _).trans (h3.1 key2 kl2 hk2).1, fun v hv z => (atKey_put_other hne _ _).trans ((h3.1 key2 kl2 hk2).2 v hv z)⟩
  · intro key2 h
    by_cases e : key2 = key
    · subst e; exact ⟨kl, hk⟩
    · rw [upd_other e] at h; exact h3.2 key2 h

theorem MapV.drop {t e : TypeId} (h : MapV P k w b N m) (K : Keyed P k) (ht : P.underlying t = some (.map k e)) {key : Value} {kl : Lit} (hk : keyOf P k key = some kl) (ty : TypeId) :
    ∃ w', (Builtin.delete_ #[t, k] ty #[.map (some b), key]).run P w = .ok (.tuple #[]) w' ∧ MapV P k w' b (if (m key).isSome then N - 1 else N) (era m key) ∧ w.grownBy w' (some b) ∧ w'.heap.size = w.heap.size := by
  obtain ⟨D, h1, h2, h3⟩ := h
  have tidy := h1.tidy K
  obtain ⟨w', hr, h4, h5⟩ := h1.drop K ht hk ty
  have hsz : w'.heap.size = w.heap.size := by obtain ⟨_, _, _, _, _, rfl⟩ := h5; simp [setBlock]
  have hN : Maps.size (D.del kl) = if (m key).isSome then N - 1 else N := by
    have := size_del (k := kl) tidy
    rw [(h3.1 key kl hk).1, h2] at this
    split at this <;> simp_all <;> omega
  refine ⟨w', hr, ⟨_, hN ▸ own_tight h4, hN, ?_, ?_⟩, h5.grown, hsz⟩
  · intro key2 kl2 hk2
    by_cases e : key2 = key
    · subst e
      rw [hk] at hk2; cases hk2
      rw [era_same]
      exact ⟨has_del_same, fun v hv => by cases hv⟩
    · have hne : kl2 ≠ kl := fun e2 => e (K.inj hk2 (e2 ▸ hk))
      rw [era_other e]
      exact ⟨(has_del_other hne).trans (h3.1 key2 kl2 hk2).1, fun v hv z => (atKey_del_other hne _).trans ((h3.1 key2 kl2 hk2).2 v hv z)⟩
  · intro key2 h
    by_cases e : key2 = key
    · subst e; exact ⟨kl, hk⟩
    · rw [era_other e] at h; exact h3.2 key2 h

theorem MapV.range {t e : TypeId} (h : MapV P k w b N m) (K : Keyed P k) (ht : P.underlying t = some (.map k e)) :
    ∃ w', (Instr.range t (.map (some b))).run P w = .ok (.pointer (some ⟨w.heap.size, 0, none⟩)) w' ∧ RangeV P k w' b w.heap.size N m (fun key => (m key).isSome = true) N ∧ w.grownBy w' none ∧ w'.heap.size = w.heap.size + 1 := by
  obtain ⟨D, h1, h2, h3⟩ := h
  obtain ⟨w', hr, h4, h5, h6⟩ := h1.range K ht
  exact ⟨w', hr, ⟨D, _, h2 ▸ h4, h2, h3, fun key kl hk => by rw [(h3.1 key kl hk).1], h3.2⟩, h5, h6⟩

theorem RangeV.next (h : RangeV P k w b r N m left cnt) (K : Keyed P k) (ty : TypeId) :
    (cnt = 0 ∧ (∀ key, ¬ left key) ∧ (Instr.next (.pointer (some ⟨r, 0, none⟩)) false ty).run P w = .ok (.tuple #[.bool false]) w) ∨
    ∃ key v w' cnt', left key ∧ m key = some v ∧ (Instr.next (.pointer (some ⟨r, 0, none⟩)) false ty).run P w = .ok (.tuple #[.bool true, key, v]) w' ∧
      RangeV P k w' b r N m (fun x => left x ∧ x ≠ key) cnt' ∧ cnt' < cnt ∧ w.grownBy w' (some r) ∧ w'.heap.size = w.heap.size ∧ (Instr.entry (.pointer (some ⟨r, 0, none⟩))).run P w' = .ok (.tuple #[key, v]) w' := by
  obtain ⟨D, lf, h1, h2, h3, h4, h5⟩ := h
  rcases h1.next K ty with ⟨h0, hl, hrun⟩ | ⟨key, v, kl, y, w', cnt', hkey, hlk, hv, hat, hrun, hrg, hlt, hgr, hsz, hen⟩
  · refine Or.inl ⟨h0, fun key hk => ?_, hrun⟩
    obtain ⟨kl, hkl⟩ := h5 key hk
    have := (h4 key kl hkl).2 hk
    rw [hl] at this; cases this
  · simp only [idR, Option.some.injEq] at hv
    subst hv
    have hmv : m key = some v := by
      have hh := (h3.1 key kl hkey).1
      rw [has_true_of_atKey hat] at hh
      obtain ⟨u, hu⟩ := Option.isSome_iff_exists.1 hh.symm
      have := (h3.1 key kl hkey).2 u hu (.held v)
      rw [hat] at this
      cases this
      exact hu
    refine Or.inr ⟨key, v, w', cnt', (h4 key kl hkey).1 hlk, hmv, hrun, ⟨D, _, hrg, h2, h3, ?_, fun x hx => h5 x hx.1⟩, hlt, hgr, hsz, hen⟩
    intro key2 kl2 hk2
    by_cases e : key2 = key
    · subst e
      rw [hkey] at hk2; cases hk2
      simp [WideAt.sameKey_self (K.key hkey)]
    · have hne : kl2 ≠ kl := fun e2 => e (K.inj hk2 (e2 ▸ hkey))
      simp only [sameKey_ne hne, Bool.not_false, Bool.and_true]
      rw [h4 key2 kl2 hk2]
      exact ⟨fun h => ⟨h, e⟩, fun h => h.1⟩

/-! ### at the operation, for the walk -/
section
variable {ops : Array Oper} {rest : List Oper} {o : Oper} {a : Act} {Q : Exit → Act → World → Prop}

theorem wpList_look (hg : o.guard = none) (mo x : Operand) (t : TypeId) (hop : o.op = Op.lookup t mo x false) (e : TypeId) (K : Keyed P k) (ht : P.underlying t = some (.map k e)) {z : Value} (hz : (zeroValue e).run P w = .ok z w)
    (hm : a.eval mo = .map (some b)) (h : MapV P k w b N m) (key : Value) (kl : Lit) (hx : a.eval x = key) (hk : keyOf P k key = some kl) (u : Value) (hu : (m key).getD z = u)
    (hK : wpList P ops Q rest (a.put o.dst u) w) : wpList P ops Q (o :: rest) a w := by
  refine wpList_plain hg fun K' hK' => ?_
  unfold Oper.wp
  simp [execOp, hop, hm, hx, h.look K ht hz hk, hu, Result.andThen]
  exact hK' _ _ hK

theorem wpList_look_ok (hg : o.guard = none) (mo x : Operand) (t : TypeId) (hop : o.op = Op.lookup t mo x true) (e : TypeId) (K : Keyed P k) (ht : P.underlying t = some (.map k e)) {z : Value} (hz : (zeroValue e).run P w = .ok z w)
    (hm : a.eval mo = .map (some b)) (h : MapV P k w b N m) (key : Value) (kl : Lit) (hx : a.eval x = key) (hk : keyOf P k key = some kl) (u : Value) (hu : (m key).getD z = u) (c : Bool) (hc : (m key).isSome = c)
    (hK : wpList P ops Q rest (a.put o.dst (.tuple #[u, .bool c])) w) : wpList P ops Q (o :: rest) a w := by
  refine wpList_plain hg fun K' hK' => ?_
  unfold Oper.wp
  simp [execOp, hop, hm, hx, h.look_ok K ht hz hk, hu, hc, Result.andThen]
  exact hK' _ _ hK

theorem wpList_store (hg : o.guard = none) (mo x v : Operand) (t : TypeId) (hop : o.op = Op.mapUpdate t mo x v) (e : TypeId) (K : Keyed P k) (ht : P.underlying t = some (.map k e))
    (hm : a.eval mo = .map (some b)) (h : MapV P k w b N m) (hn : N < maxLen) (key val : Value) (kl : Lit) (hx : a.eval x = key) (hv : a.eval v = val) (hk : keyOf P k key = some kl)
    (hK : ∀ w', MapV P k w' b (if (m key).isSome then N else N + 1) (upd m key val) → w.grownBy w' (some b) → w'.heap.size = w.heap.size → wpList P ops Q rest (a.put o.dst undef) w') : wpList P ops Q (o :: rest) a w := by
  refine wpList_plain hg fun K' hK' => ?_
  obtain ⟨w', hrun, r1, r2, r3⟩ := h.store K ht hn val hk
  unfold Oper.wp
  simp [execOp, hop, hm, hx, hv, hrun, Result.andThen]
  exact hK' _ _ (hK w' r1 r2 r3)

theorem wpList_drop (hg : o.guard = none) (mo x : Operand) (t : TypeId) (hop : o.op = Op.call { callee := Callee.builtin Builtin.delete, args := #[mo, x], argTypes := #[t, k] }) (e : TypeId) (K : Keyed P k) (ht : P.underlying t = some (.map k e))
    (hm : a.eval mo = .map (some b)) (h : MapV P k w b N m) (key : Value) (kl : Lit) (hx : a.eval x = key) (hk : keyOf P k key = some kl)
    (hK : ∀ w', MapV P k w' b (if (m key).isSome then N - 1 else N) (era m key) → w.grownBy w' (some b) → w'.heap.size = w.heap.size → wpList P ops Q rest (a.put o.dst (.tuple #[])) w') : wpList P ops Q (o :: rest) a w := by
  refine wpList_plain hg fun K' hK' => ?_
  obtain ⟨w', hrun, r1, r2, r3⟩ := h.drop K ht hk o.type
  unfold Oper.wp
  simp [execOp, hop, resolve, invoke, builtin, hm, hx, hrun, Result.andThen]
  exact hK' _ _ (hK w' r1 r2 r3)

theorem wpList_next {α : Type} (hg : o.guard = none) (it : Operand) (hop : o.op = Op.next it false) (K : Keyed P k) (mk mv : α → Value) (hit : a.eval it = .pointer (some ⟨r, 0, none⟩)) (h : RangeV P k w b r N m left cnt)
    (hsh : ∀ key v, left key → m key = some v → ∃ x, key = mk x ∧ v = mv x)
    (hDone : cnt = 0 → (∀ key, ¬ left key) → wpList P ops Q rest (a.put o.dst (.tuple #[.bool false])) w)
    (hMore : ∀ (x : α) (w' : World) (cnt' : Nat), left (mk x) → m (mk x) = some (mv x) → RangeV P k w' b r N m (fun y => left y ∧ y ≠ mk x) cnt' → cnt' < cnt → w.grownBy w' (some r) → w'.heap.size = w.heap.size →
      (Instr.entry (.pointer (some ⟨r, 0, none⟩))).run P w' = .ok (.tuple #[mk x, mv x]) w' → wpList P ops Q rest (a.put o.dst (.tuple #[.bool true, mk x, mv x])) w') : wpList P ops Q (o :: rest) a w := by
  refine wpList_plain hg fun K' hK' => ?_
  unfold Oper.wp
  rcases h.next K o.type with ⟨h0, hl, hrun⟩ | ⟨key, v, w', cnt', hlk, hv, hrun, hrg, hlt, hgr, hsz, hen⟩
  · simp [execOp, hop, hit, hrun, Result.andThen]
    exact hK' _ _ (hDone h0 hl)
  · obtain ⟨x, rfl, rfl⟩ := hsh key v hlk hv
    simp [execOp, hop, hit, hrun, Result.andThen]
    exact hK' _ _ (hMore x w' cnt' hlk hv hrg hlt hgr hsz hen)
end
end Go.Proofs.YtoiiaankpnhppaaGreatDoor
namespace Go.Proofs.YtoiiaankpnhppaaGreatDoor
open Go.RowKit Go.Maps Go.WideMaps

abbrev dotV (a n : Int) : Value := .agg #[.int .i64 a, .int .i64 n]
abbrev unitV : Value := .agg #[]

theorem kInt : Keyed Tryz.prog 3 := int_keyed Tryz.underlying3
theorem laidA : laidOutB Tryz.prog = true := by kernel_rfl
theorem rowDot : 121 < Tryz.prog.types.size := of_decide_eq_true (by kernel_rfl)
theorem kDot : Keyed Tryz.prog 121 := Keyed.of_law (deep_law_laid laidA (m := 2) (by omega) rowDot (by kernel_rfl) (by kernel_rfl))
theorem zInt (w : World) : (zeroValue 3).run Tryz.prog w = .ok (.int .i64 0) w := by kernel_rfl
theorem zUnit (w : World) : (zeroValue 64).run Tryz.prog w = .ok unitV w := by kernel_rfl

theorem wf64 {n : Int} (h : -9223372036854775808 ≤ n ∧ n ≤ 9223372036854775807) : (Lit.int .i64 n).wf = true := WalkArith.wf_i64 (by omega)
theorem keyInt (a : Nat) (ha : a ≤ 1000) : keyOf Tryz.prog 3 (.int .i64 (a : Int)) = some (.int .i64 (a : Int)) := keyOf_int_mk Tryz.underlying3 (wf64 (by omega))
theorem keyLitsDot (d : Nat) (a n : Int) (h1 : (Lit.int .i64 a).wf = true) (h2 : (Lit.int .i64 n).wf = true) : Tryz.prog.keyLits (d + 2) 121 [.int .i64 a, .int .i64 n] = some [.int .i64 a, .int .i64 n] := by
  have hc : Tryz.prog.cellsOf 121 = 2 := by kernel_rfl
  have hi : Tryz.prog.cellsOf 3 = 1 := by kernel_rfl
  simp [Tryz.underlying121, hc, Program.keyLits, hi, Tryz.underlying3, h1, h2]
theorem keyDot (a n : Nat) (ha : a ≤ 1000) (hn : n ≤ 1000) : ∃ kl, keyOf Tryz.prog 121 (dotV a n) = some kl := by
  have h1 : (Lit.int .i64 (a : Int)).wf = true := wf64 (by omega)
  have h2 : (Lit.int .i64 (n : Int)).wf = true := wf64 (by omega)
  have hk : Tryz.prog.keyType 121 = true := by kernel_rfl
  have hf : (dotV a n).formed Tryz.prog 121 = true := by
    have hc : Tryz.prog.cellsOf 121 = 2 := by kernel_rfl
    simp [Value.formed, Tryz.underlying121, hc]
  obtain ⟨d, hd⟩ : ∃ d, Tryz.prog.types.size + 1 = d + 2 := ⟨Tryz.prog.types.size - 1, by have := rowDot; omega⟩
  refine ⟨.string (keyBytes [.int .i64 (a : Int), .int .i64 (n : Int)]), ?_⟩
  unfold keyOf
  rw [Tryz.underlying121, hd]
  simp only [hk, hf, Bool.and_self, if_true]
  rw [show (dotV a n).cells.toList = [.int .i64 (a : Int), .int .i64 (n : Int)] from rfl, keyLitsDot d _ _ h1 h2]
  rfl

def who (d : Nat) : Nat := d / 512
def nth (d : Nat) : Nat := d % 512
def mkD (a n : Nat) : Nat := a * 512 + n
theorem who_mk {a n : Nat} (h : n < 512) : who (mkD a n) = a := by unfold who mkD; omega
theorem nth_mk {a n : Nat} (h : n < 512) : nth (mkD a n) = n := by unfold nth mkD; omega
theorem nth_lt (d : Nat) : nth d < 512 := by unfold nth; omega
theorem mk_wn (d : Nat) : mkD (who d) (nth d) = d := by unfold who nth mkD; omega
theorem dot_ext {x y : Nat} (h1 : who x = who y) (h2 : nth x = nth y) : x = y := by rw [← mk_wn x, ← mk_wn y, h1, h2]
def okD (d : Nat) : Prop := who d ≤ 5 ∧ 1 ≤ nth d ∧ nth d ≤ 501
abbrev dotE (d : Nat) : Value := dotV (who d : Int) (nth d : Int)
theorem dotV_mk {a n : Nat} (h : n < 512) : dotV (a : Int) (n : Int) = dotE (mkD a n) := by unfold dotE; rw [who_mk h, nth_mk h]
theorem dotE_inj {x y : Nat} (h : dotE x = dotE y) : x = y := by
  simp [dotV] at h
  exact dot_ext (by omega) (by omega)
theorem okD_lt {d : Nat} (h : okD d) : d < 3072 := by
  obtain ⟨h1, h2, h3⟩ := h
  have := mk_wn d
  unfold mkD at this
  omega
theorem keyE (d : Nat) (ha : who d ≤ 1000) : ∃ kl, keyOf Tryz.prog 121 (dotE d) = some kl := keyDot (who d) (nth d) ha (by have := nth_lt d; omega)


def MapO (P : Program) (k : TypeId) (w : World) (v : Value) (N : Nat) (m : Value → Option Value) : Prop := (v = .map none ∧ N = 0 ∧ m = fun _ => none) ∨ ∃ b, v = .map (some b) ∧ MapV P k w b N m

section
variable {P : Program} {k : TypeId} {w : World} {v : Value} {N : Nat} {m : Value → Option Value}
theorem MapO.below {w' : World} (h : MapO P k w v N m) (hb : Below w.heap.size w w') : MapO P k w' v N m := by
  rcases h with h | ⟨b, h1, h2⟩
  · exact Or.inl h
  · exact Or.inr ⟨b, h1, h2.block (hb.block b h2.lt)⟩
theorem MapO.look {t e : TypeId} (h : MapO P k w v N m) (K : Keyed P k) (ht : P.underlying t = some (.map k e)) {z : Value} (hz : (zeroValue e).run P w = .ok z w) {key : Value} {kl : Lit} (hk : keyOf P k key = some kl) :
    (Instr.lookup t v key false).run P w = .ok ((m key).getD z) w := by
  rcases h with ⟨rfl, _, rfl⟩ | ⟨b, rfl, h2⟩
  · simpa using Maps.look_nil false K ht hz hk
  · exact h2.look K ht hz hk
theorem MapO.look_ok {t e : TypeId} (h : MapO P k w v N m) (K : Keyed P k) (ht : P.underlying t = some (.map k e)) {z : Value} (hz : (zeroValue e).run P w = .ok z w) {key : Value} {kl : Lit} (hk : keyOf P k key = some kl) :
    (Instr.lookup t v key true).run P w = .ok (.tuple #[(m key).getD z, .bool (m key).isSome]) w := by
  rcases h with ⟨rfl, _, rfl⟩ | ⟨b, rfl, h2⟩
  · simpa using Maps.look_nil true K ht hz hk
  · exact h2.look_ok K ht hz hk
theorem MapO.len {t e : TypeId} (h : MapO P k w v N m) (ht : P.underlying t = some (.map k e)) (ty : TypeId) : (Builtin.len_ #[t] ty #[v]).run P w = .ok (.int .i64 (N : Int)) w := by
  rcases h with ⟨rfl, rfl, rfl⟩ | ⟨b, rfl, h2⟩
  · exact Maps.len_nil ht ty
  · exact h2.len ht ty

variable {ops : Array Oper} {rest : List Oper} {o : Oper} {a : Act} {Q : Exit → Act → World → Prop}
theorem wpList_lookO (hg : o.guard = none) (mo x : Operand) (t : TypeId) (hop : o.op = Op.lookup t mo x false) (e : TypeId) (K : Keyed P k) (ht : P.underlying t = some (.map k e)) {z : Value} (hz : (zeroValue e).run P w = .ok z w)
    (hm : a.eval mo = v) (h : MapO P k w v N m) (key : Value) (kl : Lit) (hx : a.eval x = key) (hk : keyOf P k key = some kl) (u : Value) (hu : (m key).getD z = u)
    (hK : wpList P ops Q rest (a.put o.dst u) w) : wpList P ops Q (o :: rest) a w := by
  refine wpList_plain hg fun K' hK' => ?_
  unfold Oper.wp
  simp [execOp, hop, hm, hx, h.look K ht hz hk, hu, Result.andThen]
  exact hK' _ _ hK
theorem wpList_lookO_ok (hg : o.guard = none) (mo x : Operand) (t : TypeId) (hop : o.op = Op.lookup t mo x true) (e : TypeId) (K : Keyed P k) (ht : P.underlying t = some (.map k e)) {z : Value} (hz : (zeroValue e).run P w = .ok z w)
    (hm : a.eval mo = v) (h : MapO P k w v N m) (key : Value) (kl : Lit) (hx : a.eval x = key) (hk : keyOf P k key = some kl) (u : Value) (hu : (m key).getD z = u) (c : Bool) (hc : (m key).isSome = c)
    (hK : wpList P ops Q rest (a.put o.dst (.tuple #[u, .bool c])) w) : wpList P ops Q (o :: rest) a w := by
  refine wpList_plain hg fun K' hK' => ?_
  unfold Oper.wp
  simp [execOp, hop, hm, hx, h.look_ok K ht hz hk, hu, hc, Result.andThen]
  exact hK' _ _ hK
end

noncomputable def cm (c : Nat → Nat) : Value → Option Value := fun key => @dite _ (∃ a : Nat, key = .int .i64 (a : Int)) (Classical.propDecidable _) (fun h => if c (Classical.choose h) = 0 then none else some (.int .i64 (c (Classical.choose h) : Int))) (fun _ => none)
open Classical in
noncomputable def lm (L : Nat → Bool) : Value → Option Value := fun key => if ∃ d, L d = true ∧ key = dotE d then some unitV else none

theorem cm_at (c : Nat → Nat) (a : Nat) : cm c (.int .i64 (a : Int)) = if c a = 0 then none else some (.int .i64 (c a : Int)) := by
  unfold cm
  have h : ∃ b : Nat, Value.int .i64 (a : Int) = .int .i64 (b : Int) := ⟨a, rfl⟩
  rw [dif_pos h]
  have hs := Classical.choose_spec h
  have e : a = Classical.choose h := by injection hs with _ h2; omega
  rw [← e]
theorem cm_shape {c : Nat → Nat} {key v : Value} (h : cm c key = some v) : ∃ a : Nat, key = .int .i64 (a : Int) ∧ v = .int .i64 (c a : Int) ∧ c a ≠ 0 := by
  by_cases hk : ∃ a : Nat, key = .int .i64 (a : Int)
  · obtain ⟨a, rfl⟩ := hk
    rw [cm_at] at h
    split at h
    · cases h
    · rename_i h0; cases h; exact ⟨a, rfl, rfl, h0⟩
  · unfold cm at h; rw [dif_neg hk] at h; cases h
theorem cm_ext {c : Nat → Nat} {m : Value → Option Value} (h1 : ∀ a : Nat, m (.int .i64 (a : Int)) = if c a = 0 then none else some (.int .i64 (c a : Int))) (h2 : ∀ key, (∀ a : Nat, key ≠ .int .i64 (a : Int)) → m key = none) : m = cm c := by
  funext key
  by_cases h : ∃ a : Nat, key = .int .i64 (a : Int)
  · obtain ⟨a, rfl⟩ := h; rw [h1, cm_at]
  · rw [h2 key (fun a e => h ⟨a, e⟩)]; unfold cm; rw [dif_neg h]
theorem cm_get (a : Nat) (c : Nat → Nat) : (cm c (.int .i64 (a : Int))).getD (.int .i64 0) = .int .i64 (c a : Int) := by
  rw [cm_at]
  by_cases h : c a = 0
  · rw [if_pos h, h]; (first | done | rfl)
  · rw [if_neg h]; (first | done | rfl)
theorem lm_some (d : Nat) (L : Nat → Bool) : (lm L (dotE d)).isSome = L d := by
  unfold lm
  by_cases h : L d = true
  · rw [if_pos ⟨d, h, rfl⟩, h]; (first | done | rfl)
  · rw [if_neg, Bool.eq_false_iff.2 h]; (first | done | rfl)
    rintro ⟨d', h1, h2⟩
    have : d = d' := dotE_inj h2
    exact h (this ▸ h1)
theorem lm_getD (L : Nat → Bool) (key : Value) : (lm L key).getD unitV = unitV := by
  unfold lm; split <;> rfl
theorem lm_shape {L : Nat → Bool} {key v : Value} (h : lm L key = some v) : ∃ d, L d = true ∧ key = dotE d ∧ v = unitV := by
  unfold lm at h
  split at h
  · rename_i hh; obtain ⟨d, h1, h2⟩ := hh; cases h; exact ⟨d, h1, h2, rfl⟩
  · cases h

structure CtxV (w : World) (cv lv : Value) (c : Nat → Nat) (L : Nat → Bool) : Prop where
  cs : ∃ N, MapO Tryz.prog 3 w cv N (cm c)
  ls : ∃ N, MapO Tryz.prog 121 w lv N (lm L)
  c501 : ∀ a, c a ≤ 501
  c5 : ∀ a, c a ≠ 0 → a ≤ 5
  l501 : ∀ d, L d = true → okD d ∧ c (who d) < nth d

theorem CtxV.below {w w' : World} {cv lv : Value} {c : Nat → Nat} {L : Nat → Bool} (h : CtxV w cv lv c L) (hb : Below w.heap.size w w') : CtxV w' cv lv c L := by
  obtain ⟨⟨N, h1⟩, ⟨N', h2⟩, h3, h4, h5⟩ := h
  exact ⟨⟨N, h1.below hb⟩, ⟨N', h2.below hb⟩, h3, h4, h5⟩

set_option maxHeartbeats 1000000 in
set_option maxRecDepth 100000 in
theorem next_any (w : World) (cv lv : Value) (a : Nat) (c : Nat → Nat) (L : Nat → Bool) (h : CtxV w cv lv c L) (ha : a ≤ 5) :
    Calls Tryz.prog 119 #[.agg #[cv, lv], .int .i64 (a : Int)] w fun e w' => e = .returned (.agg #[.int .i64 (a : Int), .int .i64 ((c a + 1 : Nat) : Int)]) ∧ Below w.heap.size w w' := by
  obtain ⟨⟨N, h1⟩, ⟨N', h2⟩, h3, h4, h5⟩ := h
  have H1 : Hid (∀ w', Below w.heap.size w w' → MapO Tryz.prog 3 w' cv N (cm c)) := fun w' hb => h1.below hb
  have hk := keyInt a (by omega)
  have hu := cm_get a c
  have h3a := h3 a
  generalize c a = ca at *
  clear h1 h2 h3 h4 h5
  go_enter Tryz.func119, Tryz.ntmps119
  go_wp2_with (first | (at_lookup; refine wpList_lookO rfl (.tmp 7) (.tmp 8) 101 rfl 3 kInt Tryz.underlying101 (zInt _) rfl (H1.out _ ?_) _ _ rfl hk _ hu ?_; (go_grown)))
  refine bodyPost_ret (v := dotV a ((ca + 1 : Nat) : Int)) (by simp [results, Tryz.results119, go_sem]) rfl ⟨rfl, by go_grown⟩

set_option maxHeartbeats 1000000 in
set_option maxRecDepth 100000 in
theorem has_any (w : World) (cv lv : Value) (c : Nat → Nat) (d : Nat) (L : Nat → Bool) (h : CtxV w cv lv c L) (ha : who d ≤ 5) :
    Calls Tryz.prog 172 #[.agg #[cv, lv], dotE d] w fun e w' => e = .returned (.bool (decide (nth d ≤ c (who d)) || L d)) ∧ Below w.heap.size w w' := by
  obtain ⟨⟨N, h1⟩, ⟨N', h2⟩, h3, h4, h5⟩ := h
  have H1 : Hid (∀ w', Below w.heap.size w w' → MapO Tryz.prog 3 w' cv N (cm c)) := fun w' hb => h1.below hb
  have H2 : Hid (∀ w', Below w.heap.size w w' → MapO Tryz.prog 121 w' lv N' (lm L)) := fun w' hb => h2.below hb
  have hk := keyInt (who d) (by omega)
  obtain ⟨kl, hkl⟩ := keyE d (by omega)
  have hu := cm_get (who d) c
  have hu2 := lm_getD L (dotE d)
  have hc2 := lm_some d L
  have h3a := h3 (who d)
  have hn := nth_lt d
  unfold dotE at *
  generalize L d = ln at *
  generalize c (who d) = ca at *
  generalize who d = a at *
  generalize nth d = n at *
  clear h1 h2 h3 h4 h5
  by_cases hnc : n ≤ ca
  · have hd : decide (n ≤ ca) = true := by simpa using hnc
    rw [hd]
    go_enter Tryz.func172, Tryz.ntmps172
    go_wp2_with (first | (at_lookup; refine wpList_lookO rfl (.tmp 10) (.tmp 12) 101 rfl 3 kInt Tryz.underlying101 (zInt _) rfl (H1.out _ ?_) _ _ rfl hk _ hu ?_; (go_grown)))
    go_ret
    exact ⟨rfl, by go_grown⟩
  · have hd : decide (n ≤ ca) = false := by simpa using hnc
    rw [hd]
    go_enter Tryz.func172, Tryz.ntmps172
    go_wp2_with (first | (at_lookup; refine wpList_lookO rfl (.tmp 10) (.tmp 12) 101 rfl 3 kInt Tryz.underlying101 (zInt _) rfl (H1.out _ ?_) _ _ rfl hk _ hu ?_; (go_grown)) | (at_lookup; refine wpList_lookO_ok rfl (.tmp 17) (.tmp 18) 102 rfl 64 kDot Tryz.underlying102 (zUnit _) rfl (H2.out _ ?_) _ _ rfl hkl _ hu2 _ hc2 ?_; (go_grown)))
    go_ret
    exact ⟨by simp, by go_grown⟩
end Go.Proofs.YtoiiaankpnhppaaGreatDoor
namespace Go.Proofs.YtoiiaankpnhppaaGreatDoor
open Go.RowKit Go.Maps Go.WideMaps Go.ChangeMaps Go.MapKept

structure CtxW (w : World) (cb lb : Nat) (c : Nat → Nat) (L : Nat → Bool) : Prop where
  cs : ∃ N, MapV Tryz.prog 3 w cb N (cm c)
  ls : ∃ N, MapV Tryz.prog 121 w lb N (lm L)
  ne : cb ≠ lb
  c501 : ∀ a, c a ≤ 501
  c5 : ∀ a, c a ≠ 0 → a ≤ 5
  l501 : ∀ d, L d = true → okD d ∧ c (who d) < nth d
theorem CtxW.toV {w : World} {cb lb : Nat} {c : Nat → Nat} {L : Nat → Bool} (h : CtxW w cb lb c L) : CtxV w (.map (some cb)) (.map (some lb)) c L := by
  obtain ⟨⟨N, h1⟩, ⟨N', h2⟩, _, h3, h4, h5⟩ := h
  exact ⟨⟨N, Or.inr ⟨_, rfl, h1⟩⟩, ⟨N', Or.inr ⟨_, rfl, h2⟩⟩, h3, h4, h5⟩
theorem CtxW.lt {w : World} {cb lb : Nat} {c : Nat → Nat} {L : Nat → Bool} (h : CtxW w cb lb c L) : cb < w.heap.size ∧ lb < w.heap.size := by
  obtain ⟨⟨N, h1⟩, ⟨N', h2⟩, _⟩ := h; exact ⟨h1.lt, h2.lt⟩
theorem CtxW.chg {M : Nat → Prop} {w w' : World} {cb lb : Nat} {c : Nat → Nat} {L : Nat → Bool} (h : CtxW w cb lb c L) (hc : Chg M w w') (h1 : ¬ M cb) (h2 : ¬ M lb) : CtxW w' cb lb c L := by
  obtain ⟨⟨N, g1⟩, ⟨N', g2⟩, r1, r2, r3, r4⟩ := h
  exact ⟨⟨N, g1.block (hc.block _ g1.lt h1)⟩, ⟨N', g2.block (hc.block _ g2.lt h2)⟩, r1, r2, r3, r4⟩
theorem CtxW.below {w w' : World} {cb lb : Nat} {c : Nat → Nat} {L : Nat → Bool} (h : CtxW w cb lb c L) (hb : Below w.heap.size w w') : CtxW w' cb lb c L := h.chg (M := fun _ => False) (Chg.of_below hb) (fun h => h) (fun h => h)

theorem nodup_lt : ∀ (M : Nat) (l : List Nat), l.Pairwise (fun x y => x ≠ y) → (∀ x ∈ l, x < M) → l.length ≤ M := by
  intro M
  induction M with
  | zero => intro l _ h; cases l with | nil => simp | cons x r => exact absurd (h x (by simp)) (by omega)
  | succ M ih =>
    intro l hp h
    by_cases hm : M ∈ l
    · have h1 := ih (l.erase M) (hp.sublist List.erase_sublist) (fun x hx => by
        have h2 := List.mem_of_mem_erase hx
        have h3 := h x h2
        have h4 : x ≠ M := fun e => by
          subst e
          exact (List.Nodup.not_mem_erase (show l.Nodup from hp)) hx
        omega)
      have := List.length_erase_of_mem hm
      omega
    · have := ih l hp (fun x hx => by have := h x hx; have : x ≠ M := fun e => hm (e ▸ hx); omega)
      omega

theorem MapV.bound {P : Program} {k : TypeId} {w : World} {b N M : Nat} {m : Value → Option Value} (h : MapV P k w b N m) (K : Keyed P k) (f : Nat → Value) (hf : ∀ key, (m key).isSome = true → ∃ n, n < M ∧ key = f n) : N ≤ M := by
  obtain ⟨D, h1, h2, h3⟩ := h
  obtain ⟨es, clock, hb, F, hs, rfl⟩ := h1
  have hst := (stamped_iff es clock).1 F.stamped
  rw [← h2]
  simp only [Maps.size, length_sorted, List.length_map]
  have hx : ∀ x ∈ es.toList, ∃ n, n < M ∧ x.key = f n := by
    intro x hx
    obtain ⟨y, hy⟩ := F.reads x hx
    have hkey := WideElems.rd_key hy
    refine hf _ ?_
    rw [← (h3.1 _ _ hkey).1]
    exact List.any_eq_true.2 ⟨WideElems.rg P k idR x, mem_sorted.2 (List.mem_map.2 ⟨x, hx, rfl⟩), by rw [WideElems.rg_of hy]; exact WideAt.sameKey_self (K.key hkey)⟩
  obtain ⟨g, hg⟩ : ∃ g : MapEntry → Nat, ∀ x ∈ es.toList, g x < M ∧ x.key = f (g x) := by
    refine ⟨fun x => @dite Nat (x ∈ es.toList) (Classical.propDecidable _) (fun h => Classical.choose (hx x h)) (fun _ => 0), fun x h => ?_⟩
    dsimp only
    rw [dif_pos h]
    exact Classical.choose_spec (hx x h)
  have hp : (es.toList.map g).Pairwise (fun x y => x ≠ y) := by
    rw [List.pairwise_map]
    refine List.Pairwise.imp_of_mem ?_ hst.2.2
    intro x y hx hy hne e
    exact hne (by rw [(hg x hx).2, (hg y hy).2, e])
  have := nodup_lt M _ hp (fun n hn => by obtain ⟨x, hx, rfl⟩ := List.mem_map.1 hn; exact (hg x hx).1)
  simpa using this

theorem loose_bound {w : World} {lb N : Nat} {L : Nat → Bool} (h : MapV Tryz.prog 121 w lb N (lm L)) (hl : ∀ d, L d = true → okD d) : N ≤ 3072 := by
  refine h.bound kDot (fun d => dotE d) ?_
  intro key hk
  unfold lm at hk
  split at hk
  · rename_i h; obtain ⟨d, h1, h2⟩ := h; exact ⟨d, okD_lt (hl d h1), h2⟩
  · cases hk
theorem counts_bound {w : World} {cb N : Nat} {c : Nat → Nat} (h : MapV Tryz.prog 3 w cb N (cm c)) (h5 : ∀ a, c a ≠ 0 → a ≤ 5) : N ≤ 6 := by
  refine h.bound kInt (fun a => .int .i64 (a : Int)) ?_
  intro key hk
  obtain ⟨v, hv⟩ := Option.isSome_iff_exists.1 hk
  obtain ⟨a, h1, _, h2⟩ := cm_shape hv
  exact ⟨a, by have := h5 a h2; omega, h1⟩

def inc (c : Nat → Nat) (a : Nat) : Nat → Nat := fun x => if x = a then c a + 1 else c x
theorem inc_same (c : Nat → Nat) (a : Nat) : inc c a a = c a + 1 := if_pos rfl
theorem inc_oth {c : Nat → Nat} {a x : Nat} (h : x ≠ a) : inc c a x = c x := if_neg h
theorem cm_upd (a : Nat) (c : Nat → Nat) : upd (cm c) (.int .i64 (a : Int)) (.int .i64 ((c a + 1 : Nat) : Int)) = cm (inc c a) := by
  apply cm_ext
  · intro x
    by_cases e : x = a
    · subst e; rw [upd_same, inc_same, if_neg (by omega)]
    · rw [upd_other (fun h => e (by simp at h; omega)), cm_at, inc_oth e]
  · intro key hk
    rw [upd_other (hk a)]
    cases h : cm c key with
    | none => rfl
    | some v => obtain ⟨x, hx, _⟩ := cm_shape h; exact absurd hx (hk x)
theorem lm_upd (d : Nat) (L : Nat → Bool) : upd (lm L) (dotE d) unitV = lm (fun k => L k || k == d) := by
  funext key
  by_cases e : key = dotE d
  · subst e; rw [upd_same]; unfold lm; rw [if_pos ⟨d, by simp, rfl⟩]
  · rw [upd_other e]
    unfold lm
    congr 1
    apply propext
    constructor
    · rintro ⟨k, h1, h2⟩; exact ⟨k, by simp [h1], h2⟩
    · rintro ⟨k, h1, h2⟩
      simp at h1
      rcases h1 with h1 | h1
      · exact ⟨k, h1, h2⟩
      · subst h1; exact absurd h2 e
theorem lm_era (d : Nat) (L : Nat → Bool) : era (lm L) (dotE d) = lm (fun k => L k && k != d) := by
  funext key
  by_cases e : key = dotE d
  · subst e; rw [era_same]; unfold lm; rw [if_neg]
    rintro ⟨k, h1, h2⟩
    have := dotE_inj h2
    subst this
    simp at h1
  · rw [era_other e]
    unfold lm
    congr 1
    apply propext
    constructor
    · rintro ⟨k, h1, h2⟩; exact ⟨k, by simp [h1]; rintro rfl; exact e h2, h2⟩
    · rintro ⟨k, h1, h2⟩; simp at h1; exact ⟨k, h1.1, h2⟩

structure CG (w : World) (B cb lb : Nat) (c : Nat → Nat) (L : Nat → Bool) (wx : World) : Prop where
  ctx : CtxW wx cb lb c L
  b0 : wx.cell? ⟨B, 0, none⟩ = some (.map (some cb))
  b1 : wx.cell? ⟨B, 1, none⟩ = some (.map (some lb))
  old : cb < w.heap.size ∧ lb < w.heap.size
  new : w.heap.size ≤ B
  lt : B < wx.heap.size
  chg : Chg (fun k => k = cb ∨ k = lb) w wx
theorem CG.below {w : World} {B cb lb : Nat} {c : Nat → Nat} {L : Nat → Bool} {wx wy : World} (h : CG w B cb lb c L wx) (hb : Below wx.heap.size wx wy) : CG w B cb lb c L wy :=
  ⟨h.ctx.below hb, (hb.cell (p := ⟨B, 0, none⟩) h.lt).trans h.b0, (hb.cell (p := ⟨B, 1, none⟩) h.lt).trans h.b1, h.old, h.new, Nat.lt_of_lt_of_le h.lt hb.size, h.chg.below hb⟩
theorem CG.grown {w : World} {B cb lb : Nat} {c c' : Nat → Nat} {L L' : Nat → Bool} {wx wy : World} {k : Nat} (h : CG w B cb lb c L wx) (hg : wx.grownBy wy (some k)) (hk : k = cb ∨ k = lb) (hc : CtxW wy cb lb c' L') : CG w B cb lb c' L' wy := by
  have hB : some B ≠ some k := fun e => by cases e; have := h.old; have := h.new; omega
  have hcell : ∀ i, wy.cell? ⟨B, i, none⟩ = wx.cell? ⟨B, i, none⟩ := fun i => World.cell?_of_block (w := wx) (hg.block B h.lt hB)
  exact ⟨hc, (hcell 0).trans h.b0, (hcell 1).trans h.b1, h.old, h.new, Nat.lt_of_lt_of_le h.lt hg.size, h.chg.grown hg (fun j e => by cases e; exact Or.inl hk)⟩
end Go.Proofs.YtoiiaankpnhppaaGreatDoor
namespace Go.Proofs.YtoiiaankpnhppaaGreatDoor
open Go.RowKit Go.Maps Go.WideMaps

theorem CG.drop {w : World} {B cb lb : Nat} {d N : Nat} {c : Nat → Nat} {L : Nat → Bool} {wx wy : World} (h : CG w B cb lb c L wx) (hg : wx.grownBy wy (some lb)) (hm : MapV Tryz.prog 121 wy lb N (era (lm L) (dotE d))) : CG w B cb lb c (fun k => L k && k != d) wy := by
  obtain ⟨N', h1⟩ := h.ctx.cs
  refine h.grown hg (Or.inr rfl) ⟨⟨N', h1.kept hg (fun e => h.ctx.ne (by cases e; rfl))⟩, ⟨N, by rw [lm_era] at hm; exact hm⟩, h.ctx.ne, h.ctx.c501, h.ctx.c5, fun k hk => h.ctx.l501 k (by simp at hk; exact hk.1)⟩
theorem CG.inc {w : World} {B cb lb a : Nat} {N : Nat} {c : Nat → Nat} {L : Nat → Bool} {wx wy : World} (h : CG w B cb lb c L wx) (hg : wx.grownBy wy (some cb)) (hm : MapV Tryz.prog 3 wy cb N (upd (cm c) (.int .i64 (a : Int)) (.int .i64 ((c a + 1 : Nat) : Int)))) (ha : a ≤ 5) (h1 : c a + 1 ≤ 501) (h2 : L (mkD a (c a + 1)) = false) : CG w B cb lb (Go.Proofs.YtoiiaankpnhppaaGreatDoor.inc c a) L wy := by
  obtain ⟨N', h3⟩ := h.ctx.ls
  refine h.grown hg (Or.inl rfl) ⟨⟨N, by rw [cm_upd] at hm; exact hm⟩, ⟨N', h3.kept hg (fun e => h.ctx.ne (by cases e; rfl))⟩, h.ctx.ne, fun x => ?_, fun x hx => ?_, fun k hk => ?_⟩
  · by_cases e : x = a
    · subst e; rw [inc_same]; exact h1
    · rw [inc_oth e]; exact h.ctx.c501 x
  · by_cases e : x = a
    · subst e; exact ha
    · rw [inc_oth e] at hx; exact h.ctx.c5 x hx
  · have := h.ctx.l501 k hk
    refine ⟨this.1, ?_⟩
    by_cases e : who k = a
    · rw [e, inc_same]
      have h4 := this.2
      rw [e] at h4
      rcases Nat.lt_or_ge (c a + 1) (nth k) with h | h
      · exact h
      · have e2 : k = mkD a (c a + 1) := (dot_ext (by rw [who_mk (by omega), e]) (by rw [nth_mk (by omega)]; omega))
        rw [e2, h2] at hk; cases hk
    · rw [inc_oth e]; exact this.2
theorem CG.put {w : World} {B cb lb : Nat} {d N : Nat} {c : Nat → Nat} {L : Nat → Bool} {wx wy : World} (h : CG w B cb lb c L wx) (hg : wx.grownBy wy (some lb)) (hm : MapV Tryz.prog 121 wy lb N (upd (lm L) (dotE d) unitV)) (h1 : c (who d) < nth d) (h2 : okD d) : CG w B cb lb c (fun k => L k || k == d) wy := by
  obtain ⟨N', h3⟩ := h.ctx.cs
  refine h.grown hg (Or.inr rfl) ⟨⟨N', h3.kept hg (fun e => h.ctx.ne (by cases e; rfl))⟩, ⟨N, by rw [lm_upd] at hm; exact hm⟩, h.ctx.ne, h.ctx.c501, h.ctx.c5, fun k hk => ?_⟩
  simp at hk
  rcases hk with hk | hk
  · exact h.ctx.l501 k hk
  · subst hk; exact ⟨h2, h1⟩

def inK (c : Nat → Nat) (L : Nat → Bool) (d : Nat) : Prop := nth d ≤ c (who d) ∨ L d = true
structure SameD (a : Nat) (c : Nat → Nat) (L : Nat → Bool) (c' : Nat → Nat) (L' : Nat → Bool) : Prop where
  same : ∀ d, inK c' L' d ↔ inK c L d
  oc : ∀ x, x ≠ a → c' x = c x
  ol : ∀ d, who d ≠ a → L' d = L d
theorem SameD.refl (a : Nat) (c : Nat → Nat) (L : Nat → Bool) : SameD a c L c L := ⟨fun _ => Iff.rfl, fun _ _ => rfl, fun _ _ => rfl⟩
theorem SameD.step {a : Nat} {c c' : Nat → Nat} {L L' : Nat → Bool} (h : SameD a c L c' L') (hl : L' (mkD a (c' a + 1)) = true) (h501 : c' a + 1 < 512) : SameD a c L (inc c' a) (fun k => L' k && k != mkD a (c' a + 1)) := by
  refine ⟨fun d => ?_, fun x hx => by rw [inc_oth hx]; exact h.oc x hx, fun d hd => ?_⟩
  · rw [← h.same d]
    unfold inK
    simp only [Bool.and_eq_true, bne_iff_ne, ne_eq]
    by_cases e : who d = a
    · rw [e, inc_same]
      constructor
      · rintro (h | ⟨h, _⟩)
        · by_cases e2 : nth d = c' a + 1
          · right; rw [← hl]; congr 1; exact dot_ext (by rw [who_mk h501, e]) (by rw [nth_mk h501, e2])
          · left; omega
        · exact Or.inr h
      · rintro (h | h)
        · left; omega
        · by_cases e2 : d = mkD a (c' a + 1)
          · left; rw [e2, nth_mk h501]; omega
          · exact Or.inr ⟨h, e2⟩
    · rw [inc_oth e]
      have hne : d ≠ mkD a (c' a + 1) := fun e2 => e (by rw [e2, who_mk h501])
      constructor
      · rintro (h | ⟨h, _⟩)
        · exact Or.inl h
        · exact Or.inr h
      · rintro (h | h)
        · exact Or.inl h
        · exact Or.inr ⟨h, hne⟩
  · have hne : d ≠ mkD a (c' a + 1) := fun e2 => hd (by rw [e2, who_mk h501])
    simp [hne, h.ol d hd]

set_option maxHeartbeats 4000000 in
set_option maxRecDepth 100000 in
theorem closeGap_any (w : World) (cb lb a : Nat) (c : Nat → Nat) (L : Nat → Bool) (h : CtxW w cb lb c L) (a5 : a ≤ 5) :
    Calls Tryz.prog 208 #[.agg #[.map (some cb), .map (some lb)], .int .i64 (a : Int)] w fun e w' => e = .returned (.tuple #[]) ∧ ∃ c' L', CtxW w' cb lb c' L' ∧ L' (mkD a (c' a + 1)) = false ∧ SameD a c L c' L' ∧ Chg (fun k => k = cb ∨ k = lb) w w' := by
  have hk := keyInt a (by omega)
  have HG : Hid (∀ ob, ob = .cells #[.map (some cb), .map (some lb)] 104 → CG w w.heap.size cb lb c L (w.alloc ob)) := fun ob hob => by
    subst hob
    have hb : Below w.heap.size w (w.alloc (.cells #[.map (some cb), .map (some lb)] 104)) := (Below.refl _ w).alloc (Nat.le_refl _) _
    exact ⟨h.below hb, World.cell?_alloc_at _ _ _ _ rfl, World.cell?_alloc_at _ _ _ _ rfl, h.lt, Nat.le_refl _, by simp, Chg.of_below hb⟩
  clear h
  go_enter Tryz.func208, Tryz.ntmps208
  go_wp2
  go_loopg [6] (501 - c a) (fun g v6 wx => ∃ (c' : Nat → Nat) (L' : Nat → Bool), g = 501 - c' a ∧ CG w w.heap.size cb lb c' L' wx ∧ SameD a c L c' L')
  case atStart => exact ⟨c, L, rfl, HG.out _ rfl, SameD.refl a c L⟩
  case round =>
    obtain ⟨c', L', hgc, hC, hS⟩ := hrel
    have HC : Hid (CG w w.heap.size cb lb c' L' wr) := hC
    have HS : Hid (SameD a c L c' L') := hS
    have b0 := hC.b0
    have b1 := hC.b1
    have c501 := hC.ctx.c501 a
    have Hn : Hid (_) := next_any wr _ _ a c' L' hC.ctx.toV a5
    obtain ⟨ca, hca⟩ : ∃ ca, c' a = ca := ⟨_, rfl⟩
    have Hca : Hid (c' a = ca) := hca
    rw [hca] at Hn c501 hgc
    clear hC hS HG hca
    go_wp2_with fail
    refine Calls.mono Hn.out ?_
    rintro e w1 ⟨rfl, hb1⟩
    have HC1 : Hid (CG w w.heap.size cb lb c' L' w1) := HC.out.below hb1
    have b0 := HC1.out.b0
    have b1 := HC1.out.b1
    have hlt := HC1.out.lt
    have hw := HC1.out.new
    have hm512 : ca + 1 < 512 := by omega
    have HE : Hid (dotV (a : Int) ((ca + 1 : Nat) : Int) = dotE (mkD a (ca + 1))) := dotV_mk hm512
    obtain ⟨kl, hkl⟩ := keyDot a (ca + 1) (by omega) (by omega)
    have hu2 := lm_getD L' (dotV a (ca + 1 : Nat))
    have hc2 : (lm L' (dotV a (ca + 1 : Nat))).isSome = L' (mkD a (ca + 1)) := by rw [HE.out]; exact lm_some _ _
    have hu := cm_get a c'
    rw [Hca.out] at hu
    clear Hn hb1 HC
    obtain ⟨Nl, hNl⟩ := HC1.out.ctx.ls
    have hNb : Nl ≤ 3072 := loose_bound hNl (fun n hn => (HC1.out.ctx.l501 n hn).1)
    have HL : Hid (∀ wy, Below w1.heap.size w1 wy → MapV Tryz.prog 121 wy lb Nl (lm L')) := fun wy hb => hNl.block (hb.block _ hNl.lt)
    have HCb : Hid (∀ wy, Below w1.heap.size w1 wy → CG w w.heap.size cb lb c' L' wy) := fun wy hb => HC1.out.below hb
    clear hNl
    cases hl : L' (mkD a (ca + 1)) with
    | false =>
      have Hl : Hid (L' (mkD a (c' a + 1)) = false) := by unfold Hid; rw [Hca.out]; exact hl
      rw [hl] at hc2
      clear hl
      go_wp2_with (first | (at_lookup; refine wpList_look_ok rfl (.tmp 12) (.tmp 13) 102 rfl 64 kDot Tryz.underlying102 (zUnit _) rfl (HL.out _ ?_) (dotV a ((ca + 1 : Nat) : Int)) kl rfl hkl _ hu2 _ hc2 ?_; (go_grown)))
      refine bodyPost_ret (results_none rfl _ _ _) rfl ?_
      refine ⟨rfl, c', L', (HCb.out _ ?_).ctx, Hl.out, HS.out, (HCb.out _ ?_).chg⟩ <;> go_grown
    | true =>
      have Hl : Hid (L' (mkD a (c' a + 1)) = true) := by unfold Hid; rw [Hca.out]; exact hl
      have h501 : ca + 1 ≤ 501 := by have := (HC1.out.ctx.l501 _ hl).1.2.2; rw [nth_mk hm512] at this; exact this
      rw [hl] at hc2
      clear hl
      have Hdrop : Hid (∀ wy wz N, Below w1.heap.size w1 wy → wy.grownBy wz (some lb) → MapV Tryz.prog 121 wz lb N (era (lm L') (dotV a (ca + 1 : Nat))) → CG w w.heap.size cb lb c' (fun k => L' k && k != mkD a (c' a + 1)) wz) := fun wy wz N hb hg hm => by
        rw [HE.out, ← Hca.out] at hm
        exact CG.drop (HCb.out wy hb) hg hm
      have Hinc : Hid (∀ wy wz N, CG w w.heap.size cb lb c' (fun k => L' k && k != mkD a (c' a + 1)) wy → wy.grownBy wz (some cb) → MapV Tryz.prog 3 wz cb N (upd (cm c') (.int .i64 (a : Int)) (.int .i64 ((ca + 1 : Nat) : Int))) → CG w w.heap.size cb lb (inc c' a) (fun k => L' k && k != mkD a (c' a + 1)) wz) := fun wy wz N hc hg hm => by
        rw [← Hca.out] at hm
        exact CG.inc hc hg hm a5 (by rw [Hca.out]; exact h501) (by simp)
      go_wp2_with (first | (at_lookup; refine wpList_look_ok rfl (.tmp 12) (.tmp 13) 102 rfl 64 kDot Tryz.underlying102 (zUnit _) rfl (HL.out _ ?_) (dotV a ((ca + 1 : Nat) : Int)) kl rfl hkl _ hu2 _ hc2 ?_; (go_grown)) | (at_delete; refine wpList_drop rfl (.tmp 20) (.tmp 21) 102 rfl 64 kDot Tryz.underlying102 rfl (HL.out _ ?_) (dotV a ((ca + 1 : Nat) : Int)) kl rfl hkl ?_; (go_grown); intro w2 hm2 hg2 hs2; have hC2 : CG w w.heap.size cb lb c' (fun k => L' k && k != mkD a (c' a + 1)) w2 := (by refine Hdrop.out _ _ _ ?_ hg2 hm2; go_grown); have HC2 : Hid (CG w w.heap.size cb lb c' (fun k => L' k && k != mkD a (c' a + 1)) w2) := hC2; have b0 := hC2.b0; obtain ⟨Nc, hNc⟩ := hC2.ctx.cs; have hcb : Nc ≤ 6 := counts_bound hNc hC2.ctx.c5; have hmx : Nc < maxLen := (by unfold maxLen; omega); clear hC2) | (at_lookup; refine wpList_look rfl (.tmp 23) (.tmp 24) 101 rfl 3 kInt Tryz.underlying101 (zInt _) rfl hNc (.int .i64 (a : Int)) _ rfl hk _ hu ?_) | (at_mapUpdate; refine wpList_store rfl (.tmp 23) (.tmp 24) (.tmp 26) 101 rfl 3 kInt Tryz.underlying101 rfl hNc hmx (.int .i64 (a : Int)) (.int .i64 ((ca + 1 : Nat) : Int)) _ rfl (by first | rfl | simp) hk ?_; intro w3 hm3 hg3 hs3; have hC3 : CG w w.heap.size cb lb (inc c' a) (fun k => L' k && k != mkD a (c' a + 1)) w3 := (Hinc.out _ _ _ HC2.out hg3 hm3); go_frame))
      all_goals
        go_roundg (501 - (ca + 1))
        case measure => omega
        case rel => exact ⟨inc c' a, _, by rw [inc_same, Hca.out], hC3, HS.out.step Hl.out (by rw [Hca.out]; exact hm512)⟩
end Go.Proofs.YtoiiaankpnhppaaGreatDoor

