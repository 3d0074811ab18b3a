import Derived.Laws.IdiomRangeMap
import Derived.Test.YtmnnojekcloblaaGreatDoorPart08
set_option linter.unusedVariables false
set_option linter.unusedSimpArgs false
namespace Go.Proofs.YtmnnojekcloblaaGreatDoor
open Go.RowKit Go.Maps Go.WideMaps

/-- A range over a map, or over nil. -/
def RangeO (P : Program) (k : TypeId) (w : World) (v : Value) (r N : Nat) (m : Value → Option Value) (left : Value → Prop) (cnt : Nat) : Prop :=
  (v = .map none ∧ (∃ s seen c, w.heap[r]? = some (.mapIter none s seen c)) ∧ cnt = 0 ∧ m = (fun _ => none) ∧ ∀ key, ¬ left key) ∨ ∃ b, v = .map (some b) ∧ RangeV P k w b r N m left cnt

section
variable {P : Program} {k : TypeId} {w : World} {v : Value} {r N cnt : Nat} {m : Value → Option Value} {left : Value → Prop}
theorem MapO.chg {M : Nat → Prop} {w' : World} (h : MapO P k w v N m) (hc : Chg M w w') (hm : ∀ b, v = .map (some b) → ¬ M b) : MapO P k w' v N m := by
  rcases h with h | ⟨b, h1, h2⟩
  · exact Or.inl h
  · exact Or.inr ⟨b, h1, h2.block (hc.block b h2.lt (hm b h1))⟩
theorem RangeO.chg {M : Nat → Prop} {w' : World} (h : RangeO P k w v r N m left cnt) (hc : Chg M w w') (hm : ∀ b, v = .map (some b) → ¬ M b) (hr : ¬ M r) : RangeO P k w' v r N m left cnt := by
  rcases h with ⟨h1, ⟨s, seen, c, h2⟩, h3⟩ | ⟨b, h1, h2⟩
  · exact Or.inl ⟨h1, ⟨s, seen, c, (hc.block r (Array.getElem?_eq_some_iff.1 h2).1 hr).trans h2⟩, h3⟩
  · exact Or.inr ⟨b, h1, h2.block (hc.block b h2.map.lt (hm b h1)) (hc.block r h2.lt hr)⟩
theorem RangeO.lt (h : RangeO P k w v r N m left cnt) : r < w.heap.size := by
  rcases h with ⟨h1, ⟨s, seen, c, h2⟩, h3⟩ | ⟨b, h1, h2⟩
  · exact (Array.getElem?_eq_some_iff.1 h2).1
  · exact h2.lt
theorem RangeO.map {t : TypeId} (h : RangeO P t w v r N m left cnt) : ∃ N, MapO P t w v N m := by
  rcases h with ⟨h1, _, _, h2, _⟩ | ⟨b, h1, h2⟩
  · exact ⟨0, Or.inl ⟨h1, rfl, h2⟩⟩
  · exact ⟨N, Or.inr ⟨b, h1, h2.map⟩⟩
theorem run_next_nil {ty : TypeId} {s c : Nat} {seen : Array Nat} (h : w.heap[r]? = some (.mapIter none s seen c)) : (Instr.next (.pointer (some ⟨r, 0, none⟩)) false ty).run P w = .ok (.tuple #[.bool false]) w := by
  simp only [Instr.next, getObj, Sem.run_bind, Sem.run, h, Result.andThen]
  rfl

variable {ops : Array Oper} {rest : List Oper} {o : Oper} {a : Act} {Q : Exit → Act → World → Prop}
theorem wpList_rangeO (hg : o.guard = none) (mo : Operand) (t : TypeId) (hop : o.op = Op.range t mo) (e : TypeId) (K : Keyed P k) (ht : P.underlying t = some (.map k e))
    (hm : a.eval mo = v) (h : MapO P k w v N m)
    (hK : ∀ w', RangeO P k w' v w.heap.size N m (fun key => (m key).isSome = true) N → w.grownBy w' none → w'.heap.size = w.heap.size + 1 → wpList P ops Q rest (a.put o.dst (.pointer (some ⟨w.heap.size, 0, none⟩))) w') : wpList P ops Q (o :: rest) a w := by
  refine wpList_plain hg fun K' hK' => ?_
  rcases h with ⟨rfl, rfl, rfl⟩ | ⟨b, rfl, h2⟩
  · unfold Oper.wp
    simp [execOp, hop, hm, run_range_nilMap w t k e ht, Result.andThen]
    exact hK' _ _ (hK _ (Or.inl ⟨rfl, ⟨0, #[], 0, heap_alloc_new w _⟩, rfl, rfl, fun key h => by cases h⟩) (World.grownBy_alloc w _ none) (by simp))
  · obtain ⟨w', hrun, r1, r2, r3⟩ := h2.range K ht
    unfold Oper.wp
    simp [execOp, hop, hm, hrun, Result.andThen]
    exact hK' _ _ (hK w' (Or.inr ⟨b, rfl, r1⟩) r2 r3)
theorem wpList_nextO {α : Type} (hg : o.guard = none) (it : Operand) (hop : o.op = Op.next it false) (K : Keyed P k) (mk mv : α → Value) (hit : a.eval it = .pointer (some ⟨r, 0, none⟩)) (h : RangeO P k w v r N m left cnt)
    (hsh : ∀ key v, left key → m key = some v → ∃ x, key = mk x ∧ v = mv x)
    (hDone : (∀ key, ¬ left key) → wpList P ops Q rest (a.put o.dst (.tuple #[.bool false])) w)
    (hMore : ∀ (x : α) (w' : World) (cnt' : Nat), left (mk x) → m (mk x) = some (mv x) → RangeO P k w' v r N m (fun y => left y ∧ y ≠ mk x) cnt' → cnt' < cnt → w.grownBy w' (some r) → w'.heap.size = w.heap.size →
      (Instr.entry (.pointer (some ⟨r, 0, none⟩))).run P w' = .ok (.tuple #[mk x, mv x]) w' → wpList P ops Q rest (a.put o.dst (.tuple #[.bool true, mk x, mv x])) w') : wpList P ops Q (o :: rest) a w := by
  rcases h with ⟨h1, ⟨s, seen, c, h2⟩, h3, h4, h5⟩ | ⟨b, h1, h2⟩
  · refine wpList_plain hg fun K' hK' => ?_
    unfold Oper.wp
    simp [execOp, hop, hit, run_next_nil h2, Result.andThen]
    exact hK' _ _ (hDone h5)
  · exact wpList_next hg it hop K mk mv hit h2 hsh (fun _ => hDone) (fun x w' cnt' g1 g2 g3 g4 g5 g6 g7 => hMore x w' cnt' g1 g2 (Or.inr ⟨b, h1, g3⟩) g4 g5 g6 g7)
end

set_option maxHeartbeats 1000000 in
set_option maxRecDepth 100000 in
theorem newContext_any (w : World) : Calls Tryz.prog 99 #[] w fun e w' => ∃ cb lb, e = .returned (.agg #[.map (some cb), .map (some lb)]) ∧ (∀ a, a ≤ 5 → CtxS w' cb lb a (fun _ => False)) ∧ w.heap.size ≤ cb ∧ w.heap.size ≤ lb ∧ Below w.heap.size w w' := by
  have hmm := @run_makeMap Tryz.prog
  have HM : Hid (∀ ob, Below w.heap.size w (w.alloc ob) ∧ ∀ a, a ≤ 5 → CtxS (((w.alloc ob).alloc (.map #[] 0)).alloc (.map #[] 0)) (w.heap.size + 1) (w.heap.size + 2) a (fun _ => False)) := fun ob => ⟨(Below.refl _ w).alloc (Nat.le_refl _) _, fun a ha => by
    have e1 : (w.alloc ob).heap.size = w.heap.size + 1 := by simp
    have e2 : ((w.alloc ob).alloc (.map #[] 0)).heap.size = w.heap.size + 2 := by simp
    have m1 := MapV.made (w.alloc ob) Tryz.prog 3
    have m2 := MapV.made ((w.alloc ob).alloc (.map #[] 0)) Tryz.prog 117
    rw [e1] at m1
    rw [e2] at m2
    have hc : cm a 0 = fun _ => none := by funext key; simp [cm]
    have hl : lm a (fun _ => false) = fun _ => none := by funext key; simp [lm]
    refine ⟨0, fun _ => false, ⟨⟨0, by rw [hc]; exact m1.block (((Below.refl _ ((w.alloc ob).alloc (.map #[] 0))).alloc (Nat.le_refl _) _).block _ m1.lt)⟩, ⟨0, by rw [hl]; exact m2⟩, by omega, by omega, fun n h => (by cases h), ha⟩, rfl, fun n hn => ?_⟩
    simp; omega⟩
  go_enter Tryz.func99, Tryz.ntmps99
  go_wp2
  refine bodyPost_ret (v := .agg #[.map (some (w.heap.size + 1)), .map (some (w.heap.size + 2))]) (by simp [results, Tryz.results99, go_sem]) rfl ⟨_, _, rfl, ?_, by omega, by omega, ?_⟩
  · intro a ha
    first
      | exact (HM.out _).2 a ha
      | (refine CtxS.chg (M := fun k => k = w.heap.size) ((HM.out _).2 a ha) (((Chg.refl _ _).setCell (p := ⟨w.heap.size, 0, none⟩) rfl _).setCell (p := ⟨w.heap.size, 1, none⟩) rfl _) (by omega) (by omega))
      | trace_state
  · go_grown
end Go.Proofs.YtmnnojekcloblaaGreatDoor

namespace Go.Proofs.YtmnnojekcloblaaGreatDoor
open Go.RowKit Go.Maps Go.WideMaps

theorem dot_nth (x y : Int) (w : World) : (Instr.field 117 (.agg #[.int .i64 x, .int .i64 y]) 1).run Tryz.prog w = .ok (.int .i64 y) w := by kernel_rfl
theorem cm_shape {a c : Nat} {key v : Value} (h : cm a c key = some v) : key = .int .i64 (a : Int) ∧ v = .int .i64 (c : Int) ∧ c ≠ 0 := by
  unfold cm at h
  split at h
  · rename_i hh; cases h; exact ⟨hh.2, rfl, hh.1⟩
  · cases h
theorem lm_shape {a : Nat} {L : Nat → Bool} {key v : Value} (h : lm a L key = some v) : ∃ n, L n = true ∧ key = dotV a n ∧ v = unitV := by
  unfold lm at h
  split at h
  · rename_i hh; obtain ⟨n, h1, h2⟩ := hh; cases h; exact ⟨n, h1, h2, rfl⟩
  · cases h

/-- In the midst of addAll. -/
structure AA (w : World) (cb lb a : Nat) (cv lv : Value) (co : Nat) (Lo : Nat → Bool) (S : Nat → Prop) (wx : World) : Prop where
  ctx : CtxS wx cb lb a S
  b0 : wx.cell? ⟨w.heap.size, 0, none⟩ = some (.map (some cb))
  b1 : wx.cell? ⟨w.heap.size, 1, none⟩ = some (.map (some lb))
  o0 : wx.cell? ⟨w.heap.size + 1, 0, none⟩ = some cv
  o1 : wx.cell? ⟨w.heap.size + 1, 1, none⟩ = some lv
  oc : ∃ N, MapO Tryz.prog 3 wx cv N (cm a co)
  ol : ∃ N, MapO Tryz.prog 117 wx lv N (lm a Lo)
  old : cb < w.heap.size ∧ lb < w.heap.size
  ne : (∀ b, cv = .map (some b) → b ≠ cb ∧ b ≠ lb ∧ b < w.heap.size) ∧ (∀ b, lv = .map (some b) → b ≠ cb ∧ b ≠ lb ∧ b < w.heap.size)
  lt : w.heap.size + 2 ≤ wx.heap.size
  chg : Chg (fun k => k = cb ∨ k = lb) w wx
theorem AA.step {w : World} {cb lb a : Nat} {cv lv : Value} {co : Nat} {Lo : Nat → Bool} {S S' : Nat → Prop} {wx wy : World} (h : AA w cb lb a cv lv co Lo S wx) (hc : CtxS wy cb lb a S') (hg : Chg (fun k => k = cb ∨ k = lb) wx wy) : AA w cb lb a cv lv co Lo S' wy := by
  obtain ⟨N, h1⟩ := h.oc
  obtain ⟨N', h2⟩ := h.ol
  have hl := h.lt
  have ho := h.old
  have hcell : ∀ b i, w.heap.size ≤ b → b < wx.heap.size → wy.cell? ⟨b, i, none⟩ = wx.cell? ⟨b, i, none⟩ := fun b i hb1 hb2 => World.cell?_of_block (w := wx) (hg.block b hb2 (by omega))
  exact ⟨hc, (hcell _ 0 (by omega) (by omega)).trans h.b0, (hcell _ 1 (by omega) (by omega)).trans h.b1, (hcell _ 0 (by omega) (by omega)).trans h.o0, (hcell _ 1 (by omega) (by omega)).trans h.o1, ⟨N, h1.chg hg (fun b hb => by have := h.ne.1 b hb; omega)⟩, ⟨N', h2.chg hg (fun b hb => by have := h.ne.2 b hb; omega)⟩, h.old, h.ne, Nat.le_trans hl hg.size, h.chg.trans hg⟩
theorem AA.below {w : World} {cb lb a : Nat} {cv lv : Value} {co : Nat} {Lo : Nat → Bool} {S : Nat → Prop} {wx wy : World} (h : AA w cb lb a cv lv co Lo S wx) (hb : Below wx.heap.size wx wy) : AA w cb lb a cv lv co Lo S wy := h.step (h.ctx.below hb) (Chg.of_below hb)
/-- A range's own block turns. -/
theorem AA.turn {w : World} {cb lb a : Nat} {cv lv : Value} {co : Nat} {Lo : Nat → Bool} {S : Nat → Prop} {wx wy : World} {r : Nat} (h : AA w cb lb a cv lv co Lo S wx) (hr : w.heap.size + 2 ≤ r) (hg : wx.grownBy wy (some r)) : AA w cb lb a cv lv co Lo S wy := by
  have hl := h.lt
  have ho := h.old
  have hcell : ∀ b i, b < w.heap.size + 2 → wy.cell? ⟨b, i, none⟩ = wx.cell? ⟨b, i, none⟩ := fun b i hb2 => World.cell?_of_block (w := wx) (hg.block b (by omega) (fun e => by cases e; omega))
  have hch : Chg (fun k => k = r) wx wy := (Chg.refl _ wx).grown hg (fun k e => by cases e; exact Or.inl rfl)
  obtain ⟨N, h1⟩ := h.oc
  obtain ⟨N', h2⟩ := h.ol
  exact ⟨h.ctx.chg hch (by omega) (by omega), (hcell _ 0 (by omega)).trans h.b0, (hcell _ 1 (by omega)).trans h.b1, (hcell _ 0 (by omega)).trans h.o0, (hcell _ 1 (by omega)).trans h.o1, ⟨N, h1.chg hch (fun b hb => by have := h.ne.1 b hb; omega)⟩, ⟨N', h2.chg hch (fun b hb => by have := h.ne.2 b hb; omega)⟩, h.old, h.ne, Nat.le_trans hl hg.size, h.chg.grown hg (fun k e => by cases e; right; omega)⟩
theorem AA.iff {w : World} {cb lb a : Nat} {cv lv : Value} {co : Nat} {Lo : Nat → Bool} {S S' : Nat → Prop} {wx : World} (h : AA w cb lb a cv lv co Lo S wx) (hS : ∀ n, 1 ≤ n → (S' n ↔ S n)) : AA w cb lb a cv lv co Lo S' wx := h.step (h.ctx.iff hS) (Chg.refl _ _)
theorem CtxS.r {w : World} {cb lb a : Nat} {S : Nat → Prop} (h : CtxS w cb lb a S) : ∃ c L, CtxV w (.map (some cb)) (.map (some lb)) a c L ∧ (∀ n, 1 ≤ n → n ≤ c → S n) ∧ c ≤ 501 := by
  obtain ⟨c, L, h1, h2, h3⟩ := h; exact ⟨c, L, h1.toV, fun n h1 h2 => (h3 n h1).2 (Or.inl h2), h1.c501⟩
end Go.Proofs.YtmnnojekcloblaaGreatDoor

namespace Go.Proofs.YtmnnojekcloblaaGreatDoor
open Go.RowKit Go.Maps Go.WideMaps

set_option maxHeartbeats 4000000 in
set_option maxRecDepth 100000 in
theorem addAll_any (w : World) (cb lb a : Nat) (S So : Nat → Prop) (cv lv : Value) (h : CtxS w cb lb a S) (ho : CtxR w cv lv a So)
    (hne : (∀ b, cv = .map (some b) → b ≠ cb ∧ b ≠ lb ∧ b < w.heap.size) ∧ (∀ b, lv = .map (some b) → b ≠ cb ∧ b ≠ lb ∧ b < w.heap.size)) :
    Calls Tryz.prog 103 #[.agg #[.map (some cb), .map (some lb)], .agg #[cv, lv]] w fun e w' => e = .returned (.tuple #[]) ∧ CtxS w' cb lb a (fun k => S k ∨ So k) ∧ Chg (fun k => k = cb ∨ k = lb) w w' := by
  obtain ⟨co, Lo, ho, _, hSo⟩ := ho
  have HSo : Hid (∀ n, 1 ≤ n → (So n ↔ n ≤ co ∨ Lo n = true)) := hSo
  have co501 := ho.c501
  have lo501 := ho.l501
  have HLo : Hid (∀ n, Lo n = true → co < n ∧ n ≤ 501) := lo501
  have a5 := ho.a5
  have HA0 : Hid (∀ ob ob', ob = .cells #[.map (some cb), .map (some lb)] 103 → ob' = .cells #[cv, lv] 103 → AA w cb lb a cv lv co Lo S ((w.alloc ob).alloc ob')) := fun ob ob' e1 e2 => by
    subst e1; subst e2
    have hb1 : Below w.heap.size w (w.alloc (.cells #[.map (some cb), .map (some lb)] 103)) := (Below.refl _ w).alloc (Nat.le_refl _) _
    have hb : Below w.heap.size w ((w.alloc (.cells #[.map (some cb), .map (some lb)] 103)).alloc (.cells #[cv, lv] 103)) := hb1.alloc (by simp) _
    have hb2 := (Below.refl (w.alloc (.cells #[.map (some cb), .map (some lb)] 103)).heap.size (w.alloc (.cells #[.map (some cb), .map (some lb)] 103))).alloc (Nat.le_refl _) (.cells #[cv, lv] 103)
    have e : (w.alloc (.cells #[.map (some cb), .map (some lb)] 103)).heap.size = w.heap.size + 1 := by simp
    have hR := ho.below hb
    refine ⟨h.below hb, (hb2.cell (p := ⟨w.heap.size, 0, none⟩) (by simp)).trans (World.cell?_alloc_at _ _ _ _ rfl), (hb2.cell (p := ⟨w.heap.size, 1, none⟩) (by simp)).trans (World.cell?_alloc_at _ _ _ _ rfl), ?_, ?_, hR.cs, hR.ls, h.lt, hne, by simp, Chg.of_below hb⟩
    · rw [← e]; exact World.cell?_alloc_at _ _ _ _ rfl
    · rw [← e]; exact World.cell?_alloc_at _ _ _ _ rfl
  clear h ho hSo hne lo501
  go_enter Tryz.func103, Tryz.ntmps103
  have hA := HA0.out _ _ rfl rfl
  clear HA0
  obtain ⟨Nc, hNc⟩ := hA.oc
  have o0 := hA.o0
  have hs2 : ((w.alloc (.cells #[.map (some cb), .map (some lb)] 103)).alloc (.cells #[cv, lv] 103)).heap.size = w.heap.size + 2 := by simp
  have HA : Hid (AA w cb lb a cv lv co Lo S _) := hA
  clear hA
  go_wp2_with (first | (at_range; refine wpList_rangeO rfl (.tmp 9) 100 rfl 3 kInt Tryz.underlying100 rfl hNc ?_; intro w3 hr3 hg3 hs3; have hA3 : AA w cb lb a cv lv co Lo S w3 := (HA.out.below ((Below.refl _ _).grown hg3 (Nat.le_refl _) (fun k e => by cases e))); rw [hs2] at hr3 ⊢; clear HA o0 hNc hg3 hs3; go_frame))
  go_loopg [4] Nc (fun g v4 wx => ∃ (left : Value → Prop) (cnt : Nat), g = cnt ∧ RangeO Tryz.prog 3 wx cv (w.heap.size + 2) Nc (cm a co) left cnt ∧ AA w cb lb a cv lv co Lo (fun k => S k ∨ (k ≤ co ∧ ¬ left (.int .i64 (a : Int)))) wx)
  case atStart =>
    refine ⟨_, _, rfl, hr3, hA3.iff (fun n hn => ?_)⟩
    have : ¬ (n ≤ co ∧ ¬ (cm a co (.int .i64 (a : Int))).isSome = true) := by
      rintro ⟨h1, h2⟩
      exact h2 (by simp [cm]; omega)
    simp only [this, or_false]
  case round =>
    obtain ⟨left, q, hq, hR, hA⟩ := hrel
    have HR : Hid (RangeO Tryz.prog 3 wr cv (w.heap.size + 2) Nc (cm a co) left q) := hR
    have HA : Hid (AA w cb lb a cv lv co Lo (fun k => S k ∨ (k ≤ co ∧ ¬ left (.int .i64 (a : Int)))) wr) := hA
    have Hsh : Hid (∀ key v, left key → cm a co key = some v → ∃ x : Unit, key = (fun _ => Value.int .i64 (a : Int)) x ∧ v = (fun _ => Value.int .i64 (co : Int)) x) := fun key v _ hk => ⟨(), (cm_shape hk).1, (cm_shape hk).2.1⟩
    have o1 := hA.o1
    obtain ⟨Nl, hNl⟩ := hA.ol
    clear hR hA hr3 hA3
    go_wp2_with (first | (at_next; refine wpList_nextO rfl (.tmp 10) rfl kInt (fun _ : Unit => .int .i64 (a : Int)) (fun _ => .int .i64 (co : Int)) (by first | rfl | (simp; rfl)) HR.out Hsh.out ?_ ?_))
    · intro hl0
      go_wp2_with (first | (at_range; refine wpList_rangeO rfl (.tmp 31) 101 rfl 47 kDot Tryz.underlying101 rfl hNl ?_; intro w5 hr5 hg5 hs5; have hA5 : AA w cb lb a cv lv co Lo (fun k => S k ∨ k ≤ co) w5 := ((HA.out.below ((Below.refl _ _).grown hg5 (Nat.le_refl _) (fun k e => by cases e))).iff (fun n hn => by simp [hl0])); have hrl : w.heap.size + 2 ≤ wr.heap.size := HA.out.lt; clear HA o1 hNl hg5 hs5 HR Hsh; go_frame))
      go_loopg [7] Nl (fun g v7 wx => ∃ (left2 : Value → Prop) (q2 : Nat), g = q2 ∧ RangeO Tryz.prog 117 wx lv wr.heap.size Nl (lm a Lo) left2 q2 ∧ AA w cb lb a cv lv co Lo (fun k => (S k ∨ k ≤ co) ∨ (Lo k = true ∧ ¬ left2 (dotV a k))) wx)
      case atStart =>
        refine ⟨_, _, rfl, hr5, hA5.iff (fun n hn => ?_)⟩
        have : ¬ (Lo n = true ∧ ¬ (lm a Lo (dotV a n)).isSome = true) := by
          rintro ⟨h1, h2⟩
          exact h2 (by rw [lm_some]; exact h1)
        simp only [this, or_false]
      case round =>
        obtain ⟨left2, q2, hq2, hR2, hA2⟩ := hrel
        have HR2 : Hid (RangeO Tryz.prog 117 wr lv _ Nl (lm a Lo) left2 q2) := hR2
        have HA2 : Hid (AA w cb lb a cv lv co Lo (fun k => (S k ∨ k ≤ co) ∨ (Lo k = true ∧ ¬ left2 (dotV a k))) wr) := hA2
        have Hsh2 : Hid (∀ key v, left2 key → lm a Lo key = some v → ∃ x : Nat, key = (fun n : Nat => dotV a n) x ∧ v = (fun _ => unitV) x) := fun key v _ hk => by obtain ⟨n, h1, h2, h3⟩ := lm_shape hk; exact ⟨n, h2, h3⟩
        clear hR2 hA2 hr5 hA5
        go_wp2_with (first | (at_next; refine wpList_nextO rfl (.tmp 32) rfl kDot (fun n : Nat => dotV a n) (fun _ => unitV) rfl HR2.out Hsh2.out ?_ ?_))
        · intro hl2
          have HF : Hid (CtxS wr cb lb a (fun k => S k ∨ So k)) := HA2.out.ctx.iff (fun n hn => by
            rw [HSo.out n hn]
            simp only [hl2, not_false_eq_true, and_true]
            exact ⟨fun h => h.elim (fun h => Or.inl (Or.inl h)) (fun h => h.elim (fun h => Or.inl (Or.inr h)) Or.inr), fun h => h.elim (fun h => h.elim Or.inl (fun h => Or.inr (Or.inl h))) (fun h => Or.inr (Or.inr h))⟩)
          have HCh : Hid (Chg (fun k => k = cb ∨ k = lb) w wr) := HA2.out.chg
          clear HR2 HA2 Hsh2
          go_wp2
          go_end0
          exact ⟨rfl, HF.out, HCh.out⟩
        · intro n w6 q6 hlk6 hmk6 hR6 hlt6 hg6 hs6 hen6
          have hLn : Lo n = true := by rw [← lm_some a n Lo, hmk6]; rfl
          have hn := HLo.out n hLn
          have hA6 := HA2.out.turn hrl hg6
          have HA6 : Hid (AA w cb lb a cv lv co Lo (fun k => (S k ∨ k ≤ co) ∨ (Lo k = true ∧ ¬ left2 (dotV a k))) w6) := hA6
          have b0 := hA6.b0
          have b1 := hA6.b1
          have hlt2 := hA6.lt
          have b0A : ∀ o, (w6.alloc o).cell? ⟨w.heap.size, 0, none⟩ = some (.map (some cb)) := fun o => (HA6.out.below ((Below.refl _ w6).alloc (Nat.le_refl _) o)).b0
          have b1A : ∀ o, (w6.alloc o).cell? ⟨w.heap.size, 1, none⟩ = some (.map (some lb)) := fun o => (HA6.out.below ((Below.refl _ w6).alloc (Nat.le_refl _) o)).b1
          have HR6 : Hid (RangeO Tryz.prog 117 w6 lv _ Nl (lm a Lo) (fun y => left2 y ∧ ¬ y = dotV a n) q6) := hR6
          have Hadd : Hid (∀ wx, Below w6.heap.size w6 wx → Calls Tryz.prog 100 #[.agg #[.map (some cb), .map (some lb)], dotV a n] wx fun e w' => e = .returned (.tuple #[]) ∧ AA w cb lb a cv lv co Lo (fun k => ((S k ∨ k ≤ co) ∨ (Lo k = true ∧ ¬ left2 (dotV a k))) ∨ k = n) w' ∧ RangeO Tryz.prog 117 w' lv _ Nl (lm a Lo) (fun y => left2 y ∧ ¬ y = dotV a n) q6) := fun wx hb => by
            have hA' := HA6.out.below hb
            refine Calls.mono (add_any wx cb lb a n _ hA'.ctx (by omega) hn.2) ?_
            rintro e w' ⟨rfl, h1, h2⟩
            have hol := hA'.old
            exact ⟨rfl, hA'.step h1 h2, (HR6.out.chg (M := fun _ => False) (Chg.of_below hb) (fun _ _ h => h) (fun h => h)).chg h2 (fun b hb => by have := hA'.ne.2 b hb; omega) (by omega)⟩
          clear hR6 hA6 HR2 HA2 Hsh2 HA6 HR6
          go_wp2_with fail
          refine Calls.mono (Hadd.out _ ?_) ?_
          · go_grown
          rintro e w7 ⟨rfl, hA7, hR7⟩
          have HA7 : Hid (AA w cb lb a cv lv co Lo (fun k => (S k ∨ k ≤ co) ∨ (Lo k = true ∧ ¬ (left2 (dotV a k) ∧ ¬ dotV a k = dotV a n))) w7) := hA7.iff (fun k hk => by
            constructor
            · rintro (h | ⟨h1, h2⟩)
              · exact Or.inl (Or.inl h)
              · by_cases e : k = n
                · exact Or.inr e
                · refine Or.inl (Or.inr ⟨h1, fun h3 => h2 ⟨h3, fun e2 => e ?_⟩⟩)
                  simp [dotV] at e2; omega
            · rintro ((h | ⟨h1, h2⟩) | rfl)
              · exact Or.inl h
              · exact Or.inr ⟨h1, fun h3 => h2 h3.1⟩
              · exact Or.inr ⟨hLn, fun h3 => h3.2 rfl⟩)
          have HR7 : Hid (RangeO Tryz.prog 117 w7 lv _ Nl (lm a Lo) (fun y => left2 y ∧ ¬ y = dotV a n) q6) := hR7
          clear hA7 hR7 Hadd b0 b1 b0A b1A hen6
          go_wp2_with fail
          go_roundg q6
          case measure => omega
          case rel => exact ⟨_, q6, rfl, HR7.out, HA7.out⟩
    · intro w4 q' hlk hmk hR4 hlt hg4 hs4 hen
      have hA4 := HA.out.turn (Nat.le_refl _) hg4
      obtain ⟨c1, L1, hV, hsub, hc1⟩ := hA4.ctx.r
      have HA4 : Hid (AA w cb lb a cv lv co Lo (fun k => S k ∨ (k ≤ co ∧ ¬ left (.int .i64 (a : Int)))) w4) := hA4
      have HR4 : Hid (RangeO Tryz.prog 3 w4 cv (w.heap.size + 2) Nc (cm a co) (fun y => left y ∧ ¬ y = Value.int IntKind.i64 (a : Int)) q') := hR4
      have Hsub : Hid (∀ n, 1 ≤ n → n ≤ c1 → (S n ∨ (n ≤ co ∧ ¬ left (.int .i64 (a : Int))))) := hsub
      have b0 := hA4.b0
      have b1 := hA4.b1
      have Hn : Hid (_) := next_any w4 _ _ a c1 L1 hV
      have hwne := hA4.ne.1
      have hold := hA4.old
      clear hA4 hV hR4 HR HA hsub o1 hNl Hsh hg4
      go_wp2_with fail
      refine Calls.mono Hn.out ?_
      rintro e w5 ⟨rfl, hb5⟩
      have HA5 : Hid (AA w cb lb a cv lv co Lo (fun k => S k ∨ (k ≤ co ∧ ¬ left (.int .i64 (a : Int)))) w5) := HA4.out.below hb5
      have HR5 : Hid (RangeO Tryz.prog 3 w5 cv (w.heap.size + 2) Nc (cm a co) (fun y => left y ∧ ¬ y = Value.int IntKind.i64 (a : Int)) q') := HR4.out.chg (M := fun _ => False) (Chg.of_below hb5) (fun _ _ h => h) (fun h => h)
      have hfd := dot_nth (a : Int) ((c1 : Int) + 1)
      clear HA4 HR4 Hn b0 b1 hb5 hen
      go_wp2_with fail
      clear hfd
      go_loopg [6] (co + 1 - (c1 + 1)) (fun g v6 wx => ∃ nth : Nat, c1 + 1 ≤ nth ∧ (nth ≤ co + 1 ∨ nth = c1 + 1) ∧ v6 = .int .i64 (nth : Int) ∧ g = co + 1 - nth ∧ RangeO Tryz.prog 3 wx cv (w.heap.size + 2) Nc (cm a co) (fun y => left y ∧ ¬ y = Value.int IntKind.i64 (a : Int)) q' ∧ AA w cb lb a cv lv co Lo (fun k => (S k ∨ (k ≤ co ∧ ¬ left (.int .i64 (a : Int)))) ∨ (c1 < k ∧ k < nth)) wx)
      case atStart => exact ⟨c1 + 1, by omega, by omega, rfl, rfl, HR5.out, HA5.out.iff (fun n hn => by constructor; (rintro (h | h); exact h; omega); exact Or.inl)⟩
      case round =>
        obtain ⟨nth, hn1, hn2, rfl, hg, hR6, hA6⟩ := hrel
        have HR6 : Hid (RangeO Tryz.prog 3 wr cv (w.heap.size + 2) Nc (cm a co) (fun y => left y ∧ ¬ y = Value.int IntKind.i64 (a : Int)) q') := hR6
        have HA6 : Hid (AA w cb lb a cv lv co Lo (fun k => (S k ∨ (k ≤ co ∧ ¬ left (.int .i64 (a : Int)))) ∨ (c1 < k ∧ k < nth)) wr) := hA6
        have b0 := hA6.b0
        have b1 := hA6.b1
        clear hR6 hA6 HA5 HR5
        by_cases hle : nth ≤ co
        · have Hadd : Hid (_) := add_any wr cb lb a nth _ HA6.out.ctx (by omega) (by omega)
          go_wp2_with fail
          refine Calls.mono Hadd.out ?_
          rintro e w7 ⟨rfl, hc7, hch7⟩
          have HA7 : Hid (AA w cb lb a cv lv co Lo (fun k => (S k ∨ (k ≤ co ∧ ¬ left (.int .i64 (a : Int)))) ∨ (c1 < k ∧ k < nth + 1)) w7) := (HA6.out.step hc7 hch7).iff (fun n hn => by
            constructor
            · rintro (h | h)
              · exact Or.inl (Or.inl h)
              · by_cases e : n = nth
                · exact Or.inr e
                · exact Or.inl (Or.inr (by omega))
            · rintro ((h | h) | h)
              · exact Or.inl h
              · exact Or.inr (by omega)
              · exact Or.inr (by omega))
          have HR7 : Hid (RangeO Tryz.prog 3 w7 cv (w.heap.size + 2) Nc (cm a co) (fun y => left y ∧ ¬ y = Value.int IntKind.i64 (a : Int)) q') := HR6.out.chg hch7 (fun b hb => by have := hwne b hb; omega) (by omega)
          clear Hadd hc7 hch7 HA6 HR6 b0 b1
          go_wp2_with fail
          go_roundg (co + 1 - (nth + 1))
          case measure => omega
          case rel => exact ⟨nth + 1, by omega, by omega, by go_num, rfl, HR7.out, HA7.out⟩
        · go_wp2_with fail
          go_roundg q'
          case measure => omega
          case rel => exact ⟨_, q', rfl, HR6.out, HA6.out.iff (fun n hn => by
            have hle2 : co < nth := by omega
            constructor
            · rintro (h | ⟨h, _⟩)
              · exact Or.inl (Or.inl h)
              · by_cases e : n ≤ c1
                · exact Or.inl (Hsub.out n hn e)
                · exact Or.inr (by omega)
            · rintro ((h | h) | h)
              · exact Or.inl h
              · exact absurd hlk h.2
              · refine Or.inr ⟨by omega, fun hh => hh.2 rfl⟩)⟩
end Go.Proofs.YtmnnojekcloblaaGreatDoor

namespace Go.Proofs.YtmnnojekcloblaaGreatDoor
open Go.RowKit Go.Maps Go.WideMaps

/-- The items of a store: at the dots of a. -/
noncomputable def im (a : Nat) (It : Nat → Option Value) : Value → Option Value := fun key => @dite _ (∃ n : Nat, key = dotV a n) (Classical.propDecidable _) (fun h => It (Classical.choose h)) (fun _ => none)
theorem dotV_inj {a n m : Nat} (h : dotV a n = dotV a m) : n = m := by simp [dotV] at h; omega
theorem im_dot (a : Nat) (It : Nat → Option Value) (n : Nat) : im a It (dotV a n) = It n := by
  unfold im
  have h : ∃ m : Nat, dotV a n = dotV a m := ⟨n, rfl⟩
  rw [dif_pos h]
  have := Classical.choose_spec h
  rw [← dotV_inj this]
theorem im_shape {a : Nat} {It : Nat → Option Value} {key v : Value} (h : im a It key = some v) : ∃ n : Nat, key = dotV a n ∧ It n = some v := by
  unfold im at h
  split at h
  · rename_i hh; exact ⟨_, Classical.choose_spec hh, h⟩
  · cases h
theorem im_ext {a : Nat} {It : Nat → Option Value} {m : Value → Option Value} (h1 : ∀ n : Nat, m (dotV a n) = It n) (h2 : ∀ key, (∀ n : Nat, key ≠ dotV a n) → m key = none) : m = im a It := by
  funext key
  by_cases h : ∃ n : Nat, key = dotV a n
  · obtain ⟨n, rfl⟩ := h; rw [h1, im_dot]
  · rw [h2 key (fun n e => h ⟨n, e⟩)]; unfold im; rw [dif_neg h]
theorem im_upd (a : Nat) (It : Nat → Option Value) (n : Nat) (v : Value) : upd (im a It) (dotV a n) v = im a (fun k => if k = n then some v else It k) := by
  apply im_ext
  · intro k
    by_cases e : k = n
    · subst e; rw [upd_same, if_pos rfl]
    · rw [upd_other (fun e2 => e (dotV_inj e2)), im_dot, if_neg e]
  · intro key hk
    rw [upd_other (hk n)]
    unfold im
    rw [dif_neg (fun ⟨n, e⟩ => hk n e)]
theorem im_none (a : Nat) : im a (fun _ => none) = fun _ => none := by
  symm; apply im_ext <;> intros <;> rfl

/-- A store (to be written). -/
structure StoreS (w : World) (ib cb lb a : Nat) (S : Nat → Prop) (It : Nat → Option Value) : Prop where
  ctx : CtxS w cb lb a S
  its : ∃ N, MapV Tryz.prog 117 w ib N (im a It)
  ne : ib ≠ cb ∧ ib ≠ lb
  ok : ∀ n, It n ≠ none → 1 ≤ n ∧ n ≤ 501 ∧ S n
/-- .. (to be read). -/
structure StoreR (w : World) (iv cv lv : Value) (a : Nat) (S : Nat → Prop) (It : Nat → Option Value) : Prop where
  ctx : CtxR w cv lv a S
  its : ∃ N, MapO Tryz.prog 117 w iv N (im a It)
  ok : ∀ n, It n ≠ none → 1 ≤ n ∧ n ≤ 501 ∧ S n
theorem StoreS.toR {w : World} {ib cb lb a : Nat} {S : Nat → Prop} {It : Nat → Option Value} (h : StoreS w ib cb lb a S It) : StoreR w (.map (some ib)) (.map (some cb)) (.map (some lb)) a S It :=
  ⟨h.ctx.toR, h.its.imp fun N h => Or.inr ⟨ib, rfl, h⟩, h.ok⟩
theorem CtxR.chg {M : Nat → Prop} {w w' : World} {cv lv : Value} {a : Nat} {S : Nat → Prop} (h : CtxR w cv lv a S) (hc : Chg M w w') (h1 : ∀ b, cv = .map (some b) → ¬ M b) (h2 : ∀ b, lv = .map (some b) → ¬ M b) : CtxR w' cv lv a S := by
  obtain ⟨c, L, ⟨⟨N, g1⟩, ⟨N', g2⟩, g3, g4, g5⟩, r⟩ := h
  exact ⟨c, L, ⟨⟨N, g1.chg hc h1⟩, ⟨N', g2.chg hc h2⟩, g3, g4, g5⟩, r⟩
theorem StoreR.chg {M : Nat → Prop} {w w' : World} {iv cv lv : Value} {a : Nat} {S : Nat → Prop} {It : Nat → Option Value} (h : StoreR w iv cv lv a S It) (hc : Chg M w w') (h1 : ∀ b, iv = .map (some b) ∨ cv = .map (some b) ∨ lv = .map (some b) → ¬ M b) : StoreR w' iv cv lv a S It :=
  ⟨h.ctx.chg hc (fun b hb => h1 b (Or.inr (Or.inl hb))) (fun b hb => h1 b (Or.inr (Or.inr hb))), h.its.imp fun N g => g.chg hc (fun b hb => h1 b (Or.inl hb)), h.ok⟩
theorem StoreR.below {w w' : World} {iv cv lv : Value} {a : Nat} {S : Nat → Prop} {It : Nat → Option Value} (h : StoreR w iv cv lv a S It) (hb : Below w.heap.size w w') : StoreR w' iv cv lv a S It := h.chg (M := fun _ => False) (Chg.of_below hb) (fun _ _ h => h)
theorem StoreS.chg {M : Nat → Prop} {w w' : World} {ib cb lb a : Nat} {S : Nat → Prop} {It : Nat → Option Value} (h : StoreS w ib cb lb a S It) (hc : Chg M w w') (h1 : ¬ M ib) (h2 : ¬ M cb) (h3 : ¬ M lb) : StoreS w' ib cb lb a S It :=
  ⟨h.ctx.chg hc h2 h3, h.its.imp fun N g => g.block (hc.block _ g.lt h1), h.ne, h.ok⟩
theorem StoreS.below {w w' : World} {ib cb lb a : Nat} {S : Nat → Prop} {It : Nat → Option Value} (h : StoreS w ib cb lb a S It) (hb : Below w.heap.size w w') : StoreS w' ib cb lb a S It := h.chg (M := fun _ => False) (Chg.of_below hb) (fun h => h) (fun h => h) (fun h => h)
theorem StoreS.lt {w : World} {ib cb lb a : Nat} {S : Nat → Prop} {It : Nat → Option Value} (h : StoreS w ib cb lb a S It) : ib < w.heap.size ∧ cb < w.heap.size ∧ lb < w.heap.size := ⟨h.its.elim fun _ g => g.lt, h.ctx.lt⟩
theorem MapO.lt {P : Program} {k : TypeId} {w : World} {v : Value} {N : Nat} {m : Value → Option Value} (h : MapO P k w v N m) : ∀ b, v = .map (some b) → b < w.heap.size := by
  intro b hb
  rcases h with ⟨h, _⟩ | ⟨b', h, h2⟩
  · rw [h] at hb; cases hb
  · rw [h] at hb; cases hb; exact h2.lt
theorem StoreR.lt {w : World} {iv cv lv : Value} {a : Nat} {S : Nat → Prop} {It : Nat → Option Value} (h : StoreR w iv cv lv a S It) : ∀ b, iv = .map (some b) ∨ cv = .map (some b) ∨ lv = .map (some b) → b < w.heap.size := by
  obtain ⟨⟨c, L, ⟨⟨N, g1⟩, ⟨N', g2⟩, _⟩, _⟩, ⟨N2, g3⟩, _⟩ := h
  rintro b (hb | hb | hb)
  · exact g3.lt b hb
  · exact g1.lt b hb
  · exact g2.lt b hb

/-- A slice of dots of a. -/
def SliceD (w : World) (v : Value) (a : Nat) (ns : List Nat) : Prop :=
  (v = .slice none 0 0 ∧ ns = []) ∨ ∃ b off cap, v = .slice (some ⟨b, off, none⟩) ns.length cap ∧ ns.length ≤ cap ∧ b < w.heap.size ∧ ∀ j (h : j < ns.length), w.cell? ⟨b, off + j * 2, none⟩ = some (.int .i64 (a : Int)) ∧ w.cell? ⟨b, off + j * 2 + 1, none⟩ = some (.int .i64 (ns[j] : Int))
theorem SliceD.chg {M : Nat → Prop} {w w' : World} {v : Value} {a : Nat} {ns : List Nat} (h : SliceD w v a ns) (hc : Chg M w w') (hm : ∀ b, v.ownBlock = some b → ¬ M b) : SliceD w' v a ns := by
  rcases h with h | ⟨b, off, cap, rfl, h2, h3, h4⟩
  · exact Or.inl h
  · have e : ∀ i, w'.cell? ⟨b, i, none⟩ = w.cell? ⟨b, i, none⟩ := fun i => World.cell?_of_block (w := w) (hc.block b h3 (hm b rfl))
    exact Or.inr ⟨b, off, cap, rfl, h2, Nat.lt_of_lt_of_le h3 hc.size, fun j hj => ⟨(e _).trans (h4 j hj).1, (e _).trans (h4 j hj).2⟩⟩
theorem SliceD.below {w w' : World} {v : Value} {a : Nat} {ns : List Nat} (h : SliceD w v a ns) (hb : Below w.heap.size w w') : SliceD w' v a ns := h.chg (M := fun _ => False) (Chg.of_below hb) (fun _ _ h => h)
end Go.Proofs.YtmnnojekcloblaaGreatDoor

namespace Go.Proofs.YtmnnojekcloblaaGreatDoor
open Go.RowKit Go.Maps Go.WideMaps

/-- In the midst of Gone. -/
structure GN (w : World) (dv : Value) (ib cb lb a B : Nat) (ns : List Nat) (S : Nat → Prop) (wx : World) : Prop where
  st : StoreS wx ib cb lb a S (fun _ => none)
  new : w.heap.size < ib ∧ w.heap.size < cb ∧ w.heap.size < lb ∧ w.heap.size < B
  apart : B ≠ ib ∧ B ≠ cb ∧ B ≠ lb
  lt : B < wx.heap.size
  b0 : wx.cell? ⟨B, 0, none⟩ = some (.map (some ib))
  b1 : wx.cell? ⟨B, 1, none⟩ = some (.map (some cb))
  b2 : wx.cell? ⟨B, 2, none⟩ = some (.map (some lb))
  r0 : ∃ u0 u1 u2, wx.heap[w.heap.size]? = some (.cells #[u0, u1, u2] 105 (0, 0))
  ds : SliceD wx dv a ns
  below : Below w.heap.size w wx
theorem GN.mono {w : World} {dv : Value} {ib cb lb a B : Nat} {ns : List Nat} {S : Nat → Prop} {wx wy : World} (h : GN w dv ib cb lb a B ns S wx) (hb : Below wx.heap.size wx wy) : GN w dv ib cb lb a B ns S wy := by
  obtain ⟨u0, u1, u2, hr⟩ := h.r0
  exact ⟨h.st.below hb, h.new, h.apart, Nat.lt_of_lt_of_le h.lt hb.size, (hb.cell (p := ⟨B, 0, none⟩) h.lt).trans h.b0, (hb.cell (p := ⟨B, 1, none⟩) h.lt).trans h.b1, (hb.cell (p := ⟨B, 2, none⟩) h.lt).trans h.b2, ⟨u0, u1, u2, (hb.block _ (Array.getElem?_eq_some_iff.1 hr).1).trans hr⟩, h.ds.below hb, h.below.trans (hb.mono h.below.size)⟩
theorem GN.step {w : World} {dv : Value} {ib cb lb a B : Nat} {ns : List Nat} {S S' : Nat → Prop} {wx wy : World} (h : GN w dv ib cb lb a B ns S wx) (hd : ∀ b, dv.ownBlock = some b → b < w.heap.size) (hc : CtxS wy cb lb a S') (hg : Chg (fun k => k = cb ∨ k = lb) wx wy) : GN w dv ib cb lb a B ns S' wy := by
  obtain ⟨u0, u1, u2, hr⟩ := h.r0
  have hn := h.new
  have ha := h.apart
  have hi := h.st.ne
  have hcell : ∀ i, wy.cell? ⟨B, i, none⟩ = wx.cell? ⟨B, i, none⟩ := fun i => World.cell?_of_block (w := wx) (hg.block B h.lt (by omega))
  refine ⟨⟨hc, h.st.its.imp fun N g => g.block (hg.block _ g.lt (by omega)), hi, fun n hn => absurd rfl hn⟩, hn, ha, Nat.lt_of_lt_of_le h.lt hg.size, (hcell 0).trans h.b0, (hcell 1).trans h.b1, (hcell 2).trans h.b2, ⟨u0, u1, u2, (hg.block _ (Array.getElem?_eq_some_iff.1 hr).1 (by omega)).trans hr⟩, h.ds.chg hg (fun b hb => by have := hd b hb; omega), ?_⟩
  exact h.below.trans ⟨hg.os, hg.tape, hg.output, hg.size, fun k hk => hg.block k (Nat.lt_of_lt_of_le hk h.below.size) (by omega)⟩

set_option maxHeartbeats 4000000 in
set_option maxRecDepth 100000 in
theorem Gone_any (w : World) (dv : Value) (a : Nat) (ns : List Nat) (hd : SliceD w dv a ns) (hl : ns.length ≤ 1000000) (ha : a ≤ 5) (hns : ∀ n ∈ ns, 1 ≤ n ∧ n ≤ 501) :
    Calls Tryz.prog 62 #[dv] w fun e w' => ∃ ib cb lb, e = .returned (.agg #[.map (some ib), .map (some cb), .map (some lb)]) ∧ StoreS w' ib cb lb a (fun n => n ∈ ns) (fun _ => none) ∧ (w.heap.size ≤ ib ∧ w.heap.size ≤ cb ∧ w.heap.size ≤ lb) ∧ Below w.heap.size w w' := by
  have hmm := @run_makeMap Tryz.prog
  have HD : Hid (SliceD w dv a ns) := hd
  have Hdb : Hid (∀ b, dv.ownBlock = some b → b < w.heap.size) := by
    rcases hd with ⟨rfl, _⟩ | ⟨b, off, cap, rfl, _, h3, _⟩
    · intro b hb; cases hb
    · intro b' hb; cases hb; exact h3
  have hshape : ∃ ao cap, dv = .slice ao ns.length cap ∧ ns.length ≤ cap := by
    rcases hd with ⟨rfl, rfl⟩ | ⟨b, off, cap, rfl, h2, _⟩
    · exact ⟨none, 0, rfl, Nat.le_refl _⟩
    · exact ⟨_, cap, rfl, h2⟩
  obtain ⟨ao, cap, hdv, hcap⟩ := hshape
  have Hns : Hid (∀ n ∈ ns, 1 ≤ n ∧ n ≤ 501) := hns
  clear hd hns
  subst hdv
  go_enter Tryz.func62, Tryz.ntmps62
  go_wp2_with fail
  refine Calls.mono (newContext_any _) ?_
  rintro e w1 ⟨cb, lb, rfl, hc1, hcb, hlb, hb1⟩
  have HG0 : Hid (∀ ob, ob = .cells #[.map (some (w.heap.size + 1)), .map (some cb), .map (some lb)] 105 → GN w (.slice ao ns.length cap) (w.heap.size + 1) cb lb a w1.heap.size ns (fun n => n ∈ ns.take 0) (w1.alloc ob)) := fun ob hob => by
    subst hob
    have e1 : (w.alloc (.cells #[.map none, .map none, .map none] 105)).heap.size = w.heap.size + 1 := by simp
    have e2 : ((w.alloc (.cells #[.map none, .map none, .map none] 105)).alloc (.map #[] 0)).heap.size = w.heap.size + 2 := by simp
    have m1 := MapV.made (w.alloc (.cells #[.map none, .map none, .map none] 105)) Tryz.prog 117
    rw [e1] at m1
    rw [e2] at hcb hlb hb1
    have hs := hb1.size
    have m1' : MapV Tryz.prog 117 w1 (w.heap.size + 1) 0 (fun _ => none) := m1.block (hb1.block _ (by omega))
    have hr : w1.heap[w.heap.size]? = some (.cells #[.map none, .map none, .map none] 105 (0, 0)) := (hb1.block _ (by omega)).trans ((((Below.refl _ (w.alloc (.cells #[.map none, .map none, .map none] 105))).alloc (Nat.le_refl _) (.map #[] 0)).block _ (by simp)).trans (heap_alloc_new w _))
    have hbw : Below w.heap.size w w1 := (((Below.refl _ w).alloc (Nat.le_refl _) _).alloc (by simp) _).trans (hb1.mono (by omega))
    have hz := (Below.refl _ w1).alloc (Nat.le_refl _) (.cells #[.map (some (w.heap.size + 1)), .map (some cb), .map (some lb)] 105)
    have hx := (hc1 a ha).below hz
    have hlt := (hc1 a ha).lt
    refine ⟨⟨hx.iff (fun n _ => by simp), ⟨0, by rw [im_none]; exact m1'.block (hz.block _ m1'.lt)⟩, by omega, fun n hn => absurd rfl hn⟩, by omega, by omega, by simp, World.cell?_alloc_at _ _ _ _ rfl, World.cell?_alloc_at _ _ _ _ rfl, World.cell?_alloc_at _ _ _ _ rfl, ⟨_, _, _, (hz.block _ (by omega)).trans hr⟩, (HD.out.below hbw).below hz, hbw.trans (hz.mono hbw.size)⟩
  clear HD hc1 hcb hlb hb1 hmm
  go_wp2_with fail
  go_loopg [11] ns.length (fun g v11 wx => ∃ i : Nat, i + g = ns.length ∧ v11 = .int .i64 (i : Int) ∧ GN w (.slice ao ns.length cap) (w.heap.size + 1) cb lb a w1.heap.size ns (fun n => n ∈ ns.take i) wx)
  case atStart => exact ⟨0, by omega, rfl, HG0.out _ rfl⟩
  case round =>
    obtain ⟨i, hig, rfl, hG⟩ := hrel
    have HG : Hid (GN w (.slice ao ns.length cap) (w.heap.size + 1) cb lb a w1.heap.size ns (fun n => n ∈ ns.take i) wr) := hG
    clear HG0
    by_cases hi : i < ns.length
    · obtain ⟨b, off, cap', hv, hcap', hb, hcells⟩ := hG.ds.resolve_left (fun h => by rw [h.2] at hi; simp at hi)
      simp only [Value.slice.injEq] at hv
      obtain ⟨rfl, _, rfl⟩ := hv
      have k0 := (hcells i hi).1
      have k1 := (hcells i hi).2
      have hni := Hns.out _ (List.getElem_mem hi)
      have hall : ns.take (i + 1) = ns.take i ++ [ns[i]] := List.take_succ_eq_append_getElem hi
      have b1A : ∀ o, (wr.alloc o).cell? ⟨w1.heap.size, 1, none⟩ = some (.map (some cb)) := fun o => (HG.out.mono ((Below.refl _ wr).alloc (Nat.le_refl _) o)).b1
      have b2A : ∀ o, (wr.alloc o).cell? ⟨w1.heap.size, 2, none⟩ = some (.map (some lb)) := fun o => (HG.out.mono ((Below.refl _ wr).alloc (Nat.le_refl _) o)).b2
      have Hadd : Hid (∀ wx, Below wr.heap.size wr wx → Calls Tryz.prog 100 #[.agg #[.map (some cb), .map (some lb)], dotV a (ns[i] : Nat)] wx fun e w' => e = .returned (.tuple #[]) ∧ GN w (.slice (some ⟨b, off, none⟩) ns.length cap) (w.heap.size + 1) cb lb a w1.heap.size ns (fun n => n ∈ ns.take (i + 1)) w') := fun wx hb => by
        have hG' := HG.out.mono hb
        refine Calls.mono (add_any wx cb lb a ns[i] _ hG'.st.ctx hni.1 hni.2) ?_
        rintro e w' ⟨rfl, h1, h2⟩
        exact ⟨rfl, hG'.step Hdb.out (h1.iff (fun n _ => by show n ∈ ns.take (i + 1) ↔ (n ∈ ns.take i ∨ n = ns[i]); rw [hall, List.mem_append, List.mem_singleton])) h2⟩
      generalize ns[i] = n at *
      clear hG hcells
      go_wp2_with fail
      refine Calls.mono (Hadd.out _ ?_) ?_
      · go_grown
      rintro e w7 ⟨rfl, hG7⟩
      have HG7 : Hid (GN w (.slice (some ⟨b, off, none⟩) ns.length cap) (w.heap.size + 1) cb lb a w1.heap.size ns (fun n => n ∈ ns.take (i + 1)) w7) := hG7
      clear hG7 Hadd b1A b2A k0 k1
      go_wp2_with fail
      go_roundg (ns.length - (i + 1))
      case measure => omega
      case rel => exact ⟨i + 1, by omega, by go_num, HG7.out⟩
    · have b0 := hG.b0
      have b1 := hG.b1
      have b2 := hG.b2
      obtain ⟨u0, u1, u2, hr⟩ := hG.r0
      have hrc : ∀ j, wr.cell? ⟨w.heap.size, j, none⟩ = #[u0, u1, u2][j]? := fun j => by simp [World.cell?, hr]
      have f0 : ∀ j, wr.frozen? ⟨w.heap.size, j, none⟩ = false := fun j => by simp [World.frozen?, hr]
      have r0 := hrc 0
      have r1 := hrc 1
      have r2 := hrc 2
      simp at r0 r1 r2
      have hw := hG.below.size
      have hn := hG.new
      have HF : Hid (∀ wx, Chg (fun k => k = w.heap.size) wr wx → StoreS wx (w.heap.size + 1) cb lb a (fun n => n ∈ ns) (fun _ => none)) := fun wx hc => by
        have h := HG.out.st.chg hc (by omega) (by omega) (by omega)
        exact ⟨h.ctx.iff (fun n _ => by rw [List.take_of_length_le (by omega)]), h.its, h.ne, fun n hn => absurd rfl hn⟩
      have HB : Hid (Below w.heap.size w wr) := HG.out.below
      clear hG hr hrc
      go_wp2_with fail
      refine bodyPost_ret (v := .agg #[.map (some (w.heap.size + 1)), .map (some cb), .map (some lb)]) (by simp [results, Tryz.results62, go_sem, r0, r1, r2, cs_same, cs_oth, World.cell?_setCell_other]) rfl ⟨_, _, _, rfl, HF.out _ ?_, by omega, ?_⟩
      · exact (((Chg.refl (fun k => k = w.heap.size) wr).setCell (p := ⟨w.heap.size, 0, none⟩) rfl _).setCell (p := ⟨w.heap.size, 1, none⟩) rfl _).setCell (p := ⟨w.heap.size, 2, none⟩) rfl _
      · exact ((HB.out.setCell (p := ⟨w.heap.size, 0, none⟩) (Nat.le_refl _) _).setCell (p := ⟨w.heap.size, 1, none⟩) (Nat.le_refl _) _).setCell (p := ⟨w.heap.size, 2, none⟩) (Nat.le_refl _) _
end Go.Proofs.YtmnnojekcloblaaGreatDoor

namespace Go.Proofs.YtmnnojekcloblaaGreatDoor
open Go.RowKit Go.Maps Go.WideMaps

theorem zCh (w : World) : (zeroValue 63).run Tryz.prog w = .ok (.agg #[.string ⟨#[]⟩, .int .u8 0, .string ⟨#[]⟩, .int .i64 0]) w := by kernel_rfl

theorem items_bound {w : World} {ib N a : Nat} {It : Nat → Option Value} (h : MapV Tryz.prog 117 w ib N (im a It)) (hl : ∀ n, It n ≠ none → n ≤ 501) : N ≤ 502 := by
  refine h.bound kDot (fun n => dotV a n) ?_
  intro key hk
  obtain ⟨v, hv⟩ := Option.isSome_iff_exists.1 hk
  obtain ⟨n, h1, h2⟩ := im_shape hv
  exact ⟨n, by have := hl n (by rw [h2]; simp); omega, h1⟩

theorem StoreS.put {w w' : World} {ib cb lb a n N : Nat} {S : Nat → Prop} {It : Nat → Option Value} {v : Value} (h : StoreS w ib cb lb a S It) (hg : w.grownBy w' (some ib)) (hm : MapV Tryz.prog 117 w' ib N (upd (im a It) (dotV a n) v)) (h1 : 1 ≤ n) (h2 : n ≤ 501) (h3 : S n) : StoreS w' ib cb lb a S (fun k => if k = n then some v else It k) := by
  have hc : Chg (fun k => k = ib) w w' := (Chg.refl _ w).grown hg (fun k e => by cases e; exact Or.inl rfl)
  refine ⟨h.ctx.chg hc (fun e => h.ne.1 e.symm) (fun e => h.ne.2 e.symm), ⟨N, by rw [im_upd] at hm; exact hm⟩, h.ne, fun k hk => ?_⟩
  by_cases e : k = n
  · subst e; exact ⟨h1, h2, h3⟩
  · exact h.ok k (by simpa [e] using hk)

/-- A block of cells. -/
def Blk (w : World) (b : Nat) (cs : Array Value) (t : TypeId) : Prop := w.heap[b]? = some (.cells cs t (0, 0))
theorem Blk.cell {w : World} {b : Nat} {cs : Array Value} {t : TypeId} (h : Blk w b cs t) (j : Nat) : w.cell? ⟨b, j, none⟩ = cs[j]? := by simp [World.cell?, show w.heap[b]? = _ from h]
theorem Blk.frozen {w : World} {b : Nat} {cs : Array Value} {t : TypeId} (h : Blk w b cs t) (j : Nat) : w.frozen? ⟨b, j, none⟩ = false := by simp [World.frozen?, show w.heap[b]? = _ from h]
theorem Blk.lt {w : World} {b : Nat} {cs : Array Value} {t : TypeId} (h : Blk w b cs t) : b < w.heap.size := (Array.getElem?_eq_some_iff.1 h).1
theorem Blk.chg {M : Nat → Prop} {w w' : World} {b : Nat} {cs : Array Value} {t : TypeId} (h : Blk w b cs t) (hc : Chg M w w') (hm : ¬ M b) : Blk w' b cs t := (hc.block b h.lt hm).trans h
theorem Blk.below {w w' : World} {b : Nat} {cs : Array Value} {t : TypeId} (h : Blk w b cs t) (hb : Below w.heap.size w w') : Blk w' b cs t := (hb.block b h.lt).trans h
theorem Blk.alloc {w : World} {b : Nat} {cs : Array Value} {t : TypeId} (h : Blk w b cs t) (o : Obj) : Blk (w.alloc o) b cs t := h.below ((Below.refl _ w).alloc (Nat.le_refl _) o)
theorem Blk.grown {w w' : World} {k b : Nat} {cs : Array Value} {t : TypeId} (h : Blk w b cs t) (hg : w.grownBy w' (some k)) (hm : b ≠ k) : Blk w' b cs t := (hg.block b h.lt (fun e => hm (by cases e; rfl))).trans h
theorem Blk.new (w : World) (cs : Array Value) (t : TypeId) : Blk (w.alloc (.cells cs t)) w.heap.size cs t := heap_alloc_new w _

set_option maxHeartbeats 4000000 in
set_option maxRecDepth 100000 in
theorem One_any (w : World) (a n : Nat) (c0 c1 c2 c3 : Value) (ha : a ≤ 5) (h1 : 1 ≤ n) (hn : n ≤ 501) (hsh : ∃ s0 x1 s2 x3, c0 = .string s0 ∧ c1 = .int .u8 x1 ∧ c2 = .string s2 ∧ c3 = .int .i64 x3) :
    Calls Tryz.prog 65 #[dotV a n, .agg #[c0, c1, c2, c3]] w fun e w' => ∃ ib cb lb, e = .returned (.agg #[.map (some ib), .map (some cb), .map (some lb)]) ∧ StoreS w' ib cb lb a (fun k => k = n) (fun k => if k = n then some (.agg #[c0, c1, c2, c3]) else none) ∧ (w.heap.size ≤ ib ∧ w.heap.size ≤ cb ∧ w.heap.size ≤ lb) ∧ Below w.heap.size w w' := by
  obtain ⟨s0, x1, s2, x3, rfl, rfl, rfl, rfl⟩ := hsh
  obtain ⟨kl, hkl⟩ := keyDot a n (by omega) (by omega)
  go_enter Tryz.func65, Tryz.ntmps65
  go_wp2_with fail
  have hS : SliceD ((((w.alloc (.cells #[.int .i64 (a : Int), .int .i64 (n : Int)] 117)).alloc (.cells #[.string s0, .int .u8 x1, .string s2, .int .i64 x3] 63)).alloc (.cells #[.map none, .map none, .map none] 105)).alloc (.cells #[.int .i64 (a : Int), .int .i64 (n : Int)] 117)) (.slice (some ⟨w.heap.size + 1 + 1 + 1, 0, none⟩) 1 1) a [n] := by
    have hb := Blk.new (((w.alloc (.cells #[.int .i64 (a : Int), .int .i64 (n : Int)] 117)).alloc (.cells #[.string s0, .int .u8 x1, .string s2, .int .i64 x3] 63)).alloc (.cells #[.map none, .map none, .map none] 105)) #[.int .i64 (a : Int), .int .i64 (n : Int)] 117
    simp only [World.size_alloc] at hb
    refine Or.inr ⟨_, 0, 1, rfl, by simp, by simp, fun j hj => ?_⟩
    simp at hj
    subst hj
    exact ⟨by rw [hb.cell]; rfl, by rw [hb.cell]; rfl⟩
  have kd : Blk ((((w.alloc (.cells #[.int .i64 (a : Int), .int .i64 (n : Int)] 117)).alloc (.cells #[.string s0, .int .u8 x1, .string s2, .int .i64 x3] 63)).alloc (.cells #[.map none, .map none, .map none] 105)).alloc (.cells #[.int .i64 (a : Int), .int .i64 (n : Int)] 117)) w.heap.size #[.int .i64 (a : Int), .int .i64 (n : Int)] 117 := (((Blk.new w _ _).alloc _).alloc _).alloc _
  have kc : Blk ((((w.alloc (.cells #[.int .i64 (a : Int), .int .i64 (n : Int)] 117)).alloc (.cells #[.string s0, .int .u8 x1, .string s2, .int .i64 x3] 63)).alloc (.cells #[.map none, .map none, .map none] 105)).alloc (.cells #[.int .i64 (a : Int), .int .i64 (n : Int)] 117)) (w.heap.size + 1) #[.string s0, .int .u8 x1, .string s2, .int .i64 x3] 63 := by
    have := ((Blk.new (w.alloc (.cells #[.int .i64 (a : Int), .int .i64 (n : Int)] 117)) #[.string s0, .int .u8 x1, .string s2, .int .i64 x3] 63).alloc (.cells #[.map none, .map none, .map none] 105)).alloc (.cells #[.int .i64 (a : Int), .int .i64 (n : Int)] 117)
    rwa [World.size_alloc] at this
  have kr : Blk ((((w.alloc (.cells #[.int .i64 (a : Int), .int .i64 (n : Int)] 117)).alloc (.cells #[.string s0, .int .u8 x1, .string s2, .int .i64 x3] 63)).alloc (.cells #[.map none, .map none, .map none] 105)).alloc (.cells #[.int .i64 (a : Int), .int .i64 (n : Int)] 117)) (w.heap.size + 1 + 1) #[.map none, .map none, .map none] 105 := by
    have := (Blk.new ((w.alloc (.cells #[.int .i64 (a : Int), .int .i64 (n : Int)] 117)).alloc (.cells #[.string s0, .int .u8 x1, .string s2, .int .i64 x3] 63)) #[.map none, .map none, .map none] 105).alloc (.cells #[.int .i64 (a : Int), .int .i64 (n : Int)] 117)
    rwa [World.size_alloc, World.size_alloc] at this
  have hbw : Below w.heap.size w ((((w.alloc (.cells #[.int .i64 (a : Int), .int .i64 (n : Int)] 117)).alloc (.cells #[.string s0, .int .u8 x1, .string s2, .int .i64 x3] 63)).alloc (.cells #[.map none, .map none, .map none] 105)).alloc (.cells #[.int .i64 (a : Int), .int .i64 (n : Int)] 117)) := by go_grown
  have hws : ((((w.alloc (.cells #[.int .i64 (a : Int), .int .i64 (n : Int)] 117)).alloc (.cells #[.string s0, .int .u8 x1, .string s2, .int .i64 x3] 63)).alloc (.cells #[.map none, .map none, .map none] 105)).alloc (.cells #[.int .i64 (a : Int), .int .i64 (n : Int)] 117)).heap.size = w.heap.size + 4 := by simp
  generalize (((w.alloc (.cells #[.int .i64 (a : Int), .int .i64 (n : Int)] 117)).alloc (.cells #[.string s0, .int .u8 x1, .string s2, .int .i64 x3] 63)).alloc (.cells #[.map none, .map none, .map none] 105)).alloc (.cells #[.int .i64 (a : Int), .int .i64 (n : Int)] 117) = w0 at *
  refine Calls.mono (Gone_any w0 _ a [n] hS (by simp) ha (by simp; omega)) ?_
  rintro e w1 ⟨ib, cb, lb, rfl, hst, hnew, hb1⟩
  have hs1 := hb1.size
  have KD : Hid (Blk w1 w.heap.size #[.int .i64 (a : Int), .int .i64 (n : Int)] 117) := kd.below hb1
  have KC : Hid (Blk w1 (w.heap.size + 1) #[.string s0, .int .u8 x1, .string s2, .int .i64 x3] 63) := kc.below hb1
  have KR : Hid (Blk w1 (w.heap.size + 1 + 1) #[.map none, .map none, .map none] 105) := kr.below hb1
  have HBw : Hid (Below w.heap.size w w1) := hbw.trans (hb1.mono (by omega))
  have d0 : ∀ o, (w1.alloc o).cell? ⟨w.heap.size, 0, none⟩ = some (.int .i64 (a : Int)) := fun o => ((KD.out.alloc o).cell 0).trans rfl
  have d1 : ∀ o, (w1.alloc o).cell? ⟨w.heap.size, 1, none⟩ = some (.int .i64 (n : Int)) := fun o => ((KD.out.alloc o).cell 1).trans rfl
  have e0 : ∀ o, (w1.alloc o).cell? ⟨w.heap.size + 1, 0, none⟩ = some (.string s0) := fun o => ((KC.out.alloc o).cell 0).trans rfl
  have e1 : ∀ o, (w1.alloc o).cell? ⟨w.heap.size + 1, 1, none⟩ = some (.int .u8 x1) := fun o => ((KC.out.alloc o).cell 1).trans rfl
  have e2 : ∀ o, (w1.alloc o).cell? ⟨w.heap.size + 1, 2, none⟩ = some (.string s2) := fun o => ((KC.out.alloc o).cell 2).trans rfl
  have e3 : ∀ o, (w1.alloc o).cell? ⟨w.heap.size + 1, 3, none⟩ = some (.int .i64 x3) := fun o => ((KC.out.alloc o).cell 3).trans rfl
  obtain ⟨Ni, hNi⟩ := hst.its
  have hNb : Ni ≤ 502 := items_bound hNi (fun k hk => absurd rfl hk)
  have hmx : Ni < maxLen := by unfold maxLen; omega
  have HN : Hid (∀ o, MapV Tryz.prog 117 (w1.alloc o) ib Ni (im a (fun _ => none))) := fun o => hNi.block (((Below.refl _ w1).alloc (Nat.le_refl _) o).block _ hNi.lt)
  have HS : Hid (∀ o, StoreS (w1.alloc o) ib cb lb a (fun k => k ∈ [n]) (fun _ => none)) := fun o => hst.below ((Below.refl _ w1).alloc (Nat.le_refl _) o)
  have HBx : Hid (∀ cs t, Blk (w1.alloc (.cells cs t)) w1.heap.size cs t) := fun cs t => Blk.new w1 cs t
  have hlt := hst.lt
  clear hst hNi hb1 kd kc kr hS hbw
  go_wp2_with (first | (at_mapUpdate; refine wpList_store rfl (.tmp 10) (.tmp 11) (.tmp 12) 99 rfl 63 kDot Tryz.underlying99 rfl (HN.out _) hmx (dotV a n) (.agg #[.string s0, .int .u8 x1, .string s2, .int .i64 x3]) _ rfl rfl hkl ?_; intro w2 hm2 hg2 hs2; have hS2 := (HS.out _).put hg2 hm2 h1 hn (by simp); have kx := (HBx.out _ _).grown hg2 (by omega); have kr2 := (KR.out.alloc _).grown hg2 (by omega); have g0 := (kx.cell 0).trans rfl; have g1 := (kx.cell 1).trans rfl; have g2 := (kx.cell 2).trans rfl; have r0 := (kr2.cell 0).trans rfl; have r1 := (kr2.cell 1).trans rfl; have r2 := (kr2.cell 2).trans rfl; have f0 := kr2.frozen))
  have hch : Chg (fun k => k = w.heap.size + 1 + 1) w2 (((w2.setCell ⟨w.heap.size + 1 + 1, 0, none⟩ (.map (some ib))).setCell ⟨w.heap.size + 1 + 1, 1, none⟩ (.map (some cb))).setCell ⟨w.heap.size + 1 + 1, 2, none⟩ (.map (some lb))) := (((Chg.refl (fun k => k = w.heap.size + 1 + 1) w2).setCell (p := ⟨w.heap.size + 1 + 1, 0, none⟩) rfl _).setCell (p := ⟨w.heap.size + 1 + 1, 1, none⟩) rfl _).setCell (p := ⟨w.heap.size + 1 + 1, 2, none⟩) rfl _
  have hB2 : Below w.heap.size w w2 := (HBw.out.trans ((Below.refl w.heap.size w1).alloc (by omega) _)).grown hg2 (by simp; omega) (fun k e => by cases e; omega)
  refine bodyPost_ret (v := .agg #[.map (some ib), .map (some cb), .map (some lb)]) (by simp [results, Tryz.results65, go_sem, r0, r1, r2, cs_same, cs_oth, World.cell?_setCell_other]) rfl ⟨ib, cb, lb, rfl, ?_, by omega, ?_⟩
  · have h := hS2.chg hch (by omega) (by omega) (by omega)
    refine ⟨h.ctx.iff (fun k _ => by simp), h.its, h.ne, fun k hk => ?_⟩
    have := h.ok k hk
    exact ⟨this.1, this.2.1, by simpa using this.2.2⟩
  · exact ((hB2.setCell (p := ⟨w.heap.size + 1 + 1, 0, none⟩) (by show w.heap.size ≤ w.heap.size + 1 + 1; omega) _).setCell (p := ⟨w.heap.size + 1 + 1, 1, none⟩) (by show w.heap.size ≤ w.heap.size + 1 + 1; omega) _).setCell (p := ⟨w.heap.size + 1 + 1, 2, none⟩) (by show w.heap.size ≤ w.heap.size + 1 + 1; omega) _
end Go.Proofs.YtmnnojekcloblaaGreatDoor

namespace Go.Proofs.YtmnnojekcloblaaGreatDoor
open Go.RowKit Go.Maps Go.WideMaps

theorem StoreR.hasI {w : World} {iv cv lv : Value} {a : Nat} {S : Nat → Prop} {It : Nat → Option Value} (h : StoreR w iv cv lv a S It) : ∃ c L N, CtxV w cv lv a c L ∧ (∀ n, 1 ≤ n → (S n ↔ n ≤ c ∨ L n = true)) ∧ MapO Tryz.prog 117 w iv N (im a It) := by
  obtain ⟨⟨c, L, h1, _, h2⟩, ⟨N, h3⟩, _⟩ := h
  exact ⟨c, L, N, h1, h2, h3⟩

set_option maxHeartbeats 4000000 in
set_option maxRecDepth 100000 in
theorem gone1_any (w : World) (iv cv lv : Value) (a n db : Nat) (S : Nat → Prop) (It : Nat → Option Value) (h : StoreR w iv cv lv a S It) (hIt : ∀ v, It n = some v → ∃ s0 x1 s2 x3, v = .agg #[.string s0, .int .u8 x1, .string s2, .int .i64 x3]) (h1 : 1 ≤ n) (hn : n ≤ 501) (hd : Blk w db #[.int .i64 (a : Int), .int .i64 (n : Int)] 117) :
    Calls Tryz.prog 152 #[.agg #[iv, cv, lv], .pointer (some ⟨db, 0, none⟩)] w fun e w' => ∃ b : Bool, e = .returned (.bool b) ∧ (b = true ↔ It n = none ∧ S n) ∧ Below w.heap.size w w' := by
  obtain ⟨c, L, N, hC, hS, hI⟩ := h.hasI
  obtain ⟨kl, hkl⟩ := keyDot a n (by have := hC.a5; omega) (by omega)
  have HC : Hid (CtxV w cv lv a c L) := hC
  have HI : Hid (∀ wy, Below w.heap.size w wy → MapO Tryz.prog 117 wy iv N (im a It)) := fun wy hb => hI.below hb
  have hdl := hd.lt
  have HD : Hid (Blk w db #[.int .i64 (a : Int), .int .i64 (n : Int)] 117) := hd
  have d0 : ∀ o, (w.alloc o).cell? ⟨db, 0, none⟩ = some (.int .i64 (a : Int)) := fun o => ((HD.out.alloc o).cell 0).trans rfl
  have d1 : ∀ o, (w.alloc o).cell? ⟨db, 1, none⟩ = some (.int .i64 (n : Int)) := fun o => ((HD.out.alloc o).cell 1).trans rfl
  have d0' : ∀ o o', ((w.alloc o).alloc o').cell? ⟨db, 0, none⟩ = some (.int .i64 (a : Int)) := fun o o' => (((HD.out.alloc o).alloc o').cell 0).trans rfl
  have d1' : ∀ o o', ((w.alloc o).alloc o').cell? ⟨db, 1, none⟩ = some (.int .i64 (n : Int)) := fun o o' => (((HD.out.alloc o).alloc o').cell 1).trans rfl
  have him : im a It (dotV a n) = It n := im_dot a It n
  have HSn : Hid (S n ↔ n ≤ c ∨ L n = true) := hS n h1
  clear h hC hS hI hd
  cases hv : It n with
  | some v =>
    obtain ⟨s0, x1, s2, x3, rfl⟩ := hIt v hv
    rw [hv] at him
    have hu : (im a It (dotV a n)).getD (.agg #[.string ⟨#[]⟩, .int .u8 0, .string ⟨#[]⟩, .int .i64 0]) = .agg #[.string s0, .int .u8 x1, .string s2, .int .i64 x3] := by rw [him]; rfl
    have hc : (im a It (dotV a n)).isSome = true := by rw [him]; rfl
    clear hIt him
    go_enter Tryz.func152, Tryz.ntmps152
    go_wp2_with (first | (at_lookup; refine wpList_lookO_ok rfl (.tmp 8) (.tmp 9) 99 rfl 63 kDot Tryz.underlying99 (zCh _) rfl (HI.out _ ?_) (dotV a n) _ rfl hkl _ hu _ hc ?_; (go_grown)))
    go_ret
    exact ⟨false, rfl, by simp, by go_grown⟩
  | none =>
    rw [hv] at him
    have hu : (im a It (dotV a n)).getD (.agg #[.string ⟨#[]⟩, .int .u8 0, .string ⟨#[]⟩, .int .i64 0]) = .agg #[.string ⟨#[]⟩, .int .u8 0, .string ⟨#[]⟩, .int .i64 0] := by rw [him]; rfl
    have hc : (im a It (dotV a n)).isSome = false := by rw [him]; rfl
    clear hIt him
    go_enter Tryz.func152, Tryz.ntmps152
    go_wp2_with (first | (at_lookup; refine wpList_lookO_ok rfl (.tmp 8) (.tmp 9) 99 rfl 63 kDot Tryz.underlying99 (zCh _) rfl (HI.out _ ?_) (dotV a n) _ rfl hkl _ hu _ hc ?_; (go_grown)))
    have hbw : Below w.heap.size w ((w.alloc (.cells #[iv, cv, lv] 105)).alloc (.cells #[.string ⟨#[]⟩, .int .u8 0, .string ⟨#[]⟩, .int .i64 0] 63)) := by go_grown
    refine Calls.mono (has_any _ cv lv a c n L (HC.out.below hbw) (by omega)) ?_
    rintro e w1 ⟨rfl, hb1⟩
    have HB1 : Hid (Below w.heap.size w w1) := hbw.trans (hb1.mono hbw.size)
    clear hbw hb1 d0 d1 d0' d1' HD HI
    go_wp2
    go_ret
    refine ⟨_, rfl, ?_, HB1.out⟩
    rw [HSn.out]
    simp

/-- A store as a value, and what it stands for. -/
structure StD where
  io : Option Nat
  co : Option Nat
  lo : Option Nat
  S : Nat → Prop
  It : Nat → Option Value
def ItemV (v : Value) : Prop := ∃ s0 x1 s2 x3, v = .agg #[.string s0, .int .u8 x1, .string s2, .int .i64 x3]
structure StD.At (w : World) (a : Nat) (s : StD) : Prop where
  r : StoreR w (Value.map s.io) (Value.map s.co) (Value.map s.lo) a s.S s.It
  v : ∀ n x, s.It n = some x → ItemV x

/-- A slice of stores, in memory. -/
structure SliceS (w : World) (b off a : Nat) (sts : List StD) : Prop where
  lt : b < w.heap.size
  c0 : ∀ j (h : j < sts.length), w.cell? ⟨b, off + j * 3, none⟩ = some (Value.map sts[j].io)
  c1 : ∀ j (h : j < sts.length), w.cell? ⟨b, off + j * 3 + 1, none⟩ = some (Value.map sts[j].co)
  c2 : ∀ j (h : j < sts.length), w.cell? ⟨b, off + j * 3 + 2, none⟩ = some (Value.map sts[j].lo)
  ok : ∀ s ∈ sts, s.At w a
theorem StD.At.chg {M : Nat → Prop} {w w' : World} {a : Nat} {s : StD} (h : s.At w a) (hc : Chg M w w') (hm : ∀ b, (Value.map s.io) = .map (some b) ∨ (Value.map s.co) = .map (some b) ∨ (Value.map s.lo) = .map (some b) → ¬ M b) : s.At w' a := ⟨h.r.chg hc hm, h.v⟩
theorem SliceS.chg {M : Nat → Prop} {w w' : World} {b off a : Nat} {sts : List StD} (h : SliceS w b off a sts) (hc : Chg M w w') (hb : ¬ M b) (hm : ∀ s ∈ sts, ∀ b, (Value.map s.io) = .map (some b) ∨ (Value.map s.co) = .map (some b) ∨ (Value.map s.lo) = .map (some b) → ¬ M b) : SliceS w' b off a sts := by
  have e : ∀ i, w'.cell? ⟨b, i, none⟩ = w.cell? ⟨b, i, none⟩ := fun i => World.cell?_of_block (w := w) (hc.block b h.lt hb)
  exact ⟨Nat.lt_of_lt_of_le h.lt hc.size, fun j hj => (e _).trans (h.c0 j hj), fun j hj => (e _).trans (h.c1 j hj), fun j hj => (e _).trans (h.c2 j hj), fun s hs => (h.ok s hs).chg hc (hm s hs)⟩
theorem SliceS.below {w w' : World} {b off a : Nat} {sts : List StD} (h : SliceS w b off a sts) (hb : Below w.heap.size w w') : SliceS w' b off a sts := h.chg (M := fun _ => False) (Chg.of_below hb) (fun h => h) (fun _ _ _ _ h => h)

set_option maxHeartbeats 4000000 in
set_option maxRecDepth 100000 in
theorem IndexFunc_any (w : World) (a n db b off cap : Nat) (sts : List StD) (h : SliceS w b off a sts) (hcap : sts.length ≤ cap) (hl : sts.length ≤ 1000) (h1 : 1 ≤ n) (hn : n ≤ 501) (hd : Blk w db #[.int .i64 (a : Int), .int .i64 (n : Int)] 117) :
    Calls Tryz.prog 169 #[.slice (some ⟨b, off, none⟩) sts.length cap, .func (.func 152) #[] #[.pointer (some ⟨db, 0, none⟩)]] w fun e w' => ∃ r : Int, e = .returned (.int .i64 r) ∧ (0 ≤ r ↔ ∃ s ∈ sts, s.It n = none ∧ s.S n) ∧ Below w.heap.size w w' := by
  have HS : Hid (SliceS w b off a sts) := h
  have HD : Hid (Blk w db #[.int .i64 (a : Int), .int .i64 (n : Int)] 117) := hd
  clear h hd
  go_enter Tryz.func169, Tryz.ntmps169
  go_wp2_with fail
  go_loopg [8] sts.length (fun g v8 wx => ∃ i : Nat, i + g = sts.length ∧ v8 = .int .i64 (i : Int) ∧ Below w.heap.size w wx ∧ ∀ s ∈ sts.take i, ¬ (s.It n = none ∧ s.S n))
  case atStart => exact ⟨0, by omega, rfl, Below.refl _ _, by simp⟩
  case round =>
    obtain ⟨i, hig, rfl, hb, hno⟩ := hrel
    have HB : Hid (Below w.heap.size w wr) := hb
    have Hno : Hid (∀ s ∈ sts.take i, ¬ (s.It n = none ∧ s.S n)) := hno
    clear hb hno
    by_cases hi : i < sts.length
    · have hS2 := HS.out.below HB.out
      have k0 := hS2.c0 i hi
      have k1 := hS2.c1 i hi
      have k2 := hS2.c2 i hi
      have hAt := hS2.ok _ (List.getElem_mem hi)
      have hmem : sts[i] ∈ sts := List.getElem_mem hi
      have hall : sts.take (i + 1) = sts.take i ++ [sts[i]] := List.take_succ_eq_append_getElem hi
      have Hmore : Hid (¬ (sts[i].It n = none ∧ sts[i].S n) → ∀ s ∈ sts.take (i + 1), ¬ (s.It n = none ∧ s.S n)) := fun hx s hs => by
        rw [hall, List.mem_append, List.mem_singleton] at hs
        rcases hs with hs | rfl
        · exact Hno.out s hs
        · exact hx
      have Hc : Hid (_) := gone1_any wr (Value.map sts[i].io) (Value.map sts[i].co) (Value.map sts[i].lo) a n db sts[i].S sts[i].It hAt.r (fun v hv => hAt.v n v hv) h1 hn (HD.out.below HB.out)
      generalize sts[i] = s at *
      clear hS2 hAt hall
      go_wp2_with fail
      refine Calls.mono Hc.out ?_
      rintro e w2 ⟨bb, rfl, hbb, hb2⟩
      have HB2 : Hid (Below w.heap.size w w2) := HB.out.trans (hb2.mono HB.out.size)
      clear Hc hb2 k0 k1 k2
      cases bb with
      | true =>
        have hg := hbb.1 rfl
        clear hbb
        go_wp2_with fail
        go_ret
        exact ⟨(i : Int), rfl, ⟨fun _ => ⟨s, hmem, hg⟩, fun _ => by omega⟩, HB2.out⟩
      | false =>
        have hg : ¬ (s.It n = none ∧ s.S n) := fun h => by have := hbb.2 h; cases this
        clear hbb
        go_wp2_with fail
        go_roundg (sts.length - (i + 1))
        case measure => omega
        case rel => exact ⟨i + 1, by omega, by go_num, HB2.out, Hmore.out hg⟩
    · go_wp2_with fail
      go_ret
      refine ⟨-1, rfl, ⟨fun h => by omega, fun ⟨s, hs, hg⟩ => ?_⟩, HB.out⟩
      exact absurd hg (Hno.out s (by rw [List.take_of_length_le (by omega)]; exact hs))

set_option maxHeartbeats 4000000 in
set_option maxRecDepth 100000 in
theorem ContainsFunc_any (w : World) (a n db b off cap : Nat) (sts : List StD) (h : SliceS w b off a sts) (hcap : sts.length ≤ cap) (hl : sts.length ≤ 1000) (h1 : 1 ≤ n) (hn : n ≤ 501) (hd : Blk w db #[.int .i64 (a : Int), .int .i64 (n : Int)] 117) :
    Calls Tryz.prog 151 #[.slice (some ⟨b, off, none⟩) sts.length cap, .func (.func 152) #[] #[.pointer (some ⟨db, 0, none⟩)]] w fun e w' => ∃ r : Bool, e = .returned (.bool r) ∧ (r = true ↔ ∃ s ∈ sts, s.It n = none ∧ s.S n) ∧ Below w.heap.size w w' := by
  have Hc : Hid (_) := IndexFunc_any w a n db b off cap sts h hcap hl h1 hn hd
  clear h hd
  go_enter Tryz.func151, Tryz.ntmps151
  go_wp2_with fail
  refine Calls.mono Hc.out ?_
  rintro e w2 ⟨r, rfl, hr, hb⟩
  have HR : Hid (0 ≤ r ↔ ∃ s ∈ sts, s.It n = none ∧ s.S n) := hr
  clear hr Hc
  go_wp2
  go_ret
  exact ⟨_, rfl, by rw [← HR.out]; simp, hb⟩

set_option maxHeartbeats 4000000 in
set_option maxRecDepth 100000 in
theorem goneInAny_any (w : World) (a n b off cap : Nat) (sts : List StD) (h : SliceS w b off a sts) (hcap : sts.length ≤ cap) (hl : sts.length ≤ 1000) (h1 : 1 ≤ n) (hn : n ≤ 501) :
    Calls Tryz.prog 104 #[dotV a n, .slice (some ⟨b, off, none⟩) sts.length cap] w fun e w' => ∃ r : Bool, e = .returned (.bool r) ∧ (r = true ↔ ∃ s ∈ sts, s.It n = none ∧ s.S n) ∧ Below w.heap.size w w' := by
  have Hc : Hid (∀ wx, wx = w.alloc (.cells #[.int .i64 (a : Int), .int .i64 (n : Int)] 117) → Calls Tryz.prog 151 #[.slice (some ⟨b, off, none⟩) sts.length cap, .func (.func 152) #[] #[.pointer (some ⟨w.heap.size, 0, none⟩)]] wx fun e w' => ∃ r : Bool, e = .returned (.bool r) ∧ (r = true ↔ ∃ s ∈ sts, s.It n = none ∧ s.S n) ∧ Below w.heap.size w w') := fun wx hx => by
    subst hx
    have hb : Below w.heap.size w (w.alloc (.cells #[.int .i64 (a : Int), .int .i64 (n : Int)] 117)) := (Below.refl _ w).alloc (Nat.le_refl _) _
    refine Calls.mono (ContainsFunc_any _ a n w.heap.size b off cap sts (h.below hb) hcap hl h1 hn (Blk.new w _ _)) ?_
    rintro e w' ⟨r, rfl, hr, hb2⟩
    exact ⟨r, rfl, hr, hb.trans (hb2.mono hb.size)⟩
  clear h
  go_enter Tryz.func104, Tryz.ntmps104
  go_wp2_with fail
  refine Calls.mono (Hc.out _ rfl) ?_
  rintro e w2 ⟨r, rfl, hr, hb⟩
  have HR : Hid (r = true ↔ ∃ s ∈ sts, s.It n = none ∧ s.S n) := hr
  clear hr Hc
  go_wp2
  go_ret
  exact ⟨_, rfl, HR.out, hb⟩
end Go.Proofs.YtmnnojekcloblaaGreatDoor

namespace Go.Proofs.YtmnnojekcloblaaGreatDoor
open Go.RowKit Go.Maps Go.WideMaps

/-- A dot that a store knows has gone. -/
def goneAt (sts : List StD) (n : Nat) : Prop := ∃ s ∈ sts, s.It n = none ∧ s.S n

/-- In the midst of Join: S: the dots that are known by now; D: the dots whose items were looked at. -/
structure JN (w : World) (sts : List StD) (b off a ib cb lb B : Nat) (S D : Nat → Prop) (It : Nat → Option Value) (wx : World) : Prop where
  st : StoreS wx ib cb lb a S It
  sl : SliceS wx b off a sts
  old : b < w.heap.size ∧ ∀ s ∈ sts, ∀ k, (Value.map s.io) = .map (some k) ∨ (Value.map s.co) = .map (some k) ∨ (Value.map s.lo) = .map (some k) → k < w.heap.size
  new : w.heap.size < ib ∧ w.heap.size < cb ∧ w.heap.size < lb ∧ w.heap.size < B
  apart : B ≠ ib ∧ B ≠ cb ∧ B ≠ lb
  bx : Blk wx B #[.map (some ib), .map (some cb), .map (some lb)] 105
  r0 : Blk wx w.heap.size #[.map none, .map none, .map none] 105
  below : Below w.heap.size w wx
  p1 : ∀ n v, It n = some v → (∃ s ∈ sts, s.It n = some v) ∧ ¬ goneAt sts n
  p2 : ∀ n, D n → ¬ goneAt sts n → It n ≠ none

section
variable {w : World} {sts : List StD} {b off a ib cb lb B : Nat} {S D : Nat → Prop} {It : Nat → Option Value} {wx wy : World}
/-- Other blocks than these turn. -/
theorem JN.chg {M : Nat → Prop} (h : JN w sts b off a ib cb lb B S D It wx) (hc : Chg M wx wy) (hM : ∀ k, M k → w.heap.size < k ∧ k ≠ ib ∧ k ≠ cb ∧ k ≠ lb ∧ k ≠ B) : JN w sts b off a ib cb lb B S D It wy := by
  have ho := h.old
  refine ⟨h.st.chg hc (fun m => (hM _ m).2.1 rfl) (fun m => (hM _ m).2.2.1 rfl) (fun m => (hM _ m).2.2.2.1 rfl), h.sl.chg hc (fun m => by have := hM _ m; omega) (fun s hs k hk m => by have := hM _ m; have := ho.2 s hs k hk; omega), ho, h.new, h.apart, h.bx.chg hc (fun m => (hM _ m).2.2.2.2 rfl), h.r0.chg hc (fun m => by have := hM _ m; omega), ?_, h.p1, h.p2⟩
  exact h.below.trans ⟨hc.os, hc.tape, hc.output, hc.size, fun k hk => hc.block k (Nat.lt_of_lt_of_le hk h.below.size) (fun m => by have := hM _ m; omega)⟩
theorem JN.mono (h : JN w sts b off a ib cb lb B S D It wx) (hb : Below wx.heap.size wx wy) : JN w sts b off a ib cb lb B S D It wy := h.chg (M := fun _ => False) (Chg.of_below hb) (fun _ h => h.elim)
theorem JN.turn {r : Nat} (h : JN w sts b off a ib cb lb B S D It wx) (hg : wx.grownBy wy (some r)) (hr : w.heap.size < r ∧ r ≠ ib ∧ r ≠ cb ∧ r ≠ lb ∧ r ≠ B) : JN w sts b off a ib cb lb B S D It wy :=
  h.chg (M := fun k => k = r) ((Chg.refl _ wx).grown hg (fun k e => by cases e; exact Or.inl rfl)) (fun k e => by subst e; exact hr)
theorem JN.ctx {S' : Nat → Prop} (h : JN w sts b off a ib cb lb B S D It wx) (hc : CtxS wy cb lb a S') (hg : Chg (fun k => k = cb ∨ k = lb) wx wy) (hS : ∀ n, S n → S' n) : JN w sts b off a ib cb lb B S' D It wy := by
  have ho := h.old
  have hn := h.new
  have ha := h.apart
  have hi := h.st.ne
  refine ⟨⟨hc, h.st.its.imp fun N g => g.block (hg.block _ g.lt (by omega)), hi, fun n hn => by have := h.st.ok n hn; exact ⟨this.1, this.2.1, hS n this.2.2⟩⟩, h.sl.chg hg (by omega) (fun s hs k hk m => by have := ho.2 s hs k hk; omega), ho, hn, ha, h.bx.chg hg (by omega), h.r0.chg hg (by omega), ?_, h.p1, h.p2⟩
  exact h.below.trans ⟨hg.os, hg.tape, hg.output, hg.size, fun k hk => hg.block k (Nat.lt_of_lt_of_le hk h.below.size) (by omega)⟩
theorem JN.seen {D' : Nat → Prop} (h : JN w sts b off a ib cb lb B S D It wx) (hD : ∀ n, D' n → ¬ goneAt sts n → D n ∨ It n ≠ none) : JN w sts b off a ib cb lb B S D' It wx :=
  ⟨h.st, h.sl, h.old, h.new, h.apart, h.bx, h.r0, h.below, h.p1, fun n h1 h2 => (hD n h1 h2).elim (fun h3 => h.p2 n h3 h2) id⟩
theorem JN.put {n N : Nat} {v : Value} (h : JN w sts b off a ib cb lb B S D It wx) (hg : wx.grownBy wy (some ib)) (hm : MapV Tryz.prog 117 wy ib N (upd (im a It) (dotV a n) v)) (h1 : 1 ≤ n) (h2 : n ≤ 501) (h3 : S n) (hv : ∃ s ∈ sts, s.It n = some v) (hng : ¬ goneAt sts n) : JN w sts b off a ib cb lb B S (fun k => D k ∨ k = n) (fun k => if k = n then some v else It k) wy := by
  have ho := h.old
  have hn := h.new
  have ha := h.apart
  have hi := h.st.ne
  have hc : Chg (fun k => k = ib) wx wy := (Chg.refl _ wx).grown hg (fun k e => by cases e; exact Or.inl rfl)
  refine ⟨h.st.put hg hm h1 h2 h3, h.sl.chg hc (by omega) (fun s hs k hk m => by have := ho.2 s hs k hk; omega), ho, hn, ha, h.bx.chg hc (by omega), h.r0.chg hc (by omega), ?_, ?_, ?_⟩
  · exact h.below.trans ⟨hc.os, hc.tape, hc.output, hc.size, fun k hk => hc.block k (Nat.lt_of_lt_of_le hk h.below.size) (by omega)⟩
  · intro k u hk
    by_cases e : k = n
    · subst e; simp at hk; subst hk; exact ⟨hv, hng⟩
    · simp [e] at hk; exact h.p1 k u hk
  · intro k hk hk2
    by_cases e : k = n
    · simp [e]
    · simp only [if_neg e]; exact h.p2 k (hk.resolve_right e) hk2
end
end Go.Proofs.YtmnnojekcloblaaGreatDoor

