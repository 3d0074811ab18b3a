import Derived.Laws.IdiomRangeMap
import Derived.Test.YtoiiaankpnhppaaGreatDoorPart03
import Derived.Test.YtoiiaankpnhppaaGreatDoorPart09
set_option linter.unusedVariables false
set_option linter.unusedSimpArgs false
namespace Go.Proofs.YtoiiaankpnhppaaGreatDoor
open Go.RowKit Go.Maps Go.WideMaps

def CtxS (w : World) (cb lb : Nat) (S : Nat → Prop) : Prop := ∃ c L, CtxW w cb lb c L ∧ (∀ a, L (mkD a (c a + 1)) = false) ∧ ∀ d, 1 ≤ nth d → (S d ↔ inK c L d)
def CtxR (w : World) (cv lv : Value) (S : Nat → Prop) : Prop := ∃ c L, CtxV w cv lv c L ∧ (∀ a, L (mkD a (c a + 1)) = false) ∧ ∀ d, 1 ≤ nth d → (S d ↔ inK c L d)
theorem CtxS.toR {w : World} {cb lb : Nat} {S : Nat → Prop} (h : CtxS w cb lb S) : CtxR w (.map (some cb)) (.map (some lb)) S := by
  obtain ⟨c, L, h1, h2, h3⟩ := h; exact ⟨c, L, h1.toV, h2, h3⟩
theorem CtxS.chg {M : Nat → Prop} {w w' : World} {cb lb : Nat} {S : Nat → Prop} (h : CtxS w cb lb S) (hc : Chg M w w') (h1 : ¬ M cb) (h2 : ¬ M lb) : CtxS w' cb lb S := by
  obtain ⟨c, L, g1, g2, g3⟩ := h; exact ⟨c, L, g1.chg hc h1 h2, g2, g3⟩
theorem CtxS.below {w w' : World} {cb lb : Nat} {S : Nat → Prop} (h : CtxS w cb lb S) (hb : Below w.heap.size w w') : CtxS w' cb lb S := by
  obtain ⟨c, L, g1, g2, g3⟩ := h; exact ⟨c, L, g1.below hb, g2, g3⟩
theorem CtxR.below {w w' : World} {cv lv : Value} {S : Nat → Prop} (h : CtxR w cv lv S) (hb : Below w.heap.size w w') : CtxR w' cv lv S := by
  obtain ⟨c, L, g1, g2, g3⟩ := h; exact ⟨c, L, g1.below hb, g2, g3⟩
theorem CtxS.lt {w : World} {cb lb : Nat} {S : Nat → Prop} (h : CtxS w cb lb S) : cb < w.heap.size ∧ lb < w.heap.size := by obtain ⟨c, L, g1, g2, g3⟩ := h; exact g1.lt
theorem CtxS.ne {w : World} {cb lb : Nat} {S : Nat → Prop} (h : CtxS w cb lb S) : cb ≠ lb := by obtain ⟨c, L, g1, g2, g3⟩ := h; exact g1.ne
theorem CtxS.iff {w : World} {cb lb : Nat} {S S' : Nat → Prop} (h : CtxS w cb lb S) (hS : ∀ n, 1 ≤ nth n → (S' n ↔ S n)) : CtxS w cb lb S' := by
  obtain ⟨c, L, g1, g2, g3⟩ := h; exact ⟨c, L, g1, g2, fun n hn => (hS n hn).trans (g3 n hn)⟩
theorem inK_put {c : Nat → Nat} {L : Nat → Bool} {d k : Nat} : inK c (fun x => L x || x == d) k ↔ inK c L k ∨ k = d := by
  unfold inK
  simp only [Bool.or_eq_true, beq_iff_eq]
  exact ⟨fun h => h.elim (fun h => Or.inl (Or.inl h)) (fun h => h.elim (fun h => Or.inl (Or.inr h)) Or.inr), fun h => h.elim (fun h => h.elim Or.inl (fun h => Or.inr (Or.inl h))) (fun h => Or.inr (Or.inr h))⟩

theorem can_step {d : Nat} {c c' : Nat → Nat} {L L' : Nat → Bool} (hcan : ∀ a, L (mkD a (c a + 1)) = false) (hs : SameD (who d) c (fun k => L k || k == d) c' L') (h5 : L' (mkD (who d) (c' (who d) + 1)) = false) (h501 : ∀ a, c a ≤ 501) : ∀ a, L' (mkD a (c' a + 1)) = false := by
  intro a
  by_cases e : a = who d
  · subst e; exact h5
  · have hw : who (mkD a (c a + 1)) = a := who_mk (by have := h501 a; omega)
    rw [hs.oc a e, hs.ol _ (by rw [hw]; exact e), hcan a]
    have : mkD a (c a + 1) ≠ d := fun h => e (by rw [← h, hw])
    simp [this]

set_option maxHeartbeats 4000000 in
set_option maxRecDepth 100000 in
theorem add_any (w : World) (cb lb d : Nat) (S : Nat → Prop) (h : CtxS w cb lb S) (hd : okD d) :
    Calls Tryz.prog 164 #[.agg #[.map (some cb), .map (some lb)], dotE d] w fun e w' => e = .returned (.tuple #[]) ∧ CtxS w' cb lb (fun k => S k ∨ k = d) ∧ Chg (fun k => k = cb ∨ k = lb) w w' := by
  obtain ⟨c, L, h, hcan, hS⟩ := h
  have HS : Hid (∀ k, 1 ≤ nth k → (S k ↔ inK c L k)) := hS
  have a5 := hd.1
  have c501 := h.c501
  have Hcan : Hid (∀ a, L (mkD a (c a + 1)) = false) := hcan
  have H501 : Hid (∀ a, c a ≤ 501) := c501
  have HG : Hid (∀ ob, ob = .cells #[.map (some cb), .map (some lb)] 104 → ∀ ob', CG w w.heap.size cb lb c L ((w.alloc ob).alloc ob')) := fun ob hob ob' => by
    subst hob
    have hb : Below w.heap.size w (w.alloc (.cells #[.map (some cb), .map (some lb)] 104)) := (Below.refl _ w).alloc (Nat.le_refl _) _
    refine CG.below (wx := w.alloc (.cells #[.map (some cb), .map (some lb)] 104)) ?_ ((Below.refl _ _).alloc (Nat.le_refl _) _)
    exact ⟨h.below hb, World.cell?_alloc_at _ _ _ _ rfl, World.cell?_alloc_at _ _ _ _ rfl, h.lt, Nat.le_refl _, by simp, Chg.of_below hb⟩
  have HD : Hid (∀ ob, ob = .cells #[.int .i64 (who d : Int), .int .i64 (nth d : Int)] 121 → ∀ ob', ((w.alloc ob').alloc ob).cell? ⟨w.heap.size + 1, 0, none⟩ = some (.int .i64 (who d : Int)) ∧ ((w.alloc ob').alloc ob).cell? ⟨w.heap.size + 1, 1, none⟩ = some (.int .i64 (nth d : Int))) := fun ob hob ob' => by
    subst hob
    have e : (w.alloc ob').heap.size = w.heap.size + 1 := by simp
    exact ⟨by rw [← e]; exact World.cell?_alloc_at _ _ _ _ rfl, by rw [← e]; exact World.cell?_alloc_at _ _ _ _ rfl⟩
  clear h hS hcan c501
  go_enter Tryz.func164, Tryz.ntmps164
  go_wp2_with fail
  have hC := HG.out _ rfl (.cells #[.int .i64 (who d : Int), .int .i64 (nth d : Int)] 121)
  have hD := HD.out _ rfl (.cells #[.map (some cb), .map (some lb)] 104)
  clear HG HD
  generalize hw2 : (w.alloc (.cells #[.map (some cb), .map (some lb)] 104)).alloc (.cells #[.int .i64 (who d : Int), .int .i64 (nth d : Int)] 121) = w2 at *
  have hs2 : w2.heap.size = w.heap.size + 2 := by rw [← hw2]; simp
  clear hw2
  refine Calls.mono (has_any w2 _ _ c d L hC.ctx.toV a5) ?_
  rintro e w3 ⟨rfl, hb3⟩
  have hC3 := hC.below hb3
  have d0 : w3.cell? ⟨w.heap.size + 1, 0, none⟩ = some (.int .i64 (who d : Int)) := (hb3.cell (p := ⟨w.heap.size + 1, 0, none⟩) (by show w.heap.size + 1 < _; omega)).trans hD.1
  have d1 : w3.cell? ⟨w.heap.size + 1, 1, none⟩ = some (.int .i64 (nth d : Int)) := (hb3.cell (p := ⟨w.heap.size + 1, 1, none⟩) (by show w.heap.size + 1 < _; omega)).trans hD.2
  have hs3 : w.heap.size + 1 < w3.heap.size := by have := hb3.size; omega
  have b0 := hC3.b0
  have b1 := hC3.b1
  have HC3 : Hid (CG w w.heap.size cb lb c L w3) := hC3
  clear hC hD hb3 hs2
  cases hh : (decide (nth d ≤ c (who d)) || L d) with
  | true =>
    have Hin : Hid (inK c L d) := by unfold Hid inK; simpa using hh
    clear hC3 hh
    go_wp2
    refine bodyPost_ret (results_none rfl _ _ _) rfl ?_
    exact ⟨rfl, ⟨c, L, HC3.out.ctx, Hcan.out, fun k hk => by
      show (S k ∨ k = d) ↔ _
      rw [HS.out k hk]
      constructor
      · rintro (h | rfl)
        · exact h
        · exact Hin.out
      · exact Or.inl⟩, HC3.out.chg⟩
  | false =>
    have hnin : c (who d) < nth d := by simp at hh; omega
    clear hh
    obtain ⟨kl, hkl⟩ := keyE d (by omega)
    obtain ⟨Nl, hNl⟩ := hC3.ctx.ls
    have hNb : Nl ≤ 3072 := loose_bound hNl (fun n hn => (hC3.ctx.l501 n hn).1)
    have hmx : Nl < maxLen := by unfold maxLen; omega
    have hlo := hC3.old
    have HL : Hid (MapV Tryz.prog 121 w3 lb Nl (lm L)) := hNl
    clear hC3 hNl
    go_wp2_with (first | (at_mapUpdate; refine wpList_store rfl (.tmp 8) (.tmp 9) (.tmp 10) 102 rfl 64 kDot Tryz.underlying102 rfl HL.out hmx (dotE d) unitV _ rfl rfl hkl ?_; intro w4 hm4 hg4 hs4; have hC4 : CG w w.heap.size cb lb c (fun k => L k || k == d) w4 := (CG.put HC3.out hg4 hm4 hnin hd); have b0 := hC4.b0; have b1 := hC4.b1; have d0 : w4.cell? ⟨w.heap.size + 1, 0, none⟩ = some (.int .i64 (who d : Int)) := (World.cell?_of_block (w := w3) (hg4.block (w.heap.size + 1) hs3 (fun e => by cases e; omega))).trans d0))
    refine Calls.mono (closeGap_any w4 cb lb (who d) c _ hC4.ctx a5) ?_
    rintro e w5 ⟨rfl, c', L', h5, hcan5, hsame, hch5⟩
    have HF : Hid (CtxS w5 cb lb (fun k => S k ∨ k = d)) := ⟨c', L', h5, can_step Hcan.out hsame hcan5 H501.out, fun k hk => by
      show (S k ∨ k = d) ↔ _
      rw [hsame.same k, HS.out k hk, inK_put]⟩
    have HCh : Hid (Chg (fun k => k = cb ∨ k = lb) w w5) := hC4.chg.trans hch5
    clear h5 hsame hch5 hC4 b0 b1 d0
    go_wp2
    go_end0
    exact ⟨rfl, HF.out, HCh.out⟩

def RangeO (P : Program) (k : TypeId) (w : World) (v : Value) (r N : Nat) (m : Value → Option Value) (left : Value → Prop) (cnt : Nat) : Prop :=
  (v = .map none ∧ (∃ s seen c, w.heap[r]? = some (.mapIter none s seen c)) ∧ cnt = 0 ∧ m = (fun _ => none) ∧ ∀ key, ¬ left key) ∨ ∃ b, v = .map (some b) ∧ RangeV P k w b r N m left cnt

section
variable {P : Program} {k : TypeId} {w : World} {v : Value} {r N cnt : Nat} {m : Value → Option Value} {left : Value → Prop}
theorem MapO.chg {M : Nat → Prop} {w' : World} (h : MapO P k w v N m) (hc : Chg M w w') (hm : ∀ b, v = .map (some b) → ¬ M b) : MapO P k w' v N m := by
  rcases h with h | ⟨b, h1, h2⟩
  · exact Or.inl h
  · exact Or.inr ⟨b, h1, h2.block (hc.block b h2.lt (hm b h1))⟩
theorem RangeO.chg {M : Nat → Prop} {w' : World} (h : RangeO P k w v r N m left cnt) (hc : Chg M w w') (hm : ∀ b, v = .map (some b) → ¬ M b) (hr : ¬ M r) : RangeO P k w' v r N m left cnt := by
  rcases h with ⟨h1, ⟨s, seen, c, h2⟩, h3⟩ | ⟨b, h1, h2⟩
  · exact Or.inl ⟨h1, ⟨s, seen, c, (hc.block r (Array.getElem?_eq_some_iff.1 h2).1 hr).trans h2⟩, h3⟩
  · exact Or.inr ⟨b, h1, h2.block (hc.block b h2.map.lt (hm b h1)) (hc.block r h2.lt hr)⟩
theorem RangeO.lt (h : RangeO P k w v r N m left cnt) : r < w.heap.size := by
  rcases h with ⟨h1, ⟨s, seen, c, h2⟩, h3⟩ | ⟨b, h1, h2⟩
  · exact (Array.getElem?_eq_some_iff.1 h2).1
  · exact h2.lt
theorem RangeO.map {t : TypeId} (h : RangeO P t w v r N m left cnt) : ∃ N, MapO P t w v N m := by
  rcases h with ⟨h1, _, _, h2, _⟩ | ⟨b, h1, h2⟩
  · exact ⟨0, Or.inl ⟨h1, rfl, h2⟩⟩
  · exact ⟨N, Or.inr ⟨b, h1, h2.map⟩⟩
theorem run_next_nil {ty : TypeId} {s c : Nat} {seen : Array Nat} (h : w.heap[r]? = some (.mapIter none s seen c)) : (Instr.next (.pointer (some ⟨r, 0, none⟩)) false ty).run P w = .ok (.tuple #[.bool false]) w := by
  simp only [Instr.next, getObj, Sem.run_bind, Sem.run, h, Result.andThen]
  rfl

variable {ops : Array Oper} {rest : List Oper} {o : Oper} {a : Act} {Q : Exit → Act → World → Prop}
theorem wpList_rangeO (hg : o.guard = none) (mo : Operand) (t : TypeId) (hop : o.op = Op.range t mo) (e : TypeId) (K : Keyed P k) (ht : P.underlying t = some (.map k e))
    (hm : a.eval mo = v) (h : MapO P k w v N m)
    (hK : ∀ w', RangeO P k w' v w.heap.size N m (fun key => (m key).isSome = true) N → w.grownBy w' none → w'.heap.size = w.heap.size + 1 → wpList P ops Q rest (a.put o.dst (.pointer (some ⟨w.heap.size, 0, none⟩))) w') : wpList P ops Q (o :: rest) a w := by
  refine wpList_plain hg fun K' hK' => ?_
  rcases h with ⟨rfl, rfl, rfl⟩ | ⟨b, rfl, h2⟩
  · unfold Oper.wp
    simp [execOp, hop, hm, run_range_nilMap w t k e ht, Result.andThen]
    exact hK' _ _ (hK _ (Or.inl ⟨rfl, ⟨0, #[], 0, heap_alloc_new w _⟩, rfl, rfl, fun key h => by cases h⟩) (World.grownBy_alloc w _ none) (by simp))
  · obtain ⟨w', hrun, r1, r2, r3⟩ := h2.range K ht
    unfold Oper.wp
    simp [execOp, hop, hm, hrun, Result.andThen]
    exact hK' _ _ (hK w' (Or.inr ⟨b, rfl, r1⟩) r2 r3)
theorem wpList_nextO {α : Type} (hg : o.guard = none) (it : Operand) (hop : o.op = Op.next it false) (K : Keyed P k) (mk mv : α → Value) (hit : a.eval it = .pointer (some ⟨r, 0, none⟩)) (h : RangeO P k w v r N m left cnt)
    (hsh : ∀ key v, left key → m key = some v → ∃ x, key = mk x ∧ v = mv x)
    (hDone : (∀ key, ¬ left key) → wpList P ops Q rest (a.put o.dst (.tuple #[.bool false])) w)
    (hMore : ∀ (x : α) (w' : World) (cnt' : Nat), left (mk x) → m (mk x) = some (mv x) → RangeO P k w' v r N m (fun y => left y ∧ y ≠ mk x) cnt' → cnt' < cnt → w.grownBy w' (some r) → w'.heap.size = w.heap.size →
      (Instr.entry (.pointer (some ⟨r, 0, none⟩))).run P w' = .ok (.tuple #[mk x, mv x]) w' → wpList P ops Q rest (a.put o.dst (.tuple #[.bool true, mk x, mv x])) w') : wpList P ops Q (o :: rest) a w := by
  rcases h with ⟨h1, ⟨s, seen, c, h2⟩, h3, h4, h5⟩ | ⟨b, h1, h2⟩
  · refine wpList_plain hg fun K' hK' => ?_
    unfold Oper.wp
    simp [execOp, hop, hit, run_next_nil h2, Result.andThen]
    exact hK' _ _ (hDone h5)
  · exact wpList_next hg it hop K mk mv hit h2 hsh (fun _ => hDone) (fun x w' cnt' g1 g2 g3 g4 g5 g6 g7 => hMore x w' cnt' g1 g2 (Or.inr ⟨b, h1, g3⟩) g4 g5 g6 g7)
end

set_option maxHeartbeats 1000000 in
set_option maxRecDepth 100000 in
theorem newContext_any (w : World) : Calls Tryz.prog 163 #[] w fun e w' => ∃ cb lb, e = .returned (.agg #[.map (some cb), .map (some lb)]) ∧ CtxS w' cb lb (fun _ => False) ∧ w.heap.size ≤ cb ∧ w.heap.size ≤ lb ∧ Below w.heap.size w w' := by
  have hmm := @run_makeMap Tryz.prog
  have HM : Hid (∀ ob, Below w.heap.size w (w.alloc ob) ∧ CtxS (((w.alloc ob).alloc (.map #[] 0)).alloc (.map #[] 0)) (w.heap.size + 1) (w.heap.size + 2) (fun _ => False)) := fun ob => ⟨(Below.refl _ w).alloc (Nat.le_refl _) _, by
    have e1 : (w.alloc ob).heap.size = w.heap.size + 1 := by simp
    have e2 : ((w.alloc ob).alloc (.map #[] 0)).heap.size = w.heap.size + 2 := by simp
    have m1 := MapV.made (w.alloc ob) Tryz.prog 3
    have m2 := MapV.made ((w.alloc ob).alloc (.map #[] 0)) Tryz.prog 121
    rw [e1] at m1
    rw [e2] at m2
    have hc : cm (fun _ => 0) = fun _ => none := (cm_ext (fun a => rfl) (fun key _ => rfl)).symm
    have hl : lm (fun _ => false) = fun _ => none := by funext key; simp [lm]
    refine ⟨fun _ => 0, fun _ => false, ⟨⟨0, by rw [hc]; exact m1.block (((Below.refl _ ((w.alloc ob).alloc (.map #[] 0))).alloc (Nat.le_refl _) _).block _ m1.lt)⟩, ⟨0, by rw [hl]; exact m2⟩, by omega, fun _ => by omega, fun _ h => absurd rfl h, fun n h => (by cases h)⟩, fun _ => rfl, fun n hn => ?_⟩
    simp [inK]; omega⟩
  go_enter Tryz.func163, Tryz.ntmps163
  go_wp2
  refine bodyPost_ret (v := .agg #[.map (some (w.heap.size + 1)), .map (some (w.heap.size + 2))]) (by simp [results, Tryz.results163, go_sem]) rfl ⟨_, _, rfl, ?_, by omega, by omega, ?_⟩
  · first
      | exact (HM.out _).2
      | (refine CtxS.chg (M := fun k => k = w.heap.size) (HM.out _).2 (((Chg.refl _ _).setCell (p := ⟨w.heap.size, 0, none⟩) rfl _).setCell (p := ⟨w.heap.size, 1, none⟩) rfl _) (by omega) (by omega))
      | trace_state
  · go_grown

theorem dot_nth (x y : Int) (w : World) : (Instr.field 121 (.agg #[.int .i64 x, .int .i64 y]) 1).run Tryz.prog w = .ok (.int .i64 y) w := by kernel_rfl
structure AA (w : World) (cb lb : Nat) (cv lv : Value) (co : Nat → Nat) (Lo : Nat → Bool) (S : Nat → Prop) (wx : World) : Prop where
  ctx : CtxS wx cb lb S
  b0 : wx.cell? ⟨w.heap.size, 0, none⟩ = some (.map (some cb))
  b1 : wx.cell? ⟨w.heap.size, 1, none⟩ = some (.map (some lb))
  o0 : wx.cell? ⟨w.heap.size + 1, 0, none⟩ = some cv
  o1 : wx.cell? ⟨w.heap.size + 1, 1, none⟩ = some lv
  oc : ∃ N, MapO Tryz.prog 3 wx cv N (cm co)
  ol : ∃ N, MapO Tryz.prog 121 wx lv N (lm Lo)
  old : cb < w.heap.size ∧ lb < w.heap.size
  ne : (∀ b, cv = .map (some b) → b ≠ cb ∧ b ≠ lb ∧ b < w.heap.size) ∧ (∀ b, lv = .map (some b) → b ≠ cb ∧ b ≠ lb ∧ b < w.heap.size)
  lt : w.heap.size + 2 ≤ wx.heap.size
  chg : Chg (fun k => k = cb ∨ k = lb) w wx
theorem AA.step {w : World} {cb lb : Nat} {cv lv : Value} {co : Nat → Nat} {Lo : Nat → Bool} {S S' : Nat → Prop} {wx wy : World} (h : AA w cb lb cv lv co Lo S wx) (hc : CtxS wy cb lb S') (hg : Chg (fun k => k = cb ∨ k = lb) wx wy) : AA w cb lb cv lv co Lo S' wy := by
  obtain ⟨N, h1⟩ := h.oc
  obtain ⟨N', h2⟩ := h.ol
  have hl := h.lt
  have ho := h.old
  have hcell : ∀ b i, w.heap.size ≤ b → b < wx.heap.size → wy.cell? ⟨b, i, none⟩ = wx.cell? ⟨b, i, none⟩ := fun b i hb1 hb2 => World.cell?_of_block (w := wx) (hg.block b hb2 (by omega))
  exact ⟨hc, (hcell _ 0 (by omega) (by omega)).trans h.b0, (hcell _ 1 (by omega) (by omega)).trans h.b1, (hcell _ 0 (by omega) (by omega)).trans h.o0, (hcell _ 1 (by omega) (by omega)).trans h.o1, ⟨N, h1.chg hg (fun b hb => by have := h.ne.1 b hb; omega)⟩, ⟨N', h2.chg hg (fun b hb => by have := h.ne.2 b hb; omega)⟩, h.old, h.ne, Nat.le_trans hl hg.size, h.chg.trans hg⟩
theorem AA.below {w : World} {cb lb : Nat} {cv lv : Value} {co : Nat → Nat} {Lo : Nat → Bool} {S : Nat → Prop} {wx wy : World} (h : AA w cb lb cv lv co Lo S wx) (hb : Below wx.heap.size wx wy) : AA w cb lb cv lv co Lo S wy := h.step (h.ctx.below hb) (Chg.of_below hb)
theorem AA.turn {w : World} {cb lb : Nat} {cv lv : Value} {co : Nat → Nat} {Lo : Nat → Bool} {S : Nat → Prop} {wx wy : World} {r : Nat} (h : AA w cb lb cv lv co Lo S wx) (hr : w.heap.size + 2 ≤ r) (hg : wx.grownBy wy (some r)) : AA w cb lb cv lv co Lo S wy := by
  have hl := h.lt
  have ho := h.old
  have hcell : ∀ b i, b < w.heap.size + 2 → wy.cell? ⟨b, i, none⟩ = wx.cell? ⟨b, i, none⟩ := fun b i hb2 => World.cell?_of_block (w := wx) (hg.block b (by omega) (fun e => by cases e; omega))
  have hch : Chg (fun k => k = r) wx wy := (Chg.refl _ wx).grown hg (fun k e => by cases e; exact Or.inl rfl)
  obtain ⟨N, h1⟩ := h.oc
  obtain ⟨N', h2⟩ := h.ol
  exact ⟨h.ctx.chg hch (by omega) (by omega), (hcell _ 0 (by omega)).trans h.b0, (hcell _ 1 (by omega)).trans h.b1, (hcell _ 0 (by omega)).trans h.o0, (hcell _ 1 (by omega)).trans h.o1, ⟨N, h1.chg hch (fun b hb => by have := h.ne.1 b hb; omega)⟩, ⟨N', h2.chg hch (fun b hb => by have := h.ne.2 b hb; omega)⟩, h.old, h.ne, Nat.le_trans hl hg.size, h.chg.grown hg (fun k e => by cases e; right; omega)⟩
theorem AA.iff {w : World} {cb lb : Nat} {cv lv : Value} {co : Nat → Nat} {Lo : Nat → Bool} {S S' : Nat → Prop} {wx : World} (h : AA w cb lb cv lv co Lo S wx) (hS : ∀ n, 1 ≤ nth n → (S' n ↔ S n)) : AA w cb lb cv lv co Lo S' wx := h.step (h.ctx.iff hS) (Chg.refl _ _)
theorem CtxS.r {w : World} {cb lb : Nat} {S : Nat → Prop} (h : CtxS w cb lb S) : ∃ c L, CtxV w (.map (some cb)) (.map (some lb)) c L ∧ (∀ d, 1 ≤ nth d → nth d ≤ c (who d) → S d) ∧ ∀ a, c a ≤ 501 := by
  obtain ⟨c, L, h1, h2, h3⟩ := h; exact ⟨c, L, h1.toV, fun d h1 h2 => (h3 d h1).2 (Or.inl h2), h1.c501⟩

set_option maxHeartbeats 4000000 in
set_option maxRecDepth 100000 in
theorem addAll_any (w : World) (cb lb : Nat) (S So : Nat → Prop) (cv lv : Value) (h : CtxS w cb lb S) (ho : CtxR w cv lv So)
    (hne : (∀ b, cv = .map (some b) → b ≠ cb ∧ b ≠ lb ∧ b < w.heap.size) ∧ (∀ b, lv = .map (some b) → b ≠ cb ∧ b ≠ lb ∧ b < w.heap.size)) :
    Calls Tryz.prog 123 #[.agg #[.map (some cb), .map (some lb)], .agg #[cv, lv]] w fun e w' => e = .returned (.tuple #[]) ∧ CtxS w' cb lb (fun k => S k ∨ So k) ∧ Chg (fun k => k = cb ∨ k = lb) w w' := by
  obtain ⟨co, Lo, ho, _, hSo⟩ := ho
  have HSo : Hid (∀ d, 1 ≤ nth d → (So d ↔ inK co Lo d)) := hSo
  have Hco : Hid (∀ a, co a ≤ 501) := ho.c501
  have Hc5 : Hid (∀ a, co a ≠ 0 → a ≤ 5) := ho.c5
  have HLo : Hid (∀ d, Lo d = true → okD d) := fun d hd => (ho.l501 d hd).1
  have HA0 : Hid (∀ ob ob', ob = .cells #[.map (some cb), .map (some lb)] 104 → ob' = .cells #[cv, lv] 104 → AA w cb lb cv lv co Lo S ((w.alloc ob).alloc ob')) := fun ob ob' e1 e2 => by
    subst e1; subst e2
    have hb1 : Below w.heap.size w (w.alloc (.cells #[.map (some cb), .map (some lb)] 104)) := (Below.refl _ w).alloc (Nat.le_refl _) _
    have hb : Below w.heap.size w ((w.alloc (.cells #[.map (some cb), .map (some lb)] 104)).alloc (.cells #[cv, lv] 104)) := hb1.alloc (by simp) _
    have hb2 := (Below.refl (w.alloc (.cells #[.map (some cb), .map (some lb)] 104)).heap.size (w.alloc (.cells #[.map (some cb), .map (some lb)] 104))).alloc (Nat.le_refl _) (.cells #[cv, lv] 104)
    have e : (w.alloc (.cells #[.map (some cb), .map (some lb)] 104)).heap.size = w.heap.size + 1 := by simp
    have hR := ho.below hb
    refine ⟨h.below hb, (hb2.cell (p := ⟨w.heap.size, 0, none⟩) (by simp)).trans (World.cell?_alloc_at _ _ _ _ rfl), (hb2.cell (p := ⟨w.heap.size, 1, none⟩) (by simp)).trans (World.cell?_alloc_at _ _ _ _ rfl), ?_, ?_, hR.cs, hR.ls, h.lt, hne, by simp, Chg.of_below hb⟩
    · rw [← e]; exact World.cell?_alloc_at _ _ _ _ rfl
    · rw [← e]; exact World.cell?_alloc_at _ _ _ _ rfl
  clear h ho hSo hne
  go_enter Tryz.func123, Tryz.ntmps123
  have hA := HA0.out _ _ rfl rfl
  clear HA0
  obtain ⟨Nc, hNc⟩ := hA.oc
  have o0 := hA.o0
  have hs2 : ((w.alloc (.cells #[.map (some cb), .map (some lb)] 104)).alloc (.cells #[cv, lv] 104)).heap.size = w.heap.size + 2 := by simp
  have HA : Hid (AA w cb lb cv lv co Lo S _) := hA
  clear hA
  go_wp2_with (first | (at_range; refine wpList_rangeO rfl (.tmp 9) 101 rfl 3 kInt Tryz.underlying101 rfl hNc ?_; intro w3 hr3 hg3 hs3; have hA3 : AA w cb lb cv lv co Lo S w3 := (HA.out.below ((Below.refl _ _).grown hg3 (Nat.le_refl _) (fun k e => by cases e))); rw [hs2] at hr3 ⊢; clear HA o0 hNc hg3 hs3; go_frame))
  go_loopg [4] Nc (fun g v4 wx => ∃ (left : Value → Prop) (cnt : Nat), g = cnt ∧ RangeO Tryz.prog 3 wx cv (w.heap.size + 2) Nc (cm co) left cnt ∧ AA w cb lb cv lv co Lo (fun k => S k ∨ (nth k ≤ co (who k) ∧ ¬ left (.int .i64 (who k : Int)))) wx)
  case atStart =>
    refine ⟨_, _, rfl, hr3, hA3.iff (fun n hn => ?_)⟩
    have : ¬ (nth n ≤ co (who n) ∧ ¬ (cm co (.int .i64 (who n : Int))).isSome = true) := by
      rintro ⟨h1, h2⟩
      exact h2 (by rw [cm_at, if_neg (by omega)]; rfl)
    simp only [this, or_false]
  case round =>
    obtain ⟨left, q, hq, hR, hA⟩ := hrel
    have HR : Hid (RangeO Tryz.prog 3 wr cv (w.heap.size + 2) Nc (cm co) left q) := hR
    have HA : Hid (AA w cb lb cv lv co Lo (fun k => S k ∨ (nth k ≤ co (who k) ∧ ¬ left (.int .i64 (who k : Int)))) wr) := hA
    have Hsh : Hid (∀ key v, left key → cm co key = some v → ∃ x : Nat, key = (fun x : Nat => Value.int .i64 (x : Int)) x ∧ v = (fun x : Nat => Value.int .i64 (co x : Int)) x) := fun key v _ hk => by obtain ⟨x, h1, h2, _⟩ := cm_shape hk; exact ⟨x, h1, h2⟩
    have o1 := hA.o1
    obtain ⟨Nl, hNl⟩ := hA.ol
    clear hR hA hr3 hA3
    go_wp2_with (first | (at_next; refine wpList_nextO rfl (.tmp 10) rfl kInt (fun x : Nat => .int .i64 (x : Int)) (fun x : Nat => .int .i64 (co x : Int)) (by first | rfl | (simp; rfl)) HR.out Hsh.out ?_ ?_))
    · intro hl0
      go_wp2_with (first | (at_range; refine wpList_rangeO rfl (.tmp 31) 102 rfl 64 kDot Tryz.underlying102 rfl hNl ?_; intro w5 hr5 hg5 hs5; have hA5 : AA w cb lb cv lv co Lo (fun k => S k ∨ nth k ≤ co (who k)) w5 := ((HA.out.below ((Below.refl _ _).grown hg5 (Nat.le_refl _) (fun k e => by cases e))).iff (fun n hn => by simp [hl0])); have hrl : w.heap.size + 2 ≤ wr.heap.size := HA.out.lt; clear HA o1 hNl hg5 hs5 HR Hsh; go_frame))
      go_loopg [7] Nl (fun g v7 wx => ∃ (left2 : Value → Prop) (q2 : Nat), g = q2 ∧ RangeO Tryz.prog 121 wx lv wr.heap.size Nl (lm Lo) left2 q2 ∧ AA w cb lb cv lv co Lo (fun k => (S k ∨ nth k ≤ co (who k)) ∨ (Lo k = true ∧ ¬ left2 (dotE k))) wx)
      case atStart =>
        refine ⟨_, _, rfl, hr5, hA5.iff (fun n hn => ?_)⟩
        have : ¬ (Lo n = true ∧ ¬ (lm Lo (dotE n)).isSome = true) := by
          rintro ⟨h1, h2⟩
          exact h2 (by rw [lm_some]; exact h1)
        simp only [this, or_false]
      case round =>
        obtain ⟨left2, q2, hq2, hR2, hA2⟩ := hrel
        have HR2 : Hid (RangeO Tryz.prog 121 wr lv _ Nl (lm Lo) left2 q2) := hR2
        have HA2 : Hid (AA w cb lb cv lv co Lo (fun k => (S k ∨ nth k ≤ co (who k)) ∨ (Lo k = true ∧ ¬ left2 (dotE k))) wr) := hA2
        have Hsh2 : Hid (∀ key v, left2 key → lm Lo key = some v → ∃ x : Nat, key = (fun n : Nat => dotE n) x ∧ v = (fun _ => unitV) x) := fun key v _ hk => by obtain ⟨n, h1, h2, h3⟩ := lm_shape hk; exact ⟨n, h2, h3⟩
        clear hR2 hA2 hr5 hA5
        go_wp2_with (first | (at_next; refine wpList_nextO rfl (.tmp 32) rfl kDot (fun n : Nat => dotE n) (fun _ => unitV) rfl HR2.out Hsh2.out ?_ ?_))
        · intro hl2
          have HF : Hid (CtxS wr cb lb (fun k => S k ∨ So k)) := HA2.out.ctx.iff (fun n hn => by
            rw [HSo.out n hn]
            unfold inK
            simp only [hl2, not_false_eq_true, and_true]
            exact ⟨fun h => h.elim (fun h => Or.inl (Or.inl h)) (fun h => h.elim (fun h => Or.inl (Or.inr h)) Or.inr), fun h => h.elim (fun h => h.elim Or.inl (fun h => Or.inr (Or.inl h))) (fun h => Or.inr (Or.inr h))⟩)
          have HCh : Hid (Chg (fun k => k = cb ∨ k = lb) w wr) := HA2.out.chg
          clear HR2 HA2 Hsh2
          go_wp2
          go_end0
          exact ⟨rfl, HF.out, HCh.out⟩
        · intro n w6 q6 hlk6 hmk6 hR6 hlt6 hg6 hs6 hen6
          have hLn : Lo n = true := by rw [← lm_some n Lo, hmk6]; (first | done | rfl)
          have hn := HLo.out n hLn
          have hA6 := HA2.out.turn hrl hg6
          have HA6 : Hid (AA w cb lb cv lv co Lo (fun k => (S k ∨ nth k ≤ co (who k)) ∨ (Lo k = true ∧ ¬ left2 (dotE k))) w6) := hA6
          have b0 := hA6.b0
          have b1 := hA6.b1
          have hlt2 := hA6.lt
          have b0A : ∀ o, (w6.alloc o).cell? ⟨w.heap.size, 0, none⟩ = some (.map (some cb)) := fun o => (HA6.out.below ((Below.refl _ w6).alloc (Nat.le_refl _) o)).b0
          have b1A : ∀ o, (w6.alloc o).cell? ⟨w.heap.size, 1, none⟩ = some (.map (some lb)) := fun o => (HA6.out.below ((Below.refl _ w6).alloc (Nat.le_refl _) o)).b1
          have HR6 : Hid (RangeO Tryz.prog 121 w6 lv _ Nl (lm Lo) (fun y => left2 y ∧ ¬ y = dotE n) q6) := hR6
          have Hadd : Hid (∀ wx, Below w6.heap.size w6 wx → Calls Tryz.prog 164 #[.agg #[.map (some cb), .map (some lb)], dotE n] wx fun e w' => e = .returned (.tuple #[]) ∧ AA w cb lb cv lv co Lo (fun k => ((S k ∨ nth k ≤ co (who k)) ∨ (Lo k = true ∧ ¬ left2 (dotE k))) ∨ k = n) w' ∧ RangeO Tryz.prog 121 w' lv _ Nl (lm Lo) (fun y => left2 y ∧ ¬ y = dotE n) q6) := fun wx hb => by
            have hA' := HA6.out.below hb
            refine Calls.mono (add_any wx cb lb n _ hA'.ctx hn) ?_
            rintro e w' ⟨rfl, h1, h2⟩
            have hol := hA'.old
            exact ⟨rfl, hA'.step h1 h2, (HR6.out.chg (M := fun _ => False) (Chg.of_below hb) (fun _ _ h => h) (fun h => h)).chg h2 (fun b hb => by have := hA'.ne.2 b hb; omega) (by omega)⟩
          clear hR6 hA6 HR2 HA2 Hsh2 HA6 HR6
          go_wp2_with fail
          refine Calls.mono (Hadd.out _ ?_) ?_
          · go_grown
          rintro e w7 ⟨rfl, hA7, hR7⟩
          have HA7 : Hid (AA w cb lb cv lv co Lo (fun k => (S k ∨ nth k ≤ co (who k)) ∨ (Lo k = true ∧ ¬ (left2 (dotE k) ∧ ¬ dotE k = dotE n))) w7) := hA7.iff (fun k hk => by
            constructor
            · rintro (h | ⟨h1, h2⟩)
              · exact Or.inl (Or.inl h)
              · by_cases e : k = n
                · exact Or.inr e
                · exact Or.inl (Or.inr ⟨h1, fun h3 => h2 ⟨h3, fun e2 => e (dotE_inj e2)⟩⟩)
            · rintro ((h | ⟨h1, h2⟩) | rfl)
              · exact Or.inl h
              · exact Or.inr ⟨h1, fun h3 => h2 h3.1⟩
              · exact Or.inr ⟨hLn, fun h3 => h3.2 rfl⟩)
          have HR7 : Hid (RangeO Tryz.prog 121 w7 lv _ Nl (lm Lo) (fun y => left2 y ∧ ¬ y = dotE n) q6) := hR7
          clear hA7 hR7 Hadd b0 b1 b0A b1A hen6
          go_wp2_with fail
          go_roundg q6
          case measure => omega
          case rel => exact ⟨_, q6, rfl, HR7.out, HA7.out⟩
    · intro a w4 q' hlk hmk hR4 hlt hg4 hs4 hen
      have hca0 : co a ≠ 0 := by intro h0; rw [cm_at, if_pos h0] at hmk; cases hmk
      have a5 := Hc5.out a hca0
      have co501 := Hco.out a
      obtain ⟨ca, hca⟩ : ∃ ca, co a = ca := ⟨_, rfl⟩
      have Hca : Hid (co a = ca) := hca
      rw [hca] at co501
      try rw [hca] at hen
      try rw [hca]
      clear hca hca0
      have hA4 := HA.out.turn (Nat.le_refl _) hg4
      obtain ⟨cc, L1, hV, hsub, hc1⟩ := hA4.ctx.r
      have HA4 : Hid (AA w cb lb cv lv co Lo (fun k => S k ∨ (nth k ≤ co (who k) ∧ ¬ left (.int .i64 (who k : Int)))) w4) := hA4
      have HR4 : Hid (RangeO Tryz.prog 3 w4 cv (w.heap.size + 2) Nc (cm co) (fun y => left y ∧ ¬ y = Value.int IntKind.i64 (a : Int)) q') := hR4
      have Hsub : Hid (∀ d, 1 ≤ nth d → nth d ≤ cc (who d) → (S d ∨ (nth d ≤ co (who d) ∧ ¬ left (.int .i64 (who d : Int))))) := hsub
      have b0 := hA4.b0
      have b1 := hA4.b1
      have Hn : Hid (_) := next_any w4 _ _ a cc L1 hV a5
      have hc1 := hc1 a
      obtain ⟨c1, hc1e⟩ : ∃ c1, cc a = c1 := ⟨_, rfl⟩
      have Hc1 : Hid (cc a = c1) := hc1e
      rw [hc1e] at Hn hc1
      clear hc1e
      have hwne := hA4.ne.1
      have hold := hA4.old
      clear hA4 hV hR4 HR HA hsub o1 hNl Hsh hg4
      go_wp2_with fail
      refine Calls.mono Hn.out ?_
      rintro e w5 ⟨rfl, hb5⟩
      have HA5 : Hid (AA w cb lb cv lv co Lo (fun k => S k ∨ (nth k ≤ co (who k) ∧ ¬ left (.int .i64 (who k : Int)))) w5) := HA4.out.below hb5
      have HR5 : Hid (RangeO Tryz.prog 3 w5 cv (w.heap.size + 2) Nc (cm co) (fun y => left y ∧ ¬ y = Value.int IntKind.i64 (a : Int)) q') := HR4.out.chg (M := fun _ => False) (Chg.of_below hb5) (fun _ _ h => h) (fun h => h)
      have hfd := dot_nth (a : Int) ((c1 : Int) + 1)
      clear HA4 HR4 Hn b0 b1 hb5 hen
      go_wp2_with fail
      clear hfd
      go_loopg [6] (ca + 1 - (c1 + 1)) (fun g v6 wx => ∃ nt : Nat, c1 + 1 ≤ nt ∧ (nt ≤ ca + 1 ∨ nt = c1 + 1) ∧ v6 = .int .i64 (nt : Int) ∧ g = ca + 1 - nt ∧ RangeO Tryz.prog 3 wx cv (w.heap.size + 2) Nc (cm co) (fun y => left y ∧ ¬ y = Value.int IntKind.i64 (a : Int)) q' ∧ AA w cb lb cv lv co Lo (fun k => (S k ∨ (nth k ≤ co (who k) ∧ ¬ left (.int .i64 (who k : Int)))) ∨ (who k = a ∧ c1 < nth k ∧ nth k < nt)) wx)
      case atStart => exact ⟨c1 + 1, by omega, by omega, rfl, rfl, HR5.out, HA5.out.iff (fun n hn => by constructor; (rintro (h | h); exact h; omega); exact Or.inl)⟩
      case round =>
        obtain ⟨nt, hn1, hn2, rfl, hg, hR6, hA6⟩ := hrel
        have HR6 : Hid (RangeO Tryz.prog 3 wr cv (w.heap.size + 2) Nc (cm co) (fun y => left y ∧ ¬ y = Value.int IntKind.i64 (a : Int)) q') := hR6
        have HA6 : Hid (AA w cb lb cv lv co Lo (fun k => (S k ∨ (nth k ≤ co (who k) ∧ ¬ left (.int .i64 (who k : Int)))) ∨ (who k = a ∧ c1 < nth k ∧ nth k < nt)) wr) := hA6
        have b0 := hA6.b0
        have b1 := hA6.b1
        clear hR6 hA6 HA5 HR5
        by_cases hle : nt ≤ ca
        · have hm512 : nt < 512 := by omega
          have Hadd : Hid (_) := add_any wr cb lb (mkD a nt) _ HA6.out.ctx ⟨by rw [who_mk hm512]; exact a5, by rw [nth_mk hm512]; omega, by rw [nth_mk hm512]; omega⟩
          unfold dotE at Hadd
          rw [who_mk hm512, nth_mk hm512] at Hadd
          go_wp2_with fail
          refine Calls.mono Hadd.out ?_
          rintro e w7 ⟨rfl, hc7, hch7⟩
          have HA7 : Hid (AA w cb lb cv lv co Lo (fun k => (S k ∨ (nth k ≤ co (who k) ∧ ¬ left (.int .i64 (who k : Int)))) ∨ (who k = a ∧ c1 < nth k ∧ nth k < nt + 1)) w7) := (HA6.out.step hc7 hch7).iff (fun n hn => by
            constructor
            · rintro (h | h)
              · exact Or.inl (Or.inl h)
              · by_cases e : nth n = nt
                · exact Or.inr (dot_ext (by rw [who_mk hm512]; exact h.1) (by rw [nth_mk hm512]; exact e))
                · exact Or.inl (Or.inr (by omega))
            · rintro ((h | h) | h)
              · exact Or.inl h
              · exact Or.inr (by omega)
              · refine Or.inr ⟨by rw [h, who_mk hm512], by rw [h, nth_mk hm512]; omega, by rw [h, nth_mk hm512]; omega⟩)
          have HR7 : Hid (RangeO Tryz.prog 3 w7 cv (w.heap.size + 2) Nc (cm co) (fun y => left y ∧ ¬ y = Value.int IntKind.i64 (a : Int)) q') := HR6.out.chg hch7 (fun b hb => by have := hwne b hb; omega) (by omega)
          clear Hadd hc7 hch7 HA6 HR6 b0 b1
          go_wp2_with fail
          go_roundg (ca + 1 - (nt + 1))
          case measure => omega
          case rel => exact ⟨nt + 1, by omega, by omega, by go_num, rfl, HR7.out, HA7.out⟩
        · go_wp2_with fail
          go_roundg q'
          case measure => omega
          case rel => exact ⟨_, q', rfl, HR6.out, HA6.out.iff (fun n hn => by
            have hle2 : ca < nt := by omega
            constructor
            · rintro (h | ⟨h, h'⟩)
              · exact Or.inl (Or.inl h)
              · by_cases ea : who n = a
                · by_cases e : nth n ≤ c1
                  · exact Or.inl (Hsub.out n hn (by rw [ea, Hc1.out]; exact e))
                  · exact Or.inr ⟨ea, by omega, by rw [ea, Hca.out] at h; omega⟩
                · refine Or.inl (Or.inr ⟨h, fun hl => h' ⟨hl, fun e2 => ea ?_⟩⟩)
                  simp at e2; omega
            · rintro ((h | h) | h)
              · exact Or.inl h
              · exact Or.inr ⟨h.1, fun hh => h.2 hh.1⟩
              · exact Or.inr ⟨by rw [h.1, Hca.out]; omega, fun hh => hh.2 (by rw [h.1])⟩)⟩

noncomputable def im (It : Nat → Option Value) : Value → Option Value := fun key => @dite _ (∃ n : Nat, key = dotE n) (Classical.propDecidable _) (fun h => It (Classical.choose h)) (fun _ => none)
theorem im_dot (It : Nat → Option Value) (n : Nat) : im It (dotE n) = It n := by
  unfold im
  have h : ∃ m : Nat, dotE n = dotE m := ⟨n, rfl⟩
  rw [dif_pos h]
  have := Classical.choose_spec h
  rw [← dotE_inj this]
theorem im_shape {It : Nat → Option Value} {key v : Value} (h : im It key = some v) : ∃ n : Nat, key = dotE n ∧ It n = some v := by
  unfold im at h
  split at h
  · rename_i hh; exact ⟨_, Classical.choose_spec hh, h⟩
  · cases h
theorem im_ext {It : Nat → Option Value} {m : Value → Option Value} (h1 : ∀ n : Nat, m (dotE n) = It n) (h2 : ∀ key, (∀ n : Nat, key ≠ dotE n) → m key = none) : m = im It := by
  funext key
  by_cases h : ∃ n : Nat, key = dotE n
  · obtain ⟨n, rfl⟩ := h; rw [h1, im_dot]
  · rw [h2 key (fun n e => h ⟨n, e⟩)]; unfold im; rw [dif_neg h]
theorem im_upd (It : Nat → Option Value) (n : Nat) (v : Value) : upd (im It) (dotE n) v = im (fun k => if k = n then some v else It k) := by
  apply im_ext
  · intro k
    by_cases e : k = n
    · subst e; rw [upd_same, if_pos rfl]
    · rw [upd_other (fun e2 => e (dotE_inj e2)), im_dot, if_neg e]
  · intro key hk
    rw [upd_other (hk n)]
    unfold im
    rw [dif_neg (fun ⟨n, e⟩ => hk n e)]
theorem im_none : im (fun _ => none) = fun _ => none := by
  symm; apply im_ext <;> intros <;> rfl

structure StoreS (w : World) (ib cb lb : Nat) (S : Nat → Prop) (It : Nat → Option Value) : Prop where
  ctx : CtxS w cb lb S
  its : ∃ N, MapV Tryz.prog 121 w ib N (im It)
  ne : ib ≠ cb ∧ ib ≠ lb
  ok : ∀ n, It n ≠ none → okD n ∧ S n
structure StoreR (w : World) (iv cv lv : Value) (S : Nat → Prop) (It : Nat → Option Value) : Prop where
  ctx : CtxR w cv lv S
  its : ∃ N, MapO Tryz.prog 121 w iv N (im It)
  ok : ∀ n, It n ≠ none → okD n ∧ S n
theorem StoreS.toR {w : World} {ib cb lb : Nat} {S : Nat → Prop} {It : Nat → Option Value} (h : StoreS w ib cb lb S It) : StoreR w (.map (some ib)) (.map (some cb)) (.map (some lb)) S It :=
  ⟨h.ctx.toR, h.its.imp fun N h => Or.inr ⟨ib, rfl, h⟩, h.ok⟩
theorem CtxR.chg {M : Nat → Prop} {w w' : World} {cv lv : Value} {S : Nat → Prop} (h : CtxR w cv lv S) (hc : Chg M w w') (h1 : ∀ b, cv = .map (some b) → ¬ M b) (h2 : ∀ b, lv = .map (some b) → ¬ M b) : CtxR w' cv lv S := by
  obtain ⟨c, L, ⟨⟨N, g1⟩, ⟨N', g2⟩, g3, g4, g5⟩, r⟩ := h
  exact ⟨c, L, ⟨⟨N, g1.chg hc h1⟩, ⟨N', g2.chg hc h2⟩, g3, g4, g5⟩, r⟩
theorem StoreR.chg {M : Nat → Prop} {w w' : World} {iv cv lv : Value} {S : Nat → Prop} {It : Nat → Option Value} (h : StoreR w iv cv lv S It) (hc : Chg M w w') (h1 : ∀ b, iv = .map (some b) ∨ cv = .map (some b) ∨ lv = .map (some b) → ¬ M b) : StoreR w' iv cv lv S It :=
  ⟨h.ctx.chg hc (fun b hb => h1 b (Or.inr (Or.inl hb))) (fun b hb => h1 b (Or.inr (Or.inr hb))), h.its.imp fun N g => g.chg hc (fun b hb => h1 b (Or.inl hb)), h.ok⟩
theorem StoreR.below {w w' : World} {iv cv lv : Value} {S : Nat → Prop} {It : Nat → Option Value} (h : StoreR w iv cv lv S It) (hb : Below w.heap.size w w') : StoreR w' iv cv lv S It := h.chg (M := fun _ => False) (Chg.of_below hb) (fun _ _ h => h)
theorem StoreS.chg {M : Nat → Prop} {w w' : World} {ib cb lb : Nat} {S : Nat → Prop} {It : Nat → Option Value} (h : StoreS w ib cb lb S It) (hc : Chg M w w') (h1 : ¬ M ib) (h2 : ¬ M cb) (h3 : ¬ M lb) : StoreS w' ib cb lb S It :=
  ⟨h.ctx.chg hc h2 h3, h.its.imp fun N g => g.block (hc.block _ g.lt h1), h.ne, h.ok⟩
theorem StoreS.below {w w' : World} {ib cb lb : Nat} {S : Nat → Prop} {It : Nat → Option Value} (h : StoreS w ib cb lb S It) (hb : Below w.heap.size w w') : StoreS w' ib cb lb S It := h.chg (M := fun _ => False) (Chg.of_below hb) (fun h => h) (fun h => h) (fun h => h)
theorem StoreS.lt {w : World} {ib cb lb : Nat} {S : Nat → Prop} {It : Nat → Option Value} (h : StoreS w ib cb lb S It) : ib < w.heap.size ∧ cb < w.heap.size ∧ lb < w.heap.size := ⟨h.its.elim fun _ g => g.lt, h.ctx.lt⟩
theorem MapO.lt {P : Program} {k : TypeId} {w : World} {v : Value} {N : Nat} {m : Value → Option Value} (h : MapO P k w v N m) : ∀ b, v = .map (some b) → b < w.heap.size := by
  intro b hb
  rcases h with ⟨h, _⟩ | ⟨b', h, h2⟩
  · rw [h] at hb; cases hb
  · rw [h] at hb; cases hb; exact h2.lt
theorem StoreR.lt {w : World} {iv cv lv : Value} {S : Nat → Prop} {It : Nat → Option Value} (h : StoreR w iv cv lv S It) : ∀ b, iv = .map (some b) ∨ cv = .map (some b) ∨ lv = .map (some b) → b < w.heap.size := by
  obtain ⟨⟨c, L, ⟨⟨N, g1⟩, ⟨N', g2⟩, _⟩, _⟩, ⟨N2, g3⟩, _⟩ := h
  rintro b (hb | hb | hb)
  · exact g3.lt b hb
  · exact g1.lt b hb
  · exact g2.lt b hb

def SliceD (w : World) (v : Value) (ns : List Nat) : Prop :=
  (v = .slice none 0 0 ∧ ns = []) ∨ ∃ b off cap, v = .slice (some ⟨b, off, none⟩) ns.length cap ∧ ns.length ≤ cap ∧ b < w.heap.size ∧ ∀ j (h : j < ns.length), w.cell? ⟨b, off + j * 2, none⟩ = some (.int .i64 (who ns[j] : Int)) ∧ w.cell? ⟨b, off + j * 2 + 1, none⟩ = some (.int .i64 (nth ns[j] : Int))
theorem SliceD.chg {M : Nat → Prop} {w w' : World} {v : Value} {ns : List Nat} (h : SliceD w v ns) (hc : Chg M w w') (hm : ∀ b, v.ownBlock = some b → ¬ M b) : SliceD w' v ns := by
  rcases h with h | ⟨b, off, cap, rfl, h2, h3, h4⟩
  · exact Or.inl h
  · have e : ∀ i, w'.cell? ⟨b, i, none⟩ = w.cell? ⟨b, i, none⟩ := fun i => World.cell?_of_block (w := w) (hc.block b h3 (hm b rfl))
    exact Or.inr ⟨b, off, cap, rfl, h2, Nat.lt_of_lt_of_le h3 hc.size, fun j hj => ⟨(e _).trans (h4 j hj).1, (e _).trans (h4 j hj).2⟩⟩
theorem SliceD.below {w w' : World} {v : Value} {ns : List Nat} (h : SliceD w v ns) (hb : Below w.heap.size w w') : SliceD w' v ns := h.chg (M := fun _ => False) (Chg.of_below hb) (fun _ _ h => h)

theorem zCh (w : World) : (zeroValue 81).run Tryz.prog w = .ok (.agg #[.string ⟨#[]⟩, .int .u8 0, .string ⟨#[]⟩, .int .i64 0]) w := by kernel_rfl

theorem items_bound {w : World} {ib N : Nat} {It : Nat → Option Value} (h : MapV Tryz.prog 121 w ib N (im It)) (hl : ∀ n, It n ≠ none → okD n) : N ≤ 3072 := by
  refine h.bound kDot (fun n => dotE n) ?_
  intro key hk
  obtain ⟨v, hv⟩ := Option.isSome_iff_exists.1 hk
  obtain ⟨n, h1, h2⟩ := im_shape hv
  exact ⟨n, okD_lt (hl n (by rw [h2]; simp)), h1⟩

theorem StoreS.put {w w' : World} {ib cb lb n N : Nat} {S : Nat → Prop} {It : Nat → Option Value} {v : Value} (h : StoreS w ib cb lb S It) (hg : w.grownBy w' (some ib)) (hm : MapV Tryz.prog 121 w' ib N (upd (im It) (dotE n) v)) (h1 : okD n) (h3 : S n) : StoreS w' ib cb lb S (fun k => if k = n then some v else It k) := by
  have hc : Chg (fun k => k = ib) w w' := (Chg.refl _ w).grown hg (fun k e => by cases e; exact Or.inl rfl)
  refine ⟨h.ctx.chg hc (fun e => h.ne.1 e.symm) (fun e => h.ne.2 e.symm), ⟨N, by rw [im_upd] at hm; exact hm⟩, h.ne, fun k hk => ?_⟩
  by_cases e : k = n
  · subst e; exact ⟨h1, h3⟩
  · exact h.ok k (by simpa [e] using hk)

def ItemV (v : Value) : Prop := ∃ s0 x1 s2 x3, v = .agg #[.string s0, .int .u8 x1, .string s2, .int .i64 x3]
end Go.Proofs.YtoiiaankpnhppaaGreatDoor

