import Derived.Test.YtoiiaankpnhppaaGreatDoorPart16
set_option linter.unusedVariables false
set_option linter.unusedSimpArgs false
namespace Go.Proofs.YtoiiaankpnhppaaGreatDoor
open Go.RowKit

structure FrX where
  kv : Value
  made : Int
  al : Value
  lost : Int
  had : Bool
  most : Nat
def frRow (f : FrD) (x : FrX) : List Value := [.int .i64 (f.src : Int), .int .i64 (f.dst : Int), .int .i64 (f.ack : Int), x.kv, .int .i64 x.made, x.al, .int .i64 x.lost, .bool x.had, .int .i64 (x.most : Int)]
def frCells : List FrD → List FrX → List Value
  | f :: fs, x :: xs => frRow f x ++ frCells fs xs
  | _, _ => []
theorem frCells_at : ∀ (fs : List FrD) (xs : List FrX) (i : Nat) (h : i < fs.length) (h' : i < xs.length) (j : Nat), j < 9 → (frCells fs xs)[i * 9 + j]? = (frRow fs[i] xs[i])[j]?
  | [], _, i, h, _, _, _ => by simp at h
  | _ :: _, [], i, _, h', _, _ => by simp at h'
  | f :: fs, x :: xs, 0, _, _, j, hj => by
    rw [frCells, List.getElem?_append_left (by simp [frRow]; omega)]
    simp
  | f :: fs, x :: xs, i + 1, h, h', j, hj => by
    have := frCells_at fs xs i (by simpa using h) (by simpa using h') j hj
    have hl : (frRow f x).length = 9 := rfl
    rw [frCells, List.getElem?_append_right (by rw [hl]; omega), hl, show (i + 1) * 9 + j - 9 = i * 9 + j by omega, this]
    rfl
theorem frCells_snoc : ∀ (fs : List FrD) (xs : List FrX) (f : FrD) (x : FrX), xs.length = fs.length → frCells (fs ++ [f]) (xs ++ [x]) = frCells fs xs ++ frRow f x
  | [], [], f, x, _ => by simp [frCells]
  | [], _ :: _, _, _, h => by simp at h
  | _ :: _, [], _, _, h => by simp at h
  | a :: fs, b :: xs, f, x, h => by
    rw [List.cons_append, List.cons_append, frCells, frCells_snoc fs xs f x (by simpa using h), frCells, List.append_assoc]
theorem frCells_had : ∀ (fs : List FrD) (xs : List FrX) (i : Nat) (h : i < fs.length) (h' : i < xs.length), xs.length = fs.length → (frCells fs xs).set (i * 9 + 7) (.bool true) = frCells fs (xs.set i ⟨xs[i].kv, xs[i].made, xs[i].al, xs[i].lost, true, xs[i].most⟩)
  | [], _, i, h, _, _ => by simp at h
  | _ :: _, [], i, _, h', _ => by simp at h'
  | f :: fs, x :: xs, 0, _, _, _ => by
    rw [frCells, List.set_append_left _ _ (by simp [frRow])]
    rfl
  | f :: fs, x :: xs, i + 1, h, h', he => by
    have := frCells_had fs xs i (by simpa using h) (by simpa using h') (by simpa using he)
    have hl : (frRow f x).length = 9 := rfl
    rw [frCells, List.set_append_right _ _ (by rw [hl]; omega), hl, show (i + 1) * 9 + 7 - 9 = i * 9 + 7 by omega, this]
    rfl

structure FrOK (w : World) (f : FrD) (x : FrX) : Prop where
  kn : SliceT 4 w x.kv (bools f.known)
  kl : f.known.length ≤ 500
  al : ∃ l : List Int, SliceT 3 w x.al (ints l) ∧ l.length ≤ 500
  m1 : 1 ≤ x.most
  m2 : x.most ≤ 100000
def FrAt (w : World) (fv : Value) (fs : List FrD) : Prop := ∃ xs : List FrX, xs.length = fs.length ∧ w.ownsRow 0 201 9 fv fs.length (frCells fs xs) ∧ ∀ j (h : j < fs.length) (h' : j < xs.length), FrOK w fs[j] xs[j]
theorem FrOK.chg {M : Nat → Prop} {w w' : World} {f : FrD} {x : FrX} (h : FrOK w f x) (hc : Chg M w w') (h4 : ∀ b, Tagged w b 4 → ¬ M b) (h5 : IntsKept w w') : FrOK w' f x := by
  obtain ⟨l, h1, h2⟩ := h.al
  obtain ⟨l', h3, h6⟩ := h1.numbers h5
  exact ⟨h.kn.chg hc h4, h.kl, ⟨l', h6, by omega⟩, h.m1, h.m2⟩
theorem FrOK.below {w w' : World} {f : FrD} {x : FrX} (h : FrOK w f x) (hb : Below w.heap.size w w') : FrOK w' f x := h.chg (M := fun _ => False) (Chg.of_below hb) (fun _ _ h => h) (IntsKept.of_below hb)
theorem FrAt.chg {M : Nat → Prop} {w w' : World} {fv : Value} {fs : List FrD} (h : FrAt w fv fs) (hc : Chg M w w') (h3 : ∀ g, fv.ownBlock = some g → ¬ M g) (h4 : ∀ b, Tagged w b 4 → ¬ M b) (h5 : IntsKept w w') : FrAt w' fv fs := by
  obtain ⟨xs, h1, h2, h6⟩ := h
  exact ⟨xs, h1, ownsRow_chg h2 hc h3, fun j a b => (h6 j a b).chg hc h4 h5⟩
theorem FrAt.below {w w' : World} {fv : Value} {fs : List FrD} (h : FrAt w fv fs) (hb : Below w.heap.size w w') : FrAt w' fv fs := h.chg (M := fun _ => False) (Chg.of_below hb) (fun _ _ h => h) (fun _ _ h => h) (IntsKept.of_below hb)
theorem FrAt.tag {w : World} {fv : Value} {fs : List FrD} (h : FrAt w fv fs) : ∀ g, fv.ownBlock = some g → Tagged w g 201 := by
  obtain ⟨xs, _, h2, _⟩ := h
  exact own_tag h2
theorem FrAt.shape {w : World} {fv : Value} {fs : List FrD} (h : FrAt w fv fs) : ∃ ao cap, fv = .slice ao fs.length cap ∧ fs.length ≤ cap := by
  obtain ⟨xs, _, ⟨_, ⟨h1, h2⟩ | ⟨g, cap, cur, h1, _, _, h3, _⟩⟩, _⟩ := h
  · exact ⟨none, 0, by rw [h1, h2], by omega⟩
  · exact ⟨_, cap, h1, h3⟩
theorem FrAt.nil (w : World) : FrAt w (.slice none 0 0) [] := ⟨[], rfl, World.ownsRow_nil _ _ _ _, fun j h => absurd h (by simp)⟩
def noFr (f : Int) (len n : Nat) : Prop := n = 0 ↔ ¬ (1 ≤ f ∧ f ≤ len)
theorem Bound_any (w : World) (c : Nat) (fv : Value) (fs : List FrD) (h4 : w.cell? ⟨c, 4, none⟩ = some fv) (h : FrAt w fv fs) (h5 : fs.length ≤ 500) (f : Int) :
    Calls Tryz.prog 87 #[.pointer (some ⟨c, 0, none⟩), .int .i64 f] w fun e w' => ∃ n : Nat, e = .returned (.int .i64 (n : Int)) ∧ n ≤ 1000000 ∧ noFr f fs.length n ∧ w' = w := by
  obtain ⟨ao, cap, hfv, hcap⟩ := h.shape
  rw [hfv] at h4
  by_cases h1 : f < 1
  · clear h hfv
    go_enter Tryz.func87, Tryz.ntmps87
    go_wp2
    go_ret
    exact ⟨0, rfl, by omega, ⟨fun _ h9 => by omega, fun _ => rfl⟩, rfl⟩
  · by_cases h2 : (fs.length : Int) < f
    · clear h hfv
      go_enter Tryz.func87, Tryz.ntmps87
      go_wp2
      go_ret
      exact ⟨0, rfl, by omega, ⟨fun _ h9 => by omega, fun _ => rfl⟩, rfl⟩
    · obtain ⟨k, rfl⟩ : ∃ k : Nat, f = (k : Int) + 1 := ⟨(f - 1).toNat, by omega⟩
      have hk : k < fs.length := by omega
      obtain ⟨xs, e1, e2, e3⟩ := h
      have hk' : k < xs.length := by omega
      have hok := e3 k hk hk'
      obtain ⟨g, c', rfl⟩ := own_some e2 (by omega)
      have hc8 : w.cell? ⟨g, k * 9 + 8, none⟩ = some (.int .i64 (xs[k].most : Int)) := by
        rw [e2.cellAt (k * 9 + 8) (by omega), frCells_at fs xs k hk hk' 8 (by omega)]; rfl
      have m1 := hok.m1
      have m2 := hok.m2
      simp only [Value.slice.injEq] at hfv
      obtain ⟨rfl, _, rfl⟩ := hfv
      clear e2 e3 hok
      generalize xs[k].most = mo at *
      go_enter Tryz.func87, Tryz.ntmps87
      go_wp2
      go_ret
      exact ⟨mo, rfl, by omega, ⟨fun h9 => absurd h9 (by omega), fun h9 => absurd (show 1 ≤ (k : Int) + 1 ∧ (k : Int) + 1 ≤ (fs.length : Int) from ⟨by omega, by omega⟩) h9⟩, rfl⟩

def bothTo (a b : List Bool) (k : Nat) : List Bool := (bothL a b).take k ++ List.replicate (max a.length b.length - k) false
theorem bothTo_len (a b : List Bool) (k : Nat) (h : k ≤ max a.length b.length) : (bothTo a b k).length = max a.length b.length := by unfold bothTo; rw [List.length_append, List.length_take, bothL_len, List.length_replicate]; omega
theorem bothTo_set (a b : List Bool) (k : Nat) (h : k < max a.length b.length) : (bools (bothTo a b k)).set k (.bool (a.getD k false || b.getD k false)) = bools (bothTo a b (k + 1)) := by
  have hl : k < (bothL a b).length := by rw [bothL_len]; exact h
  have e1 : (bothL a b)[k] = (a.getD k false || b.getD k false) := by
    rw [← bothL_getD, List.getD_eq_getElem?_getD, List.getElem?_eq_getElem hl]; rfl
  unfold bools bothTo
  rw [← e1, ← List.map_set]
  congr 1
  rw [List.set_append_right _ _ (by rw [List.length_take]; omega), List.length_take, Nat.min_eq_left (by omega), Nat.sub_self, show max a.length b.length - k = (max a.length b.length - (k + 1)) + 1 by omega, List.replicate_succ, List.set_cons_zero, List.take_succ_eq_append_getElem hl, List.append_assoc]
  rfl
theorem bothTo_zero (a b : List Bool) : bothTo a b 0 = List.replicate (max a.length b.length) false := by unfold bothTo; simp
theorem bothTo_all (a b : List Bool) : bothTo a b (max a.length b.length) = bothL a b := by
  unfold bothTo
  rw [← bothL_len, List.take_length, Nat.sub_self]
  simp

theorem heap_put {w : World} {g k : Nat} {xs : List Value} {e : TypeId} (h : w.heap[g]? = some (.cells xs.toArray e (0, 0))) (u : Value) : (w.setCell ⟨g, k, none⟩ u).heap[g]? = some (.cells (xs.set k u).toArray e (0, 0)) := by
  simp [World.setCell, Array.getElem?_modify, h]

set_option maxHeartbeats 4000000 in
set_option maxRecDepth 100000 in
theorem both_any (w : World) (v1 v2 : Value) (a b : List Bool) (h1 : SliceT 4 w v1 (bools a)) (h2 : SliceT 4 w v2 (bools b)) (ha : a.length ≤ 500) (hb : b.length ≤ 500) :
    Calls Tryz.prog 142 #[v1, v2] w fun e w' => ∃ v, e = .returned v ∧ SliceT 4 w' v (bools (bothL a b)) ∧ Below w.heap.size w w' := by
  obtain ⟨i4, hi4, hz40, hz41, hz42⟩ := info_parts Tryz.info4
  obtain ⟨ao, ac, hv1, _⟩ := h1.shape
  obtain ⟨bo, bc, hv2, _⟩ := h2.shape
  have hla : (bools a).length = a.length := by simp [bools]
  have hlb : (bools b).length = b.length := by simp [bools]
  rw [hla] at hv1
  rw [hlb] at hv2
  have HI1 : Hid (∀ wx (k : Nat), k ≤ 1000 → Below w.heap.size w wx → Calls Tryz.prog 188 #[v1, .int .i64 (k : Int)] wx fun e w' => e = .returned (.bool (a.getD k false)) ∧ w' = wx) := fun wx k hk hx => in_any w.heap.size v1 a k wx (by omega) (by omega) (h1.toIn.below hx)
  have HI2 : Hid (∀ wx (k : Nat), k ≤ 1000 → Below w.heap.size w wx → Calls Tryz.prog 188 #[v2, .int .i64 (k : Int)] wx fun e w' => e = .returned (.bool (b.getD k false)) ∧ w' = wx) := fun wx k hk hx => in_any w.heap.size v2 b k wx (by omega) (by omega) (h2.toIn.below hx)
  subst hv1 hv2
  obtain ⟨n, hn⟩ : ∃ n, n = max a.length b.length := ⟨_, rfl⟩
  have hn5 : n ≤ 500 := by omega
  have hmk : ∀ wx : World, (Instr.makeSlice 145 (.int .i64 (n : Int)) (.int .i64 (n : Int))).run Tryz.prog wx = .ok (.slice (some ⟨wx.heap.size, 0, none⟩) n n) (wx.alloc (.cells (madeCells #[.bool false] n) 4)) := fun wx => run_make_row' 145 4 (.bool false) 1 Tryz.underlying145 Tryz.info4 rfl .i64 .i64 n (by omega) (by omega) wx
  have hm : madeCells #[.bool false] n = (bools (bothTo a b 0)).toArray := by
    rw [bothTo_zero, ← hn]
    have := made_bool n
    apply Array.ext'
    rw [show (Value.bool false).cells = #[.bool false] from rfl] at this
    rw [this]
    simp [bools]
  have HA : Hid ((w.alloc (.cells (madeCells #[.bool false] n) 4)).heap[w.heap.size]? = some (.cells (bools (bothTo a b 0)).toArray 4 (0, 0)) ∧ Below w.heap.size w (w.alloc (.cells (madeCells #[.bool false] n) 4))) := ⟨by rw [← hm]; exact Blk.new w _ _, (Below.refl _ w).alloc (Nat.le_refl _) _⟩
  have Hput : Hid (∀ k, k < n → (bools (bothTo a b k)).set k (.bool (a.getD k false || b.getD k false)) = bools (bothTo a b (k + 1))) := fun k hk => bothTo_set a b k (by omega)
  have Hlen : Hid (∀ k, k ≤ n → (bools (bothTo a b k)).length = n) := fun k hk => by unfold bools; rw [List.length_map, bothTo_len _ _ _ (by omega), hn]
  have Hfin : Hid (∀ wx, wx.heap[w.heap.size]? = some (.cells (bools (bothTo a b n)).toArray 4 (0, 0)) → SliceT 4 wx (.slice (some ⟨w.heap.size, 0, none⟩) n n) (bools (bothL a b))) := fun wx hx => by
    have e : bothTo a b n = bothL a b := by rw [hn]; exact bothTo_all a b
    have hl : (bools (bothL a b)).length = n := by unfold bools; rw [List.length_map, bothL_len, hn]
    rw [e] at hx
    exact Or.inr ⟨w.heap.size, 0, n, by rw [hl], by omega, ⟨_, hx⟩, fun j hj => by rw [Nat.zero_add, cell_of_heap hx, List.getElem?_eq_getElem hj]⟩
  have Hn : Hid (n = max a.length b.length) := hn
  clear h1 h2 hla hlb hm hn
  by_cases hlt : a.length < b.length
  · have hnb : n = b.length := by have := Hn.out; omega
    subst hnb
    go_enter Tryz.func142, Tryz.ntmps142
    go_wp2
    go_loopw [7, 8, 9] (fun v7 _ _ wx => ∃ k : Nat, k ≤ b.length ∧ v7 = .int .i64 (k : Int) ∧ wx.heap[w.heap.size]? = some (.cells (bools (bothTo a b k)).toArray 4 (0, 0)) ∧ Below w.heap.size w wx) (fun v7 _ _ _ => b.length - (intOf v7).toNat)
    case atStart => exact ⟨0, by omega, rfl, HA.out.1, HA.out.2⟩
    case round =>
      obtain ⟨k, hk, rfl, hh, hbl⟩ := hrel
      by_cases hkn : k < b.length
      · have hcell : wr.cell? ⟨w.heap.size, k, none⟩ = some ((bools (bothTo a b k))[k]'(by rw [Hlen.out k hk]; exact hkn)) := by rw [cell_of_heap hh, List.getElem?_eq_getElem]
        have hfz : ∀ j, wr.frozen? ⟨w.heap.size, j, none⟩ = false := Tagged.frozen ⟨_, hh⟩
        have HH : Hid ((wr.setCell ⟨w.heap.size, k, none⟩ (.bool (a.getD k false || b.getD k false))).heap[w.heap.size]? = some (.cells (bools (bothTo a b (k + 1))).toArray 4 (0, 0)) ∧ Below w.heap.size w (wr.setCell ⟨w.heap.size, k, none⟩ (.bool (a.getD k false || b.getD k false)))) := ⟨by rw [← Hput.out k hkn]; exact heap_put hh _, hbl.setCell (p := ⟨w.heap.size, k, none⟩) (Nat.le_refl _) _⟩
        have HB : Hid (_) := hbl
        have H1k : Hid (∀ wx, Below w.heap.size w wx → _) := fun wx hx => HI1.out wx k (by omega) hx
        have H2k : Hid (∀ wx, Below w.heap.size w wx → _) := fun wx hx => HI2.out wx k (by omega) hx
        generalize a.getD k false = x1 at *
        generalize b.getD k false = x2 at *
        clear hh hbl
        generalize (bools (bothTo a b k))[k]'(by rw [Hlen.out k hk]; exact hkn) = u at *
        go_wp2_with fail
        refine Calls.mono (H1k.out _ HB.out) ?_
        rintro e w2 ⟨rfl, rfl⟩
        go_wp2_with fail
        refine Calls.mono (H2k.out _ HB.out) ?_
        rintro e w3 ⟨rfl, rfl⟩
        cases x1 <;> cases x2
        all_goals
          go_wp2
          go_roundw
          case rel => exact ⟨k + 1, by omega, by go_num, HH.out.1, HH.out.2⟩
          case measure => simp [intOf]; omega
      · have hkk : k = b.length := by omega
        subst hkk
        have HF : Hid (_) := Hfin.out _ hh
        go_wp2
        go_ret
        exact ⟨_, rfl, HF.out, hbl⟩
  · have hna : n = a.length := by have := Hn.out; omega
    subst hna
    go_enter Tryz.func142, Tryz.ntmps142
    go_wp2
    go_loopw [7, 8, 9] (fun v7 _ _ wx => ∃ k : Nat, k ≤ a.length ∧ v7 = .int .i64 (k : Int) ∧ wx.heap[w.heap.size]? = some (.cells (bools (bothTo a b k)).toArray 4 (0, 0)) ∧ Below w.heap.size w wx) (fun v7 _ _ _ => a.length - (intOf v7).toNat)
    case atStart => exact ⟨0, by omega, rfl, HA.out.1, HA.out.2⟩
    case round =>
      obtain ⟨k, hk, rfl, hh, hbl⟩ := hrel
      by_cases hkn : k < a.length
      · have hcell : wr.cell? ⟨w.heap.size, k, none⟩ = some ((bools (bothTo a b k))[k]'(by rw [Hlen.out k hk]; exact hkn)) := by rw [cell_of_heap hh, List.getElem?_eq_getElem]
        have hfz : ∀ j, wr.frozen? ⟨w.heap.size, j, none⟩ = false := Tagged.frozen ⟨_, hh⟩
        have HH : Hid ((wr.setCell ⟨w.heap.size, k, none⟩ (.bool (a.getD k false || b.getD k false))).heap[w.heap.size]? = some (.cells (bools (bothTo a b (k + 1))).toArray 4 (0, 0)) ∧ Below w.heap.size w (wr.setCell ⟨w.heap.size, k, none⟩ (.bool (a.getD k false || b.getD k false)))) := ⟨by rw [← Hput.out k hkn]; exact heap_put hh _, hbl.setCell (p := ⟨w.heap.size, k, none⟩) (Nat.le_refl _) _⟩
        have HB : Hid (_) := hbl
        have H1k : Hid (∀ wx, Below w.heap.size w wx → _) := fun wx hx => HI1.out wx k (by omega) hx
        have H2k : Hid (∀ wx, Below w.heap.size w wx → _) := fun wx hx => HI2.out wx k (by omega) hx
        generalize a.getD k false = x1 at *
        generalize b.getD k false = x2 at *
        clear hh hbl
        generalize (bools (bothTo a b k))[k]'(by rw [Hlen.out k hk]; exact hkn) = u at *
        go_wp2_with fail
        refine Calls.mono (H1k.out _ HB.out) ?_
        rintro e w2 ⟨rfl, rfl⟩
        go_wp2_with fail
        refine Calls.mono (H2k.out _ HB.out) ?_
        rintro e w3 ⟨rfl, rfl⟩
        cases x1 <;> cases x2
        all_goals
          go_wp2
          go_roundw
          case rel => exact ⟨k + 1, by omega, by go_num, HH.out.1, HH.out.2⟩
          case measure => simp [intOf]; omega
      · have hkk : k = a.length := by omega
        subst hkk
        have HF : Hid (_) := Hfin.out _ hh
        go_wp2
        go_ret
        exact ⟨_, rfl, HF.out, hbl⟩

theorem SliceT.intAt {w : World} {v : Value} {l : List Int} (h : SliceT 3 w v (ints l)) {a : Nat} (ha : a < l.length) : ∃ b off cap, v = .slice (some ⟨b, off, none⟩) l.length cap ∧ l.length ≤ cap ∧ w.cell? ⟨b, off + a, none⟩ = some (.int .i64 l[a]) := by
  have hl : (ints l).length = l.length := by simp [ints]
  rcases h with ⟨_, h2⟩ | ⟨b, off, cap, h1, h2, h3, h4⟩
  · have : l = [] := by simpa [ints] using h2
    subst this; simp at ha
  · refine ⟨b, off, cap, by rw [h1, hl], by omega, ?_⟩
    rw [h4 a (by omega)]
    simp [ints]

set_option maxHeartbeats 16000000 in
set_option maxRecDepth 100000 in
theorem bound_any (w : World) (c : Nat) (fv : Value) (fs : List FrD) (h4 : w.cell? ⟨c, 4, none⟩ = some fv) (h : FrAt w fv fs) (h5 : fs.length ≤ 500) (g : FrD) (x : FrX) (hg : SliceT 4 w x.kv (bools g.known)) (hgl : g.known.length ≤ 500) (al : List Int) (hal : SliceT 3 w x.al (ints al)) (hall : al.length ≤ 500)
    (hcnt : ∀ f ∈ fs, f.ack = 0 → f.src = g.src → cnt f.known ≤ cnt g.known) :
    Calls Tryz.prog 141 #[.pointer (some ⟨c, 0, none⟩), .agg (frRow g x).toArray] w fun e w' => ∃ n : Nat, e = .returned (.int .i64 (n : Int)) ∧ 1 ≤ n ∧ n ≤ 100000 ∧ Below w.heap.size w w' := by
  have hcl : c < w.heap.size := World.block_lt_of_cell? w ⟨c, 4, none⟩ h4
  obtain ⟨xkv, xma, xal, xlo, xha, xmo⟩ := x
  simp only at *
  have hlal : (ints al).length = al.length := by simp [ints]
  obtain ⟨ao, ac, hav, hac⟩ := hal.shape
  rw [hlal] at hav hac
  subst hav
  obtain ⟨fo, fc, hfv, hfc⟩ := h.shape
  obtain ⟨W0, hW0⟩ : ∃ W0, W0 = w.alloc (.cells (frRow g ⟨xkv, xma, .slice ao al.length ac, xlo, xha, xmo⟩).toArray 201) := ⟨_, rfl⟩
  have hb0 : Below w.heap.size w W0 := by rw [hW0]; exact (Below.refl _ w).alloc (Nat.le_refl _) _
  have kg : Blk W0 w.heap.size (frRow g ⟨xkv, xma, .slice ao al.length ac, xlo, xha, xmo⟩).toArray 201 := by rw [hW0]; exact Blk.new w _ _
  have hsz0 : W0.heap.size = w.heap.size + 1 := by rw [hW0]; simp
  have h0 := h.below hb0
  have hal0 := hal.below hb0
  have hg0 := hg.below hb0
  have HC : Hid (∀ wx, Below W0.heap.size W0 wx → wx.cell? ⟨c, 4, none⟩ = some (.slice fo fs.length fc)) := fun wx hx => by
    rw [← hfv, hx.cell (p := ⟨c, 4, none⟩) (show c < W0.heap.size by omega), hb0.cell (p := ⟨c, 4, none⟩) hcl]; exact h4
  have HG : Hid (∀ wx, Below W0.heap.size W0 wx → wx.cell? ⟨w.heap.size, 0, none⟩ = some (.int .i64 (g.src : Int)) ∧ wx.cell? ⟨w.heap.size, 1, none⟩ = some (.int .i64 (g.dst : Int)) ∧ wx.cell? ⟨w.heap.size, 3, none⟩ = some xkv ∧ wx.cell? ⟨w.heap.size, 5, none⟩ = some (.slice ao al.length ac) ∧ wx.cell? ⟨w.heap.size, 6, none⟩ = some (.int .i64 xlo)) := fun wx hx => by
    have k := kg.below hx
    exact ⟨(k.cell 0).trans rfl, (k.cell 1).trans rfl, (k.cell 3).trans rfl, (k.cell 5).trans rfl, (k.cell 6).trans rfl⟩
  have HA : Hid (∀ wx, Below W0.heap.size W0 wx → ∀ a, a < al.length → ∃ b off m, ao = some ⟨b, off, none⟩ ∧ wx.cell? ⟨b, off + a, none⟩ = some (.int .i64 m)) := fun wx hx a ha => by
    obtain ⟨b, off, cap, e1, _, e3⟩ := (hal0.below hx).intAt ha
    simp only [Value.slice.injEq] at e1
    exact ⟨b, off, _, e1.1, e3⟩
  have HK : Hid (∀ wx, Below W0.heap.size W0 wx → SliceT 4 wx xkv (bools g.known)) := fun wx hx => hg0.below hx
  have HF : Hid (∀ wx, Below W0.heap.size W0 wx → ∀ k (hk : k < fs.length), ∃ b kv made hv lost had most, ∃ hl : List Int, ∃ ho hc2 ko kc, fo = some ⟨b, 0, none⟩ ∧ hv = .slice ho hl.length hc2 ∧ kv = .slice ko fs[k].known.length kc ∧ hl.length ≤ hc2 ∧ wx.cell? ⟨b, k * 9, none⟩ = some (.int .i64 (fs[k].src : Int)) ∧ wx.cell? ⟨b, k * 9 + 1, none⟩ = some (.int .i64 (fs[k].dst : Int)) ∧ wx.cell? ⟨b, k * 9 + 2, none⟩ = some (.int .i64 (fs[k].ack : Int)) ∧ wx.cell? ⟨b, k * 9 + 3, none⟩ = some kv ∧ wx.cell? ⟨b, k * 9 + 4, none⟩ = some (.int .i64 made) ∧ wx.cell? ⟨b, k * 9 + 5, none⟩ = some hv ∧ wx.cell? ⟨b, k * 9 + 6, none⟩ = some (.int .i64 lost) ∧ wx.cell? ⟨b, k * 9 + 7, none⟩ = some (.bool had) ∧ wx.cell? ⟨b, k * 9 + 8, none⟩ = some (.int .i64 most) ∧ SliceT 4 wx kv (bools fs[k].known) ∧ SliceT 3 wx hv (ints hl) ∧ hl.length ≤ 500 ∧ fs[k].known.length ≤ 500) := fun wx hx k hk => by
    obtain ⟨xs, e1, e2, e3⟩ := h0.below hx
    have hk' : k < xs.length := by omega
    have hok := e3 k hk hk'
    obtain ⟨l, a1, a2⟩ := hok.al
    obtain ⟨ho, hc2, a3, a4⟩ := a1.shape
    have hll : (ints l).length = l.length := by simp [ints]
    rw [hll] at a3 a4
    obtain ⟨ko, kc, a5, _⟩ := hok.kn.shape
    have hkl : (bools fs[k].known).length = fs[k].known.length := by simp [bools]
    rw [hkl] at a5
    rw [hfv] at e2
    obtain ⟨b, c', eb⟩ := own_some e2 (by omega)
    simp only [Value.slice.injEq] at eb
    obtain ⟨eb, _, rfl⟩ := eb
    have hce : ∀ j, j < 9 → wx.cell? ⟨b, k * 9 + j, none⟩ = (frRow fs[k] xs[k])[j]? := fun j hj => by
      rw [eb] at e2
      rw [e2.cellAt (k * 9 + j) (by omega), frCells_at fs xs k hk hk' j hj]
    exact ⟨b, xs[k].kv, xs[k].made, xs[k].al, xs[k].lost, xs[k].had, xs[k].most, l, ho, hc2, ko, kc, eb, a3, a5, a4, hce 0 (by omega), hce 1 (by omega), hce 2 (by omega), hce 3 (by omega), hce 4 (by omega), hce 5 (by omega), hce 6 (by omega), hce 7 (by omega), hce 8 (by omega), hok.kn, a1, a2, hok.kl⟩
  have Hcnt : Hid (_) := hcnt
  have hcg : cnt g.known ≤ 500 := Nat.le_trans (cnt_le _) hgl
  have HW0 : Hid (w.alloc (.cells (frRow g ⟨xkv, xma, .slice ao al.length ac, xlo, xha, xmo⟩).toArray 201) = W0) := hW0.symm
  have HB0 : Hid (_) := hb0
  obtain ⟨g0, g1, g3, g5, g6⟩ := HG.out W0 (Below.refl _ _)
  unfold frRow
  unfold frRow at HW0
  clear h h0 hal hal0 hg hg0 hcnt hW0 kg hfv h4 hb0 hlal
  go_enter Tryz.func141, Tryz.ntmps141
  go_wp2_with fail
  rw [HW0.out]
  go_wp2_with fail
  clear g0 g1 g3 g5 g6
  go_loopw [5, 6, 7, 8, 9, 10, 11, 12] (fun v5 v6 _ _ _ _ _ _ wx => ∃ k best : Nat, k ≤ fs.length ∧ v6 = .int .i64 (k : Int) ∧ v5 = .int .i64 (best : Int) ∧ 1 ≤ best ∧ best ≤ 100000 ∧ Below W0.heap.size W0 wx) (fun _ v6 _ _ _ _ _ _ _ => fs.length - (intOf v6).toNat)
  case atStart => exact ⟨0, 200 + 80 * al.length, by omega, rfl, by go_num, by omega, by omega, Below.refl _ _⟩
  case round =>
    obtain ⟨k, best, hk, rfl, rfl, hb1, hb2, hbl⟩ := hrel
    have c4 := HC.out _ hbl
    by_cases hkn : k < fs.length
    · obtain ⟨fb, kv, made, hv, lost, had, most, hl, ho, hc2, ko, kc, rfl, rfl, rfl, hcc, f0, f1, f2, f3, f4, f5, f6, f7, f8, fk, fa, fl, fkl⟩ := HF.out _ hbl k hkn
      obtain ⟨g0, g1, g3, g5, g6⟩ := HG.out _ hbl
      have gA0 : ∀ o, (wr.alloc o).cell? ⟨w.heap.size, 0, none⟩ = some (.int .i64 (g.src : Int)) := fun o => (HG.out (wr.alloc o) (hbl.alloc hbl.size o)).1
      have gA1 : ∀ o, (wr.alloc o).cell? ⟨w.heap.size, 1, none⟩ = some (.int .i64 (g.dst : Int)) := fun o => (HG.out (wr.alloc o) (hbl.alloc hbl.size o)).2.1
      have gA6 : ∀ o, (wr.alloc o).cell? ⟨w.heap.size, 6, none⟩ = some (.int .i64 xlo) := fun o => (HG.out (wr.alloc o) (hbl.alloc hbl.size o)).2.2.2.2
      have HBL : Hid (Below W0.heap.size W0 wr) := hbl
      have hfcx : fs.length ≤ fc := hfc
      have Hfk : Hid (SliceT 4 wr (.slice ko fs[k].known.length kc) (bools fs[k].known)) := fk
      have Hfa : Hid (SliceT 3 wr (.slice ho hl.length hc2) (ints hl)) := fa
      have Hck : Hid (fs[k].ack = 0 → fs[k].src = g.src → cnt fs[k].known ≤ cnt g.known) := Hcnt.out fs[k] (List.getElem_mem hkn)
      have hch : cnt fs[k].known ≤ 500 := Nat.le_trans (cnt_le _) fkl
      clear fk fa hbl
      -- behind the copy
      obtain ⟨W3, hW3⟩ : ∃ W3, W3 = wr.alloc (.cells #[.int .i64 (fs[k].src : Int), .int .i64 (fs[k].dst : Int), .int .i64 (fs[k].ack : Int), .slice ko fs[k].known.length kc, .int .i64 made, .slice ho hl.length hc2, .int .i64 lost, .bool had, .int .i64 most] 201) := ⟨_, rfl⟩
      have hb3 : Below wr.heap.size wr W3 := by rw [hW3]; exact (Below.refl _ wr).alloc (Nat.le_refl _) _
      have HB3 : Hid (Below W0.heap.size W0 W3) := HBL.out.trans (hb3.mono HBL.out.size)
      have kh : Blk W3 wr.heap.size #[.int .i64 (fs[k].src : Int), .int .i64 (fs[k].dst : Int), .int .i64 (fs[k].ack : Int), .slice ko fs[k].known.length kc, .int .i64 made, .slice ho hl.length hc2, .int .i64 lost, .bool had, .int .i64 most] 201 := by rw [hW3]; exact Blk.new wr _ _
      have hsz3 : W0.heap.size ≤ wr.heap.size := HBL.out.size
      have hk0 := (kh.cell 0).trans rfl
      have hk1 := (kh.cell 1).trans rfl
      have hk2 := (kh.cell 2).trans rfl
      have hk6 := (kh.cell 6).trans rfl
      have hk7 := (kh.cell 7).trans rfl
      obtain ⟨q0, q1, q3, q5, q6⟩ := HG.out W3 HB3.out
      have HH : Hid (∀ wx, Below W3.heap.size W3 wx → wx.cell? ⟨wr.heap.size, 3, none⟩ = some (.slice ko fs[k].known.length kc) ∧ wx.cell? ⟨wr.heap.size, 5, none⟩ = some (.slice ho hl.length hc2) ∧ SliceT 4 wx (.slice ko fs[k].known.length kc) (bools fs[k].known) ∧ SliceT 3 wx (.slice ho hl.length hc2) (ints hl) ∧ Below W0.heap.size W0 wx) := fun wx hx => by
        have k' := kh.below hx
        exact ⟨(k'.cell 3).trans rfl, (k'.cell 5).trans rfl, (Hfk.out.below hb3).below hx, (Hfa.out.below hb3).below hx, HB3.out.trans (hx.mono HB3.out.size)⟩
      have HW3 : Hid (wr.alloc (.cells #[.int .i64 (fs[k].src : Int), .int .i64 (fs[k].dst : Int), .int .i64 (fs[k].ack : Int), .slice ko fs[k].known.length kc, .int .i64 made, .slice ho hl.length hc2, .int .i64 lost, .bool had, .int .i64 most] 201) = W3) := hW3.symm
      clear hW3 hb3 kh Hfk Hfa
      generalize fs[k].src = hsrc at *
      generalize fs[k].dst = hdst at *
      generalize fs[k].ack = hack at *
      by_cases t1 : 0 < hack
      · have t1' : (0 : Int) < (hack : Int) := by omega
        go_wp2_with fail
        rw [HW3.out]
        try go_wp2
        go_roundw
        case rel => exact ⟨k + 1, best, by omega, by go_num, rfl, hb1, hb2, HB3.out⟩
        case measure => simp [intOf]; omega
      · have t1' : ¬ (0 : Int) < (hack : Int) := by omega
        by_cases t2 : hsrc = g.src
        · subst t2
          have s2 : ((g.src : Int) != (g.src : Int)) = false := bne_self_eq_false _
          by_cases t3 : hdst = g.dst
          · subst t3
            have s3 : ((g.dst : Int) != (g.dst : Int)) = false := bne_self_eq_false _
            cases had
            · go_wp2_with fail
              rw [HW3.out]
              try go_wp2
              go_roundw
              case rel => exact ⟨k + 1, best, by omega, by go_num, rfl, hb1, hb2, HB3.out⟩
              case measure => simp [intOf]; omega
            · by_cases t5 : lost = xlo
              · subst t5
                have s5 : (lost != lost) = false := bne_self_eq_false _
                have hle : cnt fs[k].known ≤ cnt g.known := Hck.out (by omega) rfl
                go_wp2_with fail
                rw [HW3.out]
                try go_wp2
                clear f0 f1 f2 f3 f4 f5 f6 f7 f8 g0 g1 g3 g5 g6 gA0 gA1 gA6 hk0 hk1 hk2 hk6 hk7 q0 q1 q3 q5 q6 c4 HW3
                go_loopw [8, 9, 10, 11] (fun v8 v9 _ _ wx => ∃ a gone : Nat, a ≤ hl.length ∧ v9 = .int .i64 (a : Int) ∧ v8 = .int .i64 (gone : Int) ∧ gone ≤ a ∧ Below W3.heap.size W3 wx) (fun _ v9 _ _ _ => hl.length - (intOf v9).toNat)
                case atStart => exact ⟨0, 0, by omega, rfl, rfl, by omega, Below.refl _ _⟩
                case round =>
                  obtain ⟨a, gone, ha, rfl, rfl, hga, hbl⟩ := hrel
                  obtain ⟨p3, p5, pk, pa, pb0⟩ := HH.out _ hbl
                  obtain ⟨g0, g1, g3, g5, g6⟩ := HG.out _ pb0
                  by_cases han : a < hl.length
                  · clear pk pa g0 g1 g3 g6 p3
                    have HBL2 : Hid (_) := hbl
                    clear hbl
                    go_wp2
                    clear p5 g5 pb0
                    go_loopw [10, 11] (fun v10 v11 wx => ∃ (b : Nat) (st : Bool), b ≤ al.length ∧ v11 = .int .i64 (b : Int) ∧ v10 = .bool st ∧ Below W3.heap.size W3 wx) (fun _ v11 _ => al.length - (intOf v11).toNat)
                    case atStart => exact ⟨0, false, by omega, rfl, rfl, HBL2.out⟩
                    case round =>
                      obtain ⟨b, st, hbn, rfl, rfl, hbl⟩ := hrel
                      obtain ⟨p3, p5, pk, pa, pb0⟩ := HH.out _ hbl
                      obtain ⟨g0, g1, g3, g5, g6⟩ := HG.out _ pb0
                      by_cases hb' : b < al.length
                      · obtain ⟨ab, aoff, m1, rfl, ca⟩ := HA.out _ pb0 b hb'
                        obtain ⟨hb9, hoff, hcap9, he9, hle9, ch9⟩ := pa.intAt han
                        simp only [Value.slice.injEq] at he9
                        obtain ⟨rfl, _, _⟩ := he9
                        generalize hl[a] = m2 at *
                        have HBL3 : Hid (_) := hbl
                        clear pk pa hbl pb0 g0 g1 g3 g6 p3
                        cases st
                        · go_wp2_with fail
                          go_quiet (fail)
                          go_wp2
                          go_roundw
                          case rel => exact ⟨b + 1, _, by omega, by go_num, rfl, below_drewN HBL3.out _⟩
                          case measure => simp [intOf]; omega
                        · go_wp2_with fail
                          go_quiet (fail)
                          go_wp2
                          go_roundw
                          case rel => exact ⟨b + 1, _, by omega, by go_num, rfl, below_drewN HBL3.out _⟩
                          case measure => simp [intOf]; omega
                      · have HBL3 : Hid (_) := hbl
                        clear pk pa hbl pb0 g0 g1 g3 g6 p3
                        cases st
                        · go_wp2
                          go_roundw
                          case rel => exact ⟨a + 1, gone + 1, by omega, by go_num, by go_num, by omega, HBL3.out⟩
                          case measure => simp [intOf]; omega
                        · go_wp2
                          go_roundw
                          case rel => exact ⟨a + 1, gone, by omega, by go_num, rfl, by omega, HBL3.out⟩
                          case measure => simp [intOf]; omega
                  · have HBL2 : Hid (_) := hbl
                    have HN : Hid (∀ (v : Value) (l : List Bool), (SliceT 4 wr v (bools l) ∧ l.length ≤ 500) → ∀ q, Calls Tryz.prog 85 #[v] (wr.drewN q) fun e w' => e = .returned (.int .i64 (cnt l : Int)) ∧ w' = wr.drewN q) := fun v l hv q => Count_any wr.heap.size v l _ (by omega) (SliceT.below hv.1 (below_drewN (Below.refl _ _) q)).toIn
                    have Pk : Hid (SliceT 4 wr (.slice ko fs[k].known.length kc) (bools fs[k].known) ∧ fs[k].known.length ≤ 500) := ⟨pk, fkl⟩
                    have Px : Hid (SliceT 4 wr xkv (bools g.known) ∧ g.known.length ≤ 500) := ⟨HK.out _ pb0, hgl⟩
                    clear pk pa hbl pb0 g0 g1 g5 g6
                    go_wp2_with fail
                    go_quiet (first | (go_at_call 85; exact Calls.mono (HN.out _ _ (by first | exact Pk.out | exact Px.out) _) (fun _ _ h => ⟨h.1, _, h.2⟩)))
                    clear HN Pk Px
                    generalize cnt fs[k].known = n1 at *
                    generalize cnt g.known = n2 at *
                    have HB9 : Hid (Below W0.heap.size W0 (wr.drewN nq)) := by
                      have := HB3.out.trans (HBL2.out.mono HB3.out.size)
                      exact below_drewN this _
                    by_cases hmin : (80 : Int) + 80 * ((n2 : Int) - (n1 : Int)) + 8 * (gone : Int) < (best : Int)
                    · go_wp2
                      go_roundw
                      case rel => exact ⟨k + 1, 80 + 80 * (n2 - n1) + 8 * gone, by omega, by go_num, by go_num, by omega, by omega, HB9.out⟩
                      case measure => simp [intOf]; omega
                    · go_wp2
                      go_roundw
                      case rel => exact ⟨k + 1, best, by omega, by go_num, rfl, hb1, hb2, HB9.out⟩
                      case measure => simp [intOf]; omega
              · have t5' : (lost != xlo) = true := bne_iff_ne.2 t5
                go_wp2_with fail
                rw [HW3.out]
                try go_wp2
                go_roundw
                case rel => exact ⟨k + 1, best, by omega, by go_num, rfl, hb1, hb2, HB3.out⟩
                case measure => simp [intOf]; omega
          · have t3' : ((hdst : Int) != (g.dst : Int)) = true := bne_iff_ne.2 (by omega)
            go_wp2_with fail
            rw [HW3.out]
            try go_wp2
            go_roundw
            case rel => exact ⟨k + 1, best, by omega, by go_num, rfl, hb1, hb2, HB3.out⟩
            case measure => simp [intOf]; omega
        · have t2' : ((hsrc : Int) != (g.src : Int)) = true := bne_iff_ne.2 (by omega)
          go_wp2_with fail
          rw [HW3.out]
          try go_wp2
          go_roundw
          case rel => exact ⟨k + 1, best, by omega, by go_num, rfl, hb1, hb2, HB3.out⟩
          case measure => simp [intOf]; omega
    · have HBL : Hid (_) := hbl
      clear hbl
      go_wp2
      go_ret
      exact ⟨best, rfl, hb1, hb2, HB0.out.trans (HBL.out.mono HB0.out.size)⟩
end Go.Proofs.YtoiiaankpnhppaaGreatDoor
namespace Go.Proofs.YtoiiaankpnhppaaGreatDoor
open Go.RowKit Go.Deep

theorem Tryz.infoFrame : (Tryz.prog.info? 201).map (fun i => (i.zero, i.size, i.bytes)) = some (some (.agg #[.int .i64 0, .int .i64 0, .int .i64 0, .slice none 0 0, .int .i64 0, .slice none 0 0, .int .i64 0, .bool false, .int .i64 0]), 9, 104) := by kernel_rfl

section
variable {w w6 : World} {c rb : Nat} {evv fv fv' : Value} {av : Nat → Value} {room : Nat} {es : List Ev} {acc most : Nat} {knowns : List (List Bool)} {fs : List FrD}
theorem RefAt.most_mono (h : RefAt w c rb evv fv av room es acc most knowns) {most' : Nat} (hm : most ≤ most') (h2 : most' ≤ 1000) : RefAt w c rb evv fv av room es acc most' knowns :=
  ⟨h.tc, h.trb, h.room50, h.n6, h.n500, h.f0, h.f1, h.f2, h.f3, h.a500, h2, h.evs, h.ok, fun i hi => (h.reps i hi).keep hm (fun _ _ _ _ h => h) (fun _ _ => rfl), h.kn, h.f4, h.a11⟩
theorem RefAt.setF (h : RefAt w c rb evv fv av room es acc most knowns) (fv' : Value) : RefAt (w.setCell ⟨c, 4, none⟩ fv') c rb evv fv' av room es acc most knowns := by
  have hc : Chg (fun x => x = c) w (w.setCell ⟨c, 4, none⟩ fv') := (Chg.refl (fun x => x = c) w).setCell (p := ⟨c, 4, none⟩) rfl _
  have hne : c ≠ rb := h.tc.ne h.trb (by decide)
  have hS : ∀ t v xs, (t = 4 ∨ t = 3) → SliceT t w v xs → SliceT t (w.setCell ⟨c, 4, none⟩ fv') v xs := fun t v xs ht hs => hs.chgT hc h.tc (by rcases ht with rfl | rfl <;> decide)
  obtain ⟨cap, f1, hcap⟩ := h.f1
  obtain ⟨svs, e1, e2, e3⟩ := h.evs
  exact ⟨h.tc.setCell _ _, h.trb.setCell _ _, h.room50, h.n6, h.n500, (cs_oth (Or.inr (by omega))).trans h.f0, ⟨cap, (cs_oth (Or.inr (by omega))).trans f1, hcap⟩, (cs_oth (Or.inr (by omega))).trans h.f2, (cs_oth (Or.inr (by omega))).trans h.f3, h.a500, h.m500,
    ⟨svs, e1, ownsRow_chg e2 hc (fun g hg e => ((h.evLt g hg).2.ne h.tc (by decide)) e), fun j a b => hS _ _ _ (Or.inl rfl) (e3 j a b)⟩, h.ok, fun i hi => (h.reps i hi).keep (Nat.le_refl _) hS (fun j _ => cs_oth (Or.inl hne)), h.kn, cs_same h.f4, fun i hi => (cs_oth (Or.inl hne)).trans (h.a11 i hi)⟩
theorem fr_more (h : RefAt w c rb evv fv av room es acc most knowns) (hf : FrAt w fv fs) (hc : Chg (fun k => fv.ownBlock = some k) w w6) (f : FrD) (x : FrX) (hok : FrOK w f x) (xs : List FrX) (hxl : xs.length = fs.length) (hxs : ∀ j (h : j < fs.length) (h' : j < xs.length), FrOK w fs[j] xs[j])
    (ho : w6.ownsRow 0 201 9 fv' (fs.length + 1) (frCells fs xs ++ frRow f x)) : RefAt (w6.setCell ⟨c, 4, none⟩ fv') c rb evv fv' av room es acc most knowns ∧ FrAt (w6.setCell ⟨c, 4, none⟩ fv') fv' (fs ++ [f]) := by
  have hno : ∀ {k : Nat} {t : TypeId}, Tagged w k t → t ≠ 201 → ¬ fv.ownBlock = some k := fun ht hne hk => Tagged.ne ht (hf.tag _ hk) hne rfl
  have hik : IntsKept w w6 := IntsKept.of_chg hc (fun b hb => hno hb (by decide))
  have hbo : ∀ b, Tagged w b 4 → ¬ fv.ownBlock = some b := fun b hb => hno hb (by decide)
  have h6 := h.chg hc (hno h.tc (by decide)) (hno h.trb (by decide)) (fun g hg => hno (h.evLt g hg).2 (by decide)) hbo hik
  have t6 := h6.tc
  have hcs : Chg (fun x => x = c) w6 (w6.setCell ⟨c, 4, none⟩ fv') := (Chg.refl (fun x => x = c) w6).setCell (p := ⟨c, 4, none⟩) rfl _
  have hno6 : ∀ b, Tagged w6 b 4 → ¬ b = c := fun b hb e => Tagged.ne hb t6 (by decide) e
  have hik6 : IntsKept w6 (w6.setCell ⟨c, 4, none⟩ fv') := IntsKept.of_chg hcs (fun b hb e => Tagged.ne hb t6 (by decide) e)
  refine ⟨h6.setF fv', xs ++ [x], by simp [hxl], ?_, fun j h1 h2 => ?_⟩
  · rw [frCells_snoc fs xs f x hxl, List.length_append, List.length_singleton]
    exact ownsRow_chg ho hcs (fun g hg e => Tagged.ne (own_tag ho g hg) t6 (by decide) e)
  · by_cases hj : j < fs.length
    · have e1 : (fs ++ [f])[j] = fs[j] := List.getElem_append_left hj
      have e2 : (xs ++ [x])[j] = xs[j]'(by omega) := List.getElem_append_left (by omega)
      rw [e1, e2]
      exact ((hxs j hj (by omega)).chg hc hbo hik).chg hcs hno6 hik6
    · have hje : j = fs.length := by simp at h1; omega
      have e1 : (fs ++ [f])[j] = f := by rw [List.getElem_append_right (by omega)]; simp
      have e2 : (xs ++ [x])[j] = x := by rw [List.getElem_append_right (by omega)]; simp
      rw [e1, e2]
      exact (hok.chg hc hbo hik).chg hcs hno6 hik6
theorem RefAt.frNo (h : RefAt w c rb evv fv av room es acc most knowns) (hf : FrAt w fv fs) : fv.ownBlock ≠ some c := fun e => Tagged.ne (hf.tag c e) h.tc (by decide) rfl
end
theorem nats_ints (l : List Nat) : nats l = ints (l.map fun (n : Nat) => (n : Int)) := by unfold nats ints; rw [List.map_map]; rfl

set_option maxHeartbeats 16000000 in
set_option maxRecDepth 100000 in
theorem RefSend_ok (w : World) (c rb : Nat) (evv fv : Value) (av : Nat → Value) (room : Nat) (es : List Ev) (acc most : Nat) (knowns : List (List Bool)) (h : RefAt w c rb evv fv av room es acc most knowns) (fs : List FrD) (hf : FrAt w fv fs) (k k' : Nat) (hk : k < knowns.length) (hk' : k' < knowns.length) (hkk : k ≠ k') (h5 : fs.length < 500)
    (hcnt : ∀ f ∈ fs, f.ack = 0 → f.src = k → cnt f.known ≤ cnt knowns[k]) (hav : ∃ ao n c, av k = .slice ao n c) (b : ByteArray) :
    Calls Tryz.prog 88 #[.pointer (some ⟨c, 0, none⟩), .int .i64 (k : Int), .int .i64 (k' : Int)] w fun e w' => e = .returned (.tuple #[.int .i64 ((fs.length : Int) + 1), .int .i64 0]) ∧ ∃ fv', RefAt w' c rb evv fv' av room es acc most knowns ∧ FrAt w' fv' (fs ++ [⟨k, k', 0, knowns[k], b⟩]) ∧
      Chg (fun x => x = c ∨ fv.ownBlock = some x) w w' ∧ (∀ g, fv'.ownBlock = some g → fv.ownBlock = some g ∨ w.heap.size ≤ g) := by
  have H : Hid (RefAt w c rb evv fv av room es acc most knowns) := h
  have HF : Hid (FrAt w fv fs) := hf
  obtain ⟨iR, hiR, hzR0, hzR1, hzR2⟩ := info_parts Tryz.infoFrame
  obtain ⟨cap, f1, hcap⟩ := h.f1
  have h6 := h.n6
  obtain ⟨⟨kv, a0, b0⟩, a1, a7, ⟨m9, a9, b9⟩, ⟨kp, kl, a10, b10, d10⟩, ⟨m12, a12, b12⟩, ⟨a2, a3, a4, a5, a6, a8⟩⟩ := h.reps k hk
  have a11 := h.a11 k hk
  have hknl : knowns[k].length ≤ 500 := by have := h.kn _ (List.getElem_mem hk); have := h.n500; omega
  obtain ⟨fo, fc, hfv, hfc⟩ := hf.shape
  have f4 : w.cell? ⟨c, 4, none⟩ = some (.slice fo fs.length fc) := by rw [← hfv]; exact h.f4
  obtain ⟨ko, kc, hkv, hkc⟩ := b0.shape
  have hkvl : (bools knowns[k]).length = knowns[k].length := by simp [bools]
  rw [hkvl] at hkv hkc
  obtain ⟨kpo, kpc, hkp, _⟩ := b10.shape
  have hee := h.evsIn
  have HU : Hid (∀ i : Int, (0 ≤ i ∧ i < knowns.length) → Calls Tryz.prog 83 #[.pointer (some ⟨c, 0, none⟩), .int .i64 i] w fun e w' => e = .returned (.int .i64 0) ∧ w' = w) := fun i hi => by
    have := Up_any w c rb evv fv av room es acc most knowns h i
    rw [if_pos hi] at this; exact this
  obtain ⟨ako, akn, akc, hak⟩ := hav
  rw [hak] at a11
  clear hak
  -- the copies
  obtain ⟨W1, hW1⟩ : ∃ W1, W1 = w.alloc (.cells #[.slice ko knowns[k].length kc, .bool false, .slice none 0 0, .slice none 0 0, .bool false, .int .i64 0, .int .i64 0, .bool false, .int .i64 0, .int .i64 (m9 : Int), .slice kpo (ints kl).length kpc, .slice ako akn akc, .int .i64 (m12 : Int)] 147) := ⟨_, rfl⟩
  have hb1 : Below w.heap.size w W1 := by rw [hW1]; exact (Below.refl _ w).alloc (Nat.le_refl _) _
  have k1 : Blk W1 w.heap.size #[.slice ko knowns[k].length kc, .bool false, .slice none 0 0, .slice none 0 0, .bool false, .int .i64 0, .int .i64 0, .bool false, .int .i64 0, .int .i64 (m9 : Int), .slice kpo (ints kl).length kpc, .slice ako akn akc, .int .i64 (m12 : Int)] 147 := by rw [hW1]; exact Blk.new w _ _
  have hs1 : W1.heap.size = w.heap.size + 1 := by rw [hW1]; simp
  obtain ⟨W2, hW2⟩ : ∃ W2, W2 = W1.alloc (.cells #[.int .i64 (k : Int), .int .i64 (k' : Int), .int .i64 0, .slice ko knowns[k].length kc, .int .i64 (m9 : Int), .slice none 0 0, .int .i64 (m12 : Int), .bool false, .int .i64 0] 201) := ⟨_, rfl⟩
  have hb12 : Below W1.heap.size W1 W2 := by rw [hW2]; exact (Below.refl _ W1).alloc (Nat.le_refl _) _
  have hb2 : Below w.heap.size w W2 := hb1.trans (hb12.mono hb1.size)
  have k2 : Blk W2 (w.heap.size + 1) #[.int .i64 (k : Int), .int .i64 (k' : Int), .int .i64 0, .slice ko knowns[k].length kc, .int .i64 (m9 : Int), .slice none 0 0, .int .i64 (m12 : Int), .bool false, .int .i64 0] 201 := by rw [hW2, ← hs1]; exact Blk.new W1 _ _
  have k1' := k1.below hb12
  have hs2 : W2.heap.size = w.heap.size + 2 := by rw [hW2]; simp [hs1]
  have HAl : Hid (∀ wx, wx.heap = W2.heap → wx.os = W2.os → wx.tape = W2.tape → wx.output = W2.output → Calls Tryz.prog 139 #[evv, .slice ko knowns[k].length kc] wx fun e w' => ∃ ao n cc, e = .returned (.slice ao n cc) ∧ (∃ l : List Int, l.length ≤ 500 ∧ l.length = n ∧ SliceT 3 w' (.slice ao n cc) (ints l) ∧ Below W2.heap.size W2 w') ∧ (∀ j, w'.frozen? ⟨w.heap.size + 1, j, none⟩ = false) ∧ w'.cell? ⟨w.heap.size + 1, 5, none⟩ = some (.slice none 0 0) ∧ w'.cell? ⟨c, 2, none⟩ = some evv ∧ w'.cell? ⟨w.heap.size, 0, none⟩ = some (.slice ko knowns[k].length kc)) := fun wx hx ho ht hp => by
    have hbx : Below W2.heap.size W2 wx := ⟨ho, ht, hp, by rw [hx]; exact Nat.le_refl _, fun k _ => by rw [hx]⟩
    have hbw : Below w.heap.size w wx := hb2.trans (hbx.mono hb2.size)
    have n500 := h.n500
    refine Calls.mono (Alive_any evv es (.slice ko knowns[k].length kc) knowns[k] wx (by omega) (by omega) ((hee.below hbw).mono hbw.size) (by rw [← hkv]; exact (b0.below hbw).toIn) h.ok) ?_
    rintro e w' ⟨v, rfl, ho2, hb9⟩
    have hs := own_sliceT ho2
    obtain ⟨ao, cc, rfl, _⟩ := hs.shape
    have hl : (nats (aliveTo es knowns[k] es.length)).length = (aliveTo es knowns[k] es.length).length := by simp [nats]
    rw [hl] at hs ⊢
    have hle := aliveTo_le es knowns[k] es.length
    have hbb : Below W2.heap.size W2 w' := hbx.trans (hb9.mono hbx.size)
    have kk := k2.below hbb
    have kk1 := k1'.below hbb
    refine ⟨ao, _, cc, rfl, ⟨(aliveTo es knowns[k] es.length).map (fun (n : Nat) => (n : Int)), by simp; omega, by simp, ?_, hbb⟩, kk.frozen, (kk.cell 5).trans rfl, ?_, (kk1.cell 0).trans rfl⟩
    · rw [← nats_ints]; exact hs
    · rw [hbb.cell (p := ⟨c, 2, none⟩) (show c < W2.heap.size by have := h.tc.lt; omega), hb2.cell (p := ⟨c, 2, none⟩) h.tc.lt]; exact h.f2
  have c2 : W2.cell? ⟨c, 2, none⟩ = some evv := by rw [hb2.cell (p := ⟨c, 2, none⟩) h.tc.lt]; exact h.f2
  have d0 := (k1'.cell 0).trans rfl
  have e1c := (k1.cell 0).trans rfl
  have e9c := (k1.cell 9).trans rfl
  have e12c := (k1.cell 12).trans rfl
  have HW1 : Hid (w.alloc (.cells #[.slice ko knowns[k].length kc, .bool false, .slice none 0 0, .slice none 0 0, .bool false, .int .i64 0, .int .i64 0, .bool false, .int .i64 0, .int .i64 (m9 : Int), .slice kpo (ints kl).length kpc, .slice ako akn akc, .int .i64 (m12 : Int)] 147) = W1) := hW1.symm
  have HW2 : Hid (W1.alloc (.cells #[.int .i64 (k : Int), .int .i64 (k' : Int), .int .i64 0, .slice ko knowns[k].length kc, .int .i64 (m9 : Int), .slice none 0 0, .int .i64 (m12 : Int), .bool false, .int .i64 0] 201) = W2) := hW2.symm
  have HK2 : Hid (Blk W2 (w.heap.size + 1) #[.int .i64 (k : Int), .int .i64 (k' : Int), .int .i64 0, .slice ko knowns[k].length kc, .int .i64 (m9 : Int), .slice none 0 0, .int .i64 (m12 : Int), .bool false, .int .i64 0] 201) := k2
  have Hb2 : Hid (Below w.heap.size w W2) := hb2
  have Hb0 : Hid (SliceT 4 w (.slice ko knowns[k].length kc) (bools knowns[k])) := by rw [← hkv]; exact b0
  have Hcnt : Hid (_) := hcnt
  have Hhs1 : Hid (W1.heap.size = w.heap.size + 1) := hs1
  have Hhs2 : Hid (W2.heap.size = w.heap.size + 2) := hs2
  have hij : ((k : Int) == (k' : Int)) = false := beq_eq_false_iff_ne.2 (by omega)
  subst hkv hkp
  clear h hf b0 b10 hee hW1 hW2 hb1 hb12 hb2 k1 k2 k1' hcnt hs1 hs2
  go_enter Tryz.func88, Tryz.ntmps88
  go_wp2_with fail
  refine Calls.mono (HU.out (k : Int) (by omega)) ?_
  rintro e w1 ⟨rfl, rfl⟩
  go_wp2_with fail
  refine Calls.mono (HU.out (k' : Int) (by omega)) ?_
  rintro e w1 ⟨rfl, rfl⟩
  go_wp2_with fail
  rw [HW1.out, HW2.out]
  clear a0 a1 a2 a3 a4 a5 a6 a7 a8 a9 a10 a11 a12 f1 f4 e1c e9c e12c HU hfv
  go_cut [] from 48 to 56 (fun wx => ∃ ao n cc w5, ∃ l : List Int, wx = w5.setCell ⟨w1.heap.size + 1, 5, none⟩ (.slice ao n cc) ∧ l.length ≤ 500 ∧ l.length = n ∧ SliceT 3 w5 (.slice ao n cc) (ints l) ∧ Below W2.heap.size W2 w5)
  case first =>
    go_region_law (go_simp; refine Calls.mono (HAl.out _ rfl rfl rfl rfl) ?_; rintro e w5 ⟨ao, n, cc, rfl, hl5, z5, z6, z7, z8⟩)
    all_goals
      go_wp2_with fail
      go_meet
      obtain ⟨l, q1, q2, q3, q4⟩ := hl5
      exact ⟨ao, n, cc, w5, l, rfl, q1, q2, q3, q4⟩
  case rest =>
  obtain ⟨ao, n, cc, w5, l, rfl, hl1, hl2, hl3, hb5⟩ := hcut
  subst hl2
  clear HAl c2 d0
  -- the frame's own block, and what was there
  have k5 := HK2.out.below hb5
  have k6 : Blk (w5.setCell ⟨w1.heap.size + 1, 5, none⟩ (.slice ao l.length cc)) (w1.heap.size + 1) #[.int .i64 (k : Int), .int .i64 (k' : Int), .int .i64 0, .slice ko knowns[k].length kc, .int .i64 (m9 : Int), .slice ao l.length cc, .int .i64 (m12 : Int), .bool false, .int .i64 0] 201 := by
    unfold Blk at k5 ⊢
    simp [World.setCell, Array.getElem?_modify, k5]
  have hb5w : Below w1.heap.size w1 w5 := Hb2.out.trans (hb5.mono Hb2.out.size)
  have hb6 : Below w1.heap.size w1 (w5.setCell ⟨w1.heap.size + 1, 5, none⟩ (.slice ao l.length cc)) := hb5w.setCell (p := ⟨w1.heap.size + 1, 5, none⟩) (by simp) _
  have hs6 : SliceT 3 (w5.setCell ⟨w1.heap.size + 1, 5, none⟩ (.slice ao l.length cc)) (.slice ao l.length cc) (ints l) := by
    have hll : (ints l).length = l.length := by simp [ints]
    exact hl3.chg (M := fun x => x = w1.heap.size + 1) ((Chg.refl (fun x => x = w1.heap.size + 1) w5).setCell (p := ⟨w1.heap.size + 1, 5, none⟩) rfl _) (fun b hb e => Tagged.ne hb ⟨_, k5⟩ (by decide) e)
  generalize w5.setCell ⟨w1.heap.size + 1, 5, none⟩ (.slice ao l.length cc) = W6 at *
  clear hl3 hb5 hb5w k5
  have HB6 : Hid (Below w1.heap.size w1 W6) := hb6
  have HBd : Hid (∀ wx, wx = W6 → Calls Tryz.prog 141 #[.pointer (some ⟨c, 0, none⟩), .agg #[.int .i64 (k : Int), .int .i64 (k' : Int), .int .i64 0, .slice ko knowns[k].length kc, .int .i64 (m9 : Int), .slice ao l.length cc, .int .i64 (m12 : Int), .bool false, .int .i64 0]] wx fun e w' => ∃ n : Nat, e = .returned (.int .i64 (n : Int)) ∧ 1 ≤ n ∧ n ≤ 100000 ∧ Below W6.heap.size W6 w') := fun wx hx => by
    subst hx
    have hR6 := H.out.below HB6.out
    have hll : (ints l).length = l.length := by simp [ints]
    exact bound_any wx c fv fs hR6.f4 (HF.out.below HB6.out) (by omega) ⟨k, k', 0, knowns[k], b⟩ ⟨.slice ko knowns[k].length kc, (m9 : Int), .slice ao l.length cc, (m12 : Int), false, 0⟩ (Hb0.out.below HB6.out) hknl l hs6 hl1 (fun f hf h0 hs => Hcnt.out f hf h0 hs)
  have HK6 : Hid (Blk W6 (w1.heap.size + 1) #[.int .i64 (k : Int), .int .i64 (k' : Int), .int .i64 0, .slice ko knowns[k].length kc, .int .i64 (m9 : Int), .slice ao l.length cc, .int .i64 (m12 : Int), .bool false, .int .i64 0] 201) := k6
  have j0 := (k6.cell 0).trans rfl
  have j1 := (k6.cell 1).trans rfl
  have j2 := (k6.cell 2).trans rfl
  have j3 := (k6.cell 3).trans rfl
  have j4 := (k6.cell 4).trans rfl
  have j5 := (k6.cell 5).trans rfl
  have j6 := (k6.cell 6).trans rfl
  have j7 := (k6.cell 7).trans rfl
  have j8 := (k6.cell 8).trans rfl
  have Hs6 : Hid (SliceT 3 W6 (.slice ao l.length cc) (ints l)) := hs6
  clear hb6 k6 hs6
  go_wp2_with fail
  refine Calls.mono (HBd.out _ rfl) ?_
  rintro e w7 ⟨mo, rfl, hm1, hm2, hb7⟩
  clear j0 j1 j2 j3 j4 j5 j6 j7 j8 HBd
  have k7 := HK6.out.below hb7
  have q8 := (k7.cell 8).trans rfl
  have q8f := k7.frozen
  have k8 : Blk (w7.setCell ⟨w1.heap.size + 1, 8, none⟩ (.int .i64 (mo : Int))) (w1.heap.size + 1) #[.int .i64 (k : Int), .int .i64 (k' : Int), .int .i64 0, .slice ko knowns[k].length kc, .int .i64 (m9 : Int), .slice ao l.length cc, .int .i64 (m12 : Int), .bool false, .int .i64 (mo : Int)] 201 := by
    unfold Blk at k7 ⊢
    simp [World.setCell, Array.getElem?_modify, k7]
  have hb7w : Below w1.heap.size w1 w7 := HB6.out.trans (hb7.mono HB6.out.size)
  have hb8 : Below w1.heap.size w1 (w7.setCell ⟨w1.heap.size + 1, 8, none⟩ (.int .i64 (mo : Int))) := hb7w.setCell (p := ⟨w1.heap.size + 1, 8, none⟩) (by simp) _
  have hs8 : SliceT 3 (w7.setCell ⟨w1.heap.size + 1, 8, none⟩ (.int .i64 (mo : Int))) (.slice ao l.length cc) (ints l) :=
    (Hs6.out.below hb7).chg (M := fun x => x = w1.heap.size + 1) ((Chg.refl (fun x => x = w1.heap.size + 1) w7).setCell (p := ⟨w1.heap.size + 1, 8, none⟩) rfl _) (fun b hb e => Tagged.ne hb ⟨_, k7⟩ (by decide) e)
  have HR8 : Hid (RefAt (w7.setCell ⟨w1.heap.size + 1, 8, none⟩ (.int .i64 (mo : Int))) c rb evv fv av room es acc most knowns) := H.out.below hb8
  have HF8 : Hid (FrAt (w7.setCell ⟨w1.heap.size + 1, 8, none⟩ (.int .i64 (mo : Int))) fv fs) := HF.out.below hb8
  have HO8 : Hid (FrOK (w7.setCell ⟨w1.heap.size + 1, 8, none⟩ (.int .i64 (mo : Int))) ⟨k, k', 0, knowns[k], b⟩ ⟨.slice ko knowns[k].length kc, (m9 : Int), .slice ao l.length cc, (m12 : Int), false, mo⟩) := ⟨Hb0.out.below hb8, hknl, ⟨l, hs8, hl1⟩, hm1, hm2⟩
  have Hb8 : Hid (Below w1.heap.size w1 (w7.setCell ⟨w1.heap.size + 1, 8, none⟩ (.int .i64 (mo : Int)))) := hb8
  clear hb7 hb7w hs8 Hs6 HK6 k7
  go_wp2_with fail
  clear q8 q8f
  generalize w7.setCell ⟨w1.heap.size + 1, 8, none⟩ (.int .i64 (mo : Int)) = W8 at *
  clear hb8
  obtain ⟨xs, x1, x2, x3⟩ := HF8.out
  have j0 := (k8.cell 0).trans rfl
  have j1 := (k8.cell 1).trans rfl
  have j2 := (k8.cell 2).trans rfl
  have j3 := (k8.cell 3).trans rfl
  have j4 := (k8.cell 4).trans rfl
  have j5 := (k8.cell 5).trans rfl
  have j6 := (k8.cell 6).trans rfl
  have j7 := (k8.cell 7).trans rfl
  have j8 := (k8.cell 8).trans rfl
  have g4 : W8.cell? ⟨c, 4, none⟩ = some fv := HR8.out.f4
  have gcl : c < W8.heap.size := HR8.out.tc.lt
  have gcf := HR8.out.tc.frozen
  have Hx2 : Hid (W8.ownsRow 0 201 9 fv fs.length (frCells fs xs)) := x2
  have Hx3 : Hid (∀ j (h : j < fs.length) (h' : j < xs.length), FrOK W8 fs[j] xs[j]) := x3
  have Hne : Hid (fv.ownBlock ≠ some c) := HR8.out.frNo HF8.out
  have m1 : Hid (fs.length + 1 ≤ maxLen) := by unfold Hid maxLen; omega
  have m2 : Hid ((fs.length + 1) * 104 ≤ 140737488355328) := by unfold Hid; omega
  have hone : Hid (∀ u ∈ ([.int .i64 (k : Int), .int .i64 (k' : Int), .int .i64 0, .slice ko knowns[k].length kc, .int .i64 (m9 : Int), .slice ao l.length cc, .int .i64 (m12 : Int), .bool false, .int .i64 (mo : Int)] : List Value), u.oneCell' = true) := by
    intro u hu
    simp only [List.mem_cons, List.mem_nil_iff, or_false] at hu
    rcases hu with rfl | rfl | rfl | rfl | rfl | rfl | rfl | rfl | rfl <;> rfl
  clear x2 x3 k8
  go_cut [] from 60 to 70 (fun wx => ∃ w9 g9 c9, wx = w9.setCell ⟨c, 4, none⟩ (.slice (some ⟨g9, 0, none⟩) (fs.length + 1) c9) ∧ Chg (fun k => fv.ownBlock = some k) W8 w9 ∧ w9.ownsRow 0 201 9 (.slice (some ⟨g9, 0, none⟩) (fs.length + 1) c9) (fs.length + 1) (frCells fs xs ++ [.int .i64 (k : Int), .int .i64 (k' : Int), .int .i64 0, .slice ko knowns[k].length kc, .int .i64 (m9 : Int), .slice ao l.length cc, .int .i64 (m12 : Int), .bool false, .int .i64 (mo : Int)]) ∧ (fv.ownBlock = some g9 ∨ W8.heap.size ≤ g9))
  case first =>
    go_region_law (refine step_append_row rfl (.tmp 64) (.tmp 66) 150 rfl 201 iR (.agg #[.int .i64 0, .int .i64 0, .int .i64 0, .slice none 0 0, .int .i64 0, .slice none 0 0, .int .i64 0, .bool false, .int .i64 0]) 9 104 Tryz.underlying150 hiR hzR0 hzR1 hzR2 rfl (by decide) fv fs.length (frCells fs xs) rfl ?_ _ 1 1 [.int .i64 (k : Int), .int .i64 (k' : Int), .int .i64 0, .slice ko knowns[k].length kc, .int .i64 (m9 : Int), .slice ao l.length cc, .int .i64 (m12 : Int), .bool false, .int .i64 (mo : Int)] rfl rfl ?_ hone.out m1.out m2.out (Nat.succ_pos _) ?_; (exact Hx2.out.alloc _); (intro j u hj; match j, hj with | 0, hj => (cases hj; simp [Addr.add]) | 1, hj => (cases hj; simp [Addr.add]) | 2, hj => (cases hj; simp [Addr.add]) | 3, hj => (cases hj; simp [Addr.add]) | 4, hj => (cases hj; simp [Addr.add]) | 5, hj => (cases hj; simp [Addr.add]) | 6, hj => (cases hj; simp [Addr.add]) | 7, hj => (cases hj; simp [Addr.add]) | 8, hj => (cases hj; simp [Addr.add])); intro g9 c9 w9 hown9 hg9 hnew9; have hC9 : Chg (fun k => fv.ownBlock = some k) W8 w9 := Chg.grown (Chg.of_below (by go_grown)) hg9 (fun k hk => Or.inl hk); have k4 := (World.cell?_of_block (w := W8) (a := ⟨c, 4, none⟩) (hC9.block c gcl Hne.out)).trans g4; have kf9 : ∀ j, w9.frozen? ⟨c, j, none⟩ = false := fun j => (World.frozen?_of_block (w := W8) (a := ⟨c, j, none⟩) (hC9.block c gcl Hne.out)).trans (gcf j))
    all_goals
      go_wp2_with fail
      go_meet
      refine ⟨w9, g9, c9, rfl, hC9, hown9, ?_⟩
      rcases hnew9 with h | h
      · exact Or.inl h
      · exact Or.inr (by simp at h; omega)
  case rest =>
  obtain ⟨w9, g9, c9, rfl, hC9, hown9, hnew9⟩ := hcut
  have hfin := fr_more HR8.out HF8.out hC9 ⟨k, k', 0, knowns[k], b⟩ _ HO8.out xs x1 Hx3.out hown9
  have HFin : Hid (RefAt (w9.setCell ⟨c, 4, none⟩ (.slice (some ⟨g9, 0, none⟩) (fs.length + 1) c9)) c rb evv (.slice (some ⟨g9, 0, none⟩) (fs.length + 1) c9) av room es acc most knowns ∧ FrAt (w9.setCell ⟨c, 4, none⟩ (.slice (some ⟨g9, 0, none⟩) (fs.length + 1) c9)) (.slice (some ⟨g9, 0, none⟩) (fs.length + 1) c9) (fs ++ [⟨k, k', 0, knowns[k], b⟩])) := hfin
  have r4 := hfin.1.f4
  have HX : Hid (Chg (fun x => x = c ∨ fv.ownBlock = some x) w1 (w9.setCell ⟨c, 4, none⟩ (.slice (some ⟨g9, 0, none⟩) (fs.length + 1) c9)) ∧ (fv.ownBlock = some g9 ∨ w1.heap.size ≤ g9)) := ⟨Chg.setCell (M := fun x => x = c ∨ fv.ownBlock = some x) (p := ⟨c, 4, none⟩) ((Chg.of_below Hb8.out).trans (hC9.mono (fun k _ hk => Or.inr hk))) (Or.inl rfl) _, hnew9.imp id (fun h => Nat.le_trans Hb8.out.size h)⟩
  clear hfin hC9 hown9 hnew9 j0 j1 j2 j3 j4 j5 j6 j7 j8 g4 gcf Hx2 Hx3 hone m1 m2
  generalize w9.setCell ⟨c, 4, none⟩ (.slice (some ⟨g9, 0, none⟩) (fs.length + 1) c9) = W9 at *
  go_wp2_with fail
  go_ret2
  exact ⟨by first | rfl | (congr 2; go_num), _, HFin.out.1, HFin.out.2, HX.out.1, fun g hg => by cases hg; exact HX.out.2⟩

theorem own_put {w : World} {B g n c size : Nat} {e : TypeId} {xs : List Value} (h : w.ownsRow B e size (.slice (some ⟨g, 0, none⟩) n c) n xs) (i : Nat) (u : Value) : (w.setCell ⟨g, i, none⟩ u).ownsRow B e size (.slice (some ⟨g, 0, none⟩) n c) n (xs.set i u) := by
  obtain ⟨hl, ⟨h1, _⟩ | ⟨g', cap, cur, hv, hg, hh, hc, hm, hs, ht⟩⟩ := h
  · cases h1
  · simp only [Value.slice.injEq, Option.some.injEq, Addr.mk.injEq, true_and, and_true] at hv
    obtain ⟨rfl, rfl⟩ := hv
    refine ⟨by rw [List.length_set]; exact hl, Or.inr ⟨g, c, cur.setIfInBounds i u, rfl, hg, ?_, hc, hm, by simpa using hs, ?_⟩⟩
    · simp [World.setCell, Array.getElem?_modify, hh]
    · rw [← ht, Array.toList_setIfInBounds, List.take_set]

structure DelA (w : World) (c rb : Nat) (fv : Value) (knowns : List (List Bool)) (fs : List FrD) (k : Nat) (hk : k < fs.length) : Prop where
  dst : fs[k].dst < knowns.length
  src : fs[k].src < knowns.length

set_option maxHeartbeats 8000000 in
set_option maxRecDepth 100000 in
theorem RefDel_bad (w : World) (c : Nat) (fv : Value) (fs : List FrD) (h4 : w.cell? ⟨c, 4, none⟩ = some fv) (h : FrAt w fv fs) (h5 : fs.length ≤ 500) (f : Int) (hf : ¬ (1 ≤ f ∧ f ≤ fs.length)) :
    Calls Tryz.prog 89 #[.pointer (some ⟨c, 0, none⟩), .int .i64 f] w fun e w' => e = .returned (.tuple #[.int .i64 0, .int .i64 9]) ∧ w' = w := by
  obtain ⟨ao, cap, hfv, hcap⟩ := h.shape
  rw [hfv] at h4
  clear h hfv
  by_cases h1 : f < 1
  · go_enter Tryz.func89, Tryz.ntmps89
    go_wp2
    go_ret2
    exact ⟨rfl, rfl⟩
  · have h2 : (fs.length : Int) < f := by omega
    go_enter Tryz.func89, Tryz.ntmps89
    go_wp2
    go_ret2
    exact ⟨rfl, rfl⟩

structure DelC (w : World) (c rb fb cap fc n len k : Nat) (fs : List FrD) (hk : k < fs.length) (ko : Option Addr) (kc : Nat) (made : Int) (ho : Option Addr) (hn hc : Nat) (lost : Int) (had : Bool) (most : Nat) : Prop where
  c1 : w.cell? ⟨c, 1, none⟩ = some (.slice (some ⟨rb, 0, none⟩) n cap)
  c4 : w.cell? ⟨c, 4, none⟩ = some (.slice (some ⟨fb, 0, none⟩) len fc)
  dn : w.cell? ⟨rb, fs[k].dst * 13 + 1, none⟩ = some (.bool false)
  r0 : w.cell? ⟨fb, k * 9, none⟩ = some (.int .i64 (fs[k].src : Int))
  r1 : w.cell? ⟨fb, k * 9 + 1, none⟩ = some (.int .i64 (fs[k].dst : Int))
  r2 : w.cell? ⟨fb, k * 9 + 2, none⟩ = some (.int .i64 (fs[k].ack : Int))
  r3 : w.cell? ⟨fb, k * 9 + 3, none⟩ = some (.slice ko fs[k].known.length kc)
  r4 : w.cell? ⟨fb, k * 9 + 4, none⟩ = some (.int .i64 made)
  r5 : w.cell? ⟨fb, k * 9 + 5, none⟩ = some (.slice ho hn hc)
  r6 : w.cell? ⟨fb, k * 9 + 6, none⟩ = some (.int .i64 lost)
  r7 : w.cell? ⟨fb, k * 9 + 7, none⟩ = some (.bool had)
  r8 : w.cell? ⟨fb, k * 9 + 8, none⟩ = some (.int .i64 (most : Int))
  kn : SliceT 4 w (.slice ko fs[k].known.length kc) (bools fs[k].known)
theorem delC {w : World} {c rb : Nat} {evv fv : Value} {av : Nat → Value} {room : Nat} {es : List Ev} {acc most : Nat} {knowns : List (List Bool)} {fs : List FrD} (h : RefAt w c rb evv fv av room es acc most knowns) (hf : FrAt w fv fs) (k : Nat) (hk : k < fs.length) (hd : fs[k].dst < knowns.length) :
    ∃ fb cap fc ko kc made ho hn hc lost had mo, fv = .slice (some ⟨fb, 0, none⟩) fs.length fc ∧ fs.length ≤ fc ∧ knowns.length ≤ cap ∧ DelC w c rb fb cap fc knowns.length fs.length k fs hk ko kc made ho hn hc lost had mo := by
  obtain ⟨cap, f1, hcap⟩ := h.f1
  obtain ⟨xs, e1, e2, e3⟩ := hf
  have hk' : k < xs.length := by omega
  have hok := e3 k hk hk'
  obtain ⟨l, a1, a2⟩ := hok.al
  obtain ⟨ho, hc2, a3, a4⟩ := a1.shape
  obtain ⟨ko, kc, a5, _⟩ := hok.kn.shape
  have hkl : (bools fs[k].known).length = fs[k].known.length := by simp [bools]
  rw [hkl] at a5
  obtain ⟨fb, fc, rfl⟩ := own_some e2 (by omega)
  have hce : ∀ j, j < 9 → w.cell? ⟨fb, k * 9 + j, none⟩ = (frRow fs[k] xs[k])[j]? := fun j hj => by
    rw [e2.cellAt (k * 9 + j) (by omega), frCells_at fs xs k hk hk' j hj]
  have hfc : fs.length ≤ fc := by
    obtain ⟨_, ⟨h1, _⟩ | ⟨g', cap', cur, hv, _, _, h3, _⟩⟩ := e2
    · cases h1
    · simp only [Value.slice.injEq] at hv
      omega
  have h3 := hce 3 (by omega)
  have h5 := hce 5 (by omega)
  refine ⟨fb, cap, fc, ko, kc, xs[k].made, ho, (ints l).length, hc2, xs[k].lost, xs[k].had, xs[k].most, rfl, hfc, hcap, ⟨f1, h.f4, (h.reps _ hd).c1, hce 0 (by omega), hce 1 (by omega), hce 2 (by omega), ?_, hce 4 (by omega), ?_, hce 6 (by omega), hce 7 (by omega), hce 8 (by omega), by rw [← a5]; exact hok.kn⟩⟩
  · rw [← a5]; exact h3
  · rw [← a3]; exact h5

set_option maxHeartbeats 8000000 in
set_option maxRecDepth 100000 in
theorem RefDel_full (w : World) (c rb : Nat) (evv fv : Value) (av : Nat → Value) (room : Nat) (es : List Ev) (acc most : Nat) (knowns : List (List Bool)) (h : RefAt w c rb evv fv av room es acc most knowns) (fs : List FrD) (hf : FrAt w fv fs) (k : Nat) (hk : k < fs.length) (hd : fs[k].dst < knowns.length) (ha : fs[k].ack = 0) (h5 : fs.length = 500) :
    Calls Tryz.prog 89 #[.pointer (some ⟨c, 0, none⟩), .int .i64 ((k : Int) + 1)] w fun e w' => e = .returned (.tuple #[.int .i64 0, .int .i64 7]) ∧ Below w.heap.size w w' := by
  obtain ⟨fb, cap, fc, ko, kc, made, ho, hn, hc, lost, had, mo, hfv, hfc, hcap, D⟩ := delC h hf k hk hd
  obtain ⟨c1, c4, dn, r0, r1, r2, r3, r4, r5, r6, r7, r8, _⟩ := D
  have h6 := h.n6
  have hcl := h.tc.lt
  have hrl := h.trb.lt
  have bz : ∀ o, Below w.heap.size w (w.alloc o) := fun o => (Below.refl _ w).alloc (Nat.le_refl _) o
  have c1A : ∀ o, (w.alloc o).cell? ⟨c, 1, none⟩ = some (.slice (some ⟨rb, 0, none⟩) knowns.length cap) := fun o => ((bz o).cell (p := ⟨c, 1, none⟩) hcl).trans c1
  have c4A : ∀ o, (w.alloc o).cell? ⟨c, 4, none⟩ = some (.slice (some ⟨fb, 0, none⟩) fs.length fc) := fun o => ((bz o).cell (p := ⟨c, 4, none⟩) hcl).trans c4
  have dnA : ∀ o, (w.alloc o).cell? ⟨rb, fs[k].dst * 13 + 1, none⟩ = some (.bool false) := fun o => ((bz o).cell (p := ⟨rb, _, none⟩) hrl).trans dn
  have HB : Hid (∀ o q, Below w.heap.size w ((w.alloc o).drewN q)) := fun o q => below_drewN (bz o) q
  have c4D : ∀ o q, ((w.alloc o).drewN q).cell? ⟨c, 4, none⟩ = some (.slice (some ⟨fb, 0, none⟩) fs.length fc) := fun o q => c4A o
  rw [ha] at r2
  have hdI : (fs[k].dst : Int) < (knowns.length : Int) := by omega
  clear h hf bz hfv ha
  generalize fs[k].dst = dst at *
  generalize fs[k].src = src at *
  generalize fs[k].known.length = kl at *
  go_enter Tryz.func89, Tryz.ntmps89
  go_wp2_with fail
  go_quiet (fail)
  go_wp2_with fail
  go_ret2
  exact ⟨rfl, HB.out _ _⟩

theorem blk9_all {w : World} {b : Nat} {x0 x1 x2 x3 x4 x5 x6 x7 x8 u0 u1 u2 u3 u4 u5 u6 u7 u8 : Value} {t : TypeId} (h : Blk w b #[x0, x1, x2, x3, x4, x5, x6, x7, x8] t) : Blk (((((((((w.setCell ⟨b, 0, none⟩ u0).setCell ⟨b, 1, none⟩ u1).setCell ⟨b, 2, none⟩ u2).setCell ⟨b, 3, none⟩ u3).setCell ⟨b, 4, none⟩ u4).setCell ⟨b, 5, none⟩ u5).setCell ⟨b, 6, none⟩ u6).setCell ⟨b, 7, none⟩ u7).setCell ⟨b, 8, none⟩ u8) b #[u0, u1, u2, u3, u4, u5, u6, u7, u8] t := by
  unfold Blk at h ⊢
  simp [World.setCell, Array.getElem?_modify, h]
theorem below9 {w w' : World} {u0 u1 u2 u3 u4 u5 u6 u7 u8 : Value} (h : Below w.heap.size w w') : Below w.heap.size w (((((((((w'.setCell ⟨w.heap.size, 0, none⟩ u0).setCell ⟨w.heap.size, 1, none⟩ u1).setCell ⟨w.heap.size, 2, none⟩ u2).setCell ⟨w.heap.size, 3, none⟩ u3).setCell ⟨w.heap.size, 4, none⟩ u4).setCell ⟨w.heap.size, 5, none⟩ u5).setCell ⟨w.heap.size, 6, none⟩ u6).setCell ⟨w.heap.size, 7, none⟩ u7).setCell ⟨w.heap.size, 8, none⟩ u8) :=
  ((((((((h.setCell (p := ⟨w.heap.size, 0, none⟩) (Nat.le_refl _) _).setCell (p := ⟨w.heap.size, 1, none⟩) (Nat.le_refl _) _).setCell (p := ⟨w.heap.size, 2, none⟩) (Nat.le_refl _) _).setCell (p := ⟨w.heap.size, 3, none⟩) (Nat.le_refl _) _).setCell (p := ⟨w.heap.size, 4, none⟩) (Nat.le_refl _) _).setCell (p := ⟨w.heap.size, 5, none⟩) (Nat.le_refl _) _).setCell (p := ⟨w.heap.size, 6, none⟩) (Nat.le_refl _) _).setCell (p := ⟨w.heap.size, 7, none⟩) (Nat.le_refl _) _).setCell (p := ⟨w.heap.size, 8, none⟩) (Nat.le_refl _) _

def putA (w : World) (ab o : Nat) : Option Int → World
  | some u => w.setCell ⟨ab, o, none⟩ (.int .i64 u)
  | none => w

set_option maxHeartbeats 16000000 in
set_option maxRecDepth 100000 in
theorem RefDel_ack (w : World) (c rb : Nat) (evv fv : Value) (av : Nat → Value) (room : Nat) (es : List Ev) (acc most : Nat) (knowns : List (List Bool)) (h : RefAt w c rb evv fv av room es acc most knowns) (fs : List FrD) (hf : FrAt w fv fs) (k : Nat) (hk : k < fs.length) (hd : fs[k].dst < knowns.length) (hs : fs[k].src < knowns.length) (h5 : fs.length ≤ 500)
    (m : Nat) (hm : m < fs.length) (ha : fs[k].ack = m + 1) (ab : Nat) (hav : av fs[k].dst = .slice (some ⟨ab, 0, none⟩) knowns.length knowns.length) (kl : List Int) (hkl : kl.length = knowns.length) (hsl : SliceT 3 w (.slice (some ⟨ab, 0, none⟩) knowns.length knowns.length) (ints kl)) :
    Calls Tryz.prog 89 #[.pointer (some ⟨c, 0, none⟩), .int .i64 ((k : Int) + 1)] w fun e w' => e = .returned (.tuple #[.int .i64 0, .int .i64 0]) ∧ RefAt w' c rb evv fv av room es acc most knowns ∧ FrAt w' fv fs ∧ Chg (fun x => x = ab ∨ fv.ownBlock = some x) w w' ∧ IntsKept w w' := by
  obtain ⟨fb, cap, fc, ko, kc, made, ho, hn, hc, lost, had, mo, hfv, hfc, hcap, D⟩ := delC h hf k hk hd
  obtain ⟨c1, c4, dn, r0, r1, r2, r3, r4, r5, r6, r7, r8, _⟩ := D
  have hdm : fs[m].dst < knowns.length ∨ ¬ fs[m].dst < knowns.length := Classical.em _
  have h6 := h.n6
  have hcl := h.tc.lt
  have hrl := h.trb.lt
  have a11 := h.a11 _ hd
  rw [hav] at a11
  obtain ⟨ab', off', cap', he, hle', hcm⟩ := hsl.intAt (a := fs[k].src) (by omega)
  simp only [Value.slice.injEq, Option.some.injEq, Addr.mk.injEq] at he
  obtain ⟨⟨rfl, rfl, -⟩, -, rfl⟩ := he
  rw [Nat.zero_add] at hcm
  generalize kl[fs[k].src]'(by omega) = acked at hcm
  have hTab : Tagged w ab 3 := by
    rcases hsl with ⟨e1, _⟩ | ⟨b, off, cap, e1, _, e3, _⟩
    · cases e1
    · simp only [Value.slice.injEq, Option.some.injEq, Addr.mk.injEq] at e1
      obtain ⟨⟨rfl, _⟩, _⟩ := e1
      exact e3
  -- the frame that is acknowledged
  obtain ⟨xs, x1, x2, x3⟩ := hf
  have hm' : m < xs.length := by omega
  rw [hfv] at x2
  have hce : ∀ j, j < 9 → w.cell? ⟨fb, m * 9 + j, none⟩ = (frRow fs[m] xs[m])[j]? := fun j hj => by
    rw [x2.cellAt (m * 9 + j) (by omega), frCells_at fs xs m hm hm' j hj]
  obtain ⟨mo2, mc2, hmk, _⟩ := (x3 m hm hm').kn.shape
  obtain ⟨l2, l2a, _⟩ := (x3 m hm hm').al
  obtain ⟨mo3, mc3, hmk2, _⟩ := l2a.shape
  have y0 : w.cell? ⟨fb, m * 9, none⟩ = some (.int .i64 (fs[m].src : Int)) := hce 0 (by omega)
  have y1 : w.cell? ⟨fb, m * 9 + 1, none⟩ = some (.int .i64 (fs[m].dst : Int)) := hce 1 (by omega)
  have y2 : w.cell? ⟨fb, m * 9 + 2, none⟩ = some (.int .i64 (fs[m].ack : Int)) := hce 2 (by omega)
  have y3 : w.cell? ⟨fb, m * 9 + 3, none⟩ = some (.slice mo2 (bools fs[m].known).length mc2) := by rw [← hmk]; exact hce 3 (by omega)
  have y4 : w.cell? ⟨fb, m * 9 + 4, none⟩ = some (.int .i64 xs[m].made) := hce 4 (by omega)
  have y5 : w.cell? ⟨fb, m * 9 + 5, none⟩ = some (.slice mo3 (ints l2).length mc3) := by rw [← hmk2]; exact hce 5 (by omega)
  have y6 : w.cell? ⟨fb, m * 9 + 6, none⟩ = some (.int .i64 xs[m].lost) := hce 6 (by omega)
  have y7 : w.cell? ⟨fb, m * 9 + 7, none⟩ = some (.bool xs[m].had) := hce 7 (by omega)
  have y8 : w.cell? ⟨fb, m * 9 + 8, none⟩ = some (.int .i64 (xs[m].most : Int)) := hce 8 (by omega)
  have hTf : Tagged w fb 201 := own_tag x2 fb rfl
  have hfl := hTf.lt
  have hal := hTab.lt
  have haf : ab ≠ fb := hTab.ne hTf (by decide)
  have har : ab ≠ rb := hTab.ne h.trb (by decide)
  have hfr : fb ≠ rb := hTf.ne h.trb (by decide)
  have hac : ab ≠ c := hTab.ne h.tc (by decide)
  have hfcn : fb ≠ c := hTf.ne h.tc (by decide)
  -- what it leaves
  have HFin : Hid (∀ (w2 : World) (v : Option Int), Below w.heap.size w w2 → RefAt ((putA w2 ab fs[k].src v).setCell ⟨fb, m * 9 + 7, none⟩ (.bool true)) c rb evv fv av room es acc most knowns ∧ FrAt ((putA w2 ab fs[k].src v).setCell ⟨fb, m * 9 + 7, none⟩ (.bool true)) fv fs ∧ Chg (fun x => x = ab ∨ fv.ownBlock = some x) w ((putA w2 ab fs[k].src v).setCell ⟨fb, m * 9 + 7, none⟩ (.bool true)) ∧ IntsKept w ((putA w2 ab fs[k].src v).setCell ⟨fb, m * 9 + 7, none⟩ (.bool true))) := fun w2 v hb => by
    obtain ⟨W3, hW3⟩ : ∃ W3, W3 = (putA w2 ab fs[k].src v) := ⟨_, rfl⟩
    rw [← hW3]
    have hc3 : Chg (fun x => x = ab) w W3 := by
      rw [hW3]
      cases v with
      | none => exact Chg.of_below hb
      | some u => exact (Chg.of_below (M := fun x => x = ab) hb).setCell (p := ⟨ab, fs[k].src, none⟩) rfl _
    have hi3 : IntsKept w W3 := by
      rw [hW3]
      cases v with
      | none => exact IntsKept.of_below hb
      | some u => exact (IntsKept.of_below hb).trans (IntsKept.set _ _ _ _)
    have hbo : ∀ b, Tagged w b 4 → ¬ b = ab := fun b hb e => Tagged.ne hb hTab (by decide) e
    have hR3 := h.chg hc3 (Ne.symm hac) (Ne.symm har) (fun g hg e => Tagged.ne (h.evLt g hg).2 hTab (by decide) e) hbo hi3
    have x23 : W3.ownsRow 0 201 9 (.slice (some ⟨fb, 0, none⟩) fs.length fc) fs.length (frCells fs xs) := ownsRow_chg x2 hc3 (fun g hg e => by cases hg; exact haf e.symm)
    have hTf3 : Tagged W3 fb 201 := own_tag x23 fb rfl
    have hc4 : Chg (fun x => x = fb) W3 (W3.setCell ⟨fb, m * 9 + 7, none⟩ (.bool true)) := (Chg.refl (fun x => x = fb) W3).setCell (p := ⟨fb, m * 9 + 7, none⟩) rfl _
    have hi4 : IntsKept W3 (W3.setCell ⟨fb, m * 9 + 7, none⟩ (.bool true)) := IntsKept.of_chg hc4 (fun b hb e => Tagged.ne hb hTf3 (by decide) e)
    have hbo3 : ∀ b, Tagged W3 b 4 → ¬ b = fb := fun b hb e => Tagged.ne hb hTf3 (by decide) e
    refine ⟨hR3.chg hc4 (Ne.symm hfcn) (Ne.symm hfr) (fun g hg e => Tagged.ne (hR3.evLt g hg).2 hTf3 (by decide) e) hbo3 hi4, ?_, ?_, hi3.trans hi4⟩
    · rw [hfv]
      refine ⟨xs.set m ⟨xs[m].kv, xs[m].made, xs[m].al, xs[m].lost, true, xs[m].most⟩, by simp [x1], ?_, fun j h1 h2 => ?_⟩
      · rw [← frCells_had fs xs m hm hm' x1]
        exact own_put x23 _ _
      · have hj : j < xs.length := by simpa using h2
        have hok := ((x3 j h1 hj).chg hc3 hbo hi3).chg hc4 hbo3 hi4
        rw [List.getElem_set]
        split
        · rename_i e9
          subst e9
          exact ⟨hok.kn, hok.kl, hok.al, hok.m1, hok.m2⟩
        · exact hok
    · rw [hfv]
      exact (hc3.mono (fun x _ e => Or.inl e)).trans (hc4.mono (fun x _ e => Or.inr (by rw [e]; rfl)))
  have bz : ∀ o, Below w.heap.size w (w.alloc o) := fun o => (Below.refl _ w).alloc (Nat.le_refl _) o
  have HB : Hid (∀ o q, Below w.heap.size w ((w.alloc o).drewN q)) := fun o q => below_drewN (bz o) q
  rw [ha] at r2
  have r2 : w.cell? ⟨fb, k * 9 + 2, none⟩ = some (.int .i64 ((m : Int) + 1)) := r2
  have hdI : (fs[k].dst : Int) < (knowns.length : Int) := by omega
  have hsI : (fs[k].src : Int) < (knowns.length : Int) := by omega
  have hs0 : (0 : Int) ≤ (fs[k].src : Int) := by omega
  have hmI : (m : Int) < (fs.length : Int) := by omega
  have hm0 : (0 : Int) ≤ (m : Int) := by omega
  have hfF := hTf.frozen
  have haF := hTab.frozen
  clear h x2 x3 hce hfv hsl l2a hmk hmk2 hav hTf hTab hdm ha
  generalize fs[k].dst = dst at *
  generalize fs[k].src = src at *
  generalize fs[m].src = src2 at *
  generalize fs[m].dst = dst2 at *
  generalize fs[m].ack = ack2 at *
  generalize fs[k].known.length = kl1 at *
  generalize (bools fs[m].known).length = kl2 at *
  generalize (ints l2).length = kl3 at *
  generalize xs[m].made = made2 at *
  generalize xs[m].lost = lost2 at *
  generalize xs[m].had = had2 at *
  generalize xs[m].most = most2 at *
  -- the copy of the frame
  obtain ⟨W1, hW1⟩ : ∃ W1, W1 = w.alloc (.cells #[.int .i64 (src : Int), .int .i64 (dst : Int), .int .i64 ((m : Int) + 1), .slice ko kl1 kc, .int .i64 made, .slice ho hn hc, .int .i64 lost, .bool had, .int .i64 (mo : Int)] 201) := ⟨_, rfl⟩
  have kg : Blk W1 w.heap.size #[.int .i64 (src : Int), .int .i64 (dst : Int), .int .i64 ((m : Int) + 1), .slice ko kl1 kc, .int .i64 made, .slice ho hn hc, .int .i64 lost, .bool had, .int .i64 (mo : Int)] 201 := by rw [hW1]; exact Blk.new w _ _
  have hb1 : Below w.heap.size w W1 := by rw [hW1]; exact bz _
  have hs1 : W1.heap.size = w.heap.size + 1 := by rw [hW1]; simp
  have HCel : Hid (∀ wx, Below W1.heap.size W1 wx → wx.cell? ⟨c, 1, none⟩ = some (.slice (some ⟨rb, 0, none⟩) knowns.length cap) ∧ wx.cell? ⟨c, 4, none⟩ = some (.slice (some ⟨fb, 0, none⟩) fs.length fc) ∧ wx.cell? ⟨rb, dst * 13 + 1, none⟩ = some (.bool false) ∧ wx.cell? ⟨rb, dst * 13 + 11, none⟩ = some (.slice (some ⟨ab, 0, none⟩) knowns.length knowns.length) ∧ wx.cell? ⟨ab, src, none⟩ = some (.int .i64 acked) ∧ wx.cell? ⟨w.heap.size, 0, none⟩ = some (.int .i64 (src : Int)) ∧ wx.cell? ⟨w.heap.size, 1, none⟩ = some (.int .i64 (dst : Int)) ∧ wx.cell? ⟨w.heap.size, 2, none⟩ = some (.int .i64 ((m : Int) + 1)) ∧ wx.cell? ⟨fb, m * 9 + 7, none⟩ = some (.bool had2) ∧ (∀ j, wx.frozen? ⟨fb, j, none⟩ = false) ∧ (∀ j, wx.frozen? ⟨ab, j, none⟩ = false) ∧ Below w.heap.size w wx) := fun wx hx => by
    have hbw : Below w.heap.size w wx := hb1.trans (hx.mono hb1.size)
    have kk := kg.below hx
    exact ⟨(hbw.cell (p := ⟨c, 1, none⟩) hcl).trans c1, (hbw.cell (p := ⟨c, 4, none⟩) hcl).trans c4, (hbw.cell (p := ⟨rb, _, none⟩) hrl).trans dn, (hbw.cell (p := ⟨rb, _, none⟩) hrl).trans a11, (hbw.cell (p := ⟨ab, _, none⟩) hal).trans hcm, (kk.cell 0).trans rfl, (kk.cell 1).trans rfl, (kk.cell 2).trans rfl, (hbw.cell (p := ⟨fb, _, none⟩) hfl).trans y7, fun j => (hbw.frozen (p := ⟨fb, j, none⟩) hfl).trans (hfF j), fun j => (hbw.frozen (p := ⟨ab, j, none⟩) hal).trans (haF j), hbw⟩
  have HY : Hid (∀ wx, Below W1.heap.size W1 wx → wx.cell? ⟨fb, m * 9, none⟩ = some (.int .i64 (src2 : Int)) ∧ wx.cell? ⟨fb, m * 9 + 1, none⟩ = some (.int .i64 (dst2 : Int)) ∧ wx.cell? ⟨fb, m * 9 + 2, none⟩ = some (.int .i64 (ack2 : Int)) ∧ wx.cell? ⟨fb, m * 9 + 3, none⟩ = some (.slice mo2 kl2 mc2) ∧ wx.cell? ⟨fb, m * 9 + 4, none⟩ = some (.int .i64 made2) ∧ wx.cell? ⟨fb, m * 9 + 5, none⟩ = some (.slice mo3 kl3 mc3) ∧ wx.cell? ⟨fb, m * 9 + 6, none⟩ = some (.int .i64 lost2) ∧ wx.cell? ⟨fb, m * 9 + 8, none⟩ = some (.int .i64 (most2 : Int))) := fun wx hx => by
    have hbw : Below w.heap.size w wx := hb1.trans (hx.mono hb1.size)
    have hcc : ∀ i, wx.cell? ⟨fb, i, none⟩ = w.cell? ⟨fb, i, none⟩ := fun i => hbw.cell (p := ⟨fb, i, none⟩) hfl
    exact ⟨(hcc _).trans y0, (hcc _).trans y1, (hcc _).trans y2, (hcc _).trans y3, (hcc _).trans y4, (hcc _).trans y5, (hcc _).trans y6, (hcc _).trans y8⟩
  have HW1 : Hid (w.alloc (.cells #[.int .i64 (src : Int), .int .i64 (dst : Int), .int .i64 ((m : Int) + 1), .slice ko kl1 kc, .int .i64 made, .slice ho hn hc, .int .i64 lost, .bool had, .int .i64 (mo : Int)] 201) = W1) := hW1.symm
  have c1A : ∀ o, (w.alloc o).cell? ⟨c, 1, none⟩ = some (.slice (some ⟨rb, 0, none⟩) knowns.length cap) := fun o => ((bz o).cell (p := ⟨c, 1, none⟩) hcl).trans c1
  have dnA : ∀ o, (w.alloc o).cell? ⟨rb, dst * 13 + 1, none⟩ = some (.bool false) := fun o => ((bz o).cell (p := ⟨rb, _, none⟩) hrl).trans dn
  have Hne : Hid (ab ≠ c ∧ ab ≠ w.heap.size ∧ ab ≠ fb) := ⟨hac, by omega, haf⟩
  have Hidx : Hid (IntKind.i64.wrap (m : Int) = (m : Int)) := wrap_in _ (by omega) (by omega)
  have hx1l := hm
  clear bz hW1 kg a11 hcm y0 y1 y2 y3 y4 y5 y6 y7 y8 hfF haF hkl hle' x1 hm' haf har hfr hac hfcn hb1 hfl hal hcl hrl
  go_enter Tryz.func89, Tryz.ntmps89
  go_wp2_with fail
  clear c1 c4 dn r0 r1 r2 r3 r4 r5 r6 r7 r8 c1A dnA hs1
  rw [HW1.out]
  obtain ⟨d1, _, ddn, _, _, _, g1, _⟩ := HCel.out W1 (Below.refl _ _)
  go_quiet (fail)
  clear d1 ddn g1
  have hbq : Below W1.heap.size W1 (W1.drewN nq) := below_drewN (Below.refl _ _) _
  generalize W1.drewN nq = W2 at *
  obtain ⟨_, d4, _, _, _, _, _, g2, z7, _⟩ := HCel.out _ hbq
  have hidx := Hidx.out
  obtain ⟨y0, y1, y2, y3, y4, y5, y6, y8⟩ := HY.out _ hbq
  have HQ : Hid (Below W1.heap.size W1 W2) := hbq
  clear hbq
  have d4A : ∀ o, (W2.alloc o).cell? ⟨c, 4, none⟩ = some (.slice (some ⟨fb, 0, none⟩) fs.length fc) := fun o => (HCel.out (W2.alloc o) (HQ.out.alloc HQ.out.size o)).2.1
  have g2A : ∀ o, (W2.alloc o).cell? ⟨w.heap.size, 2, none⟩ = some (.int .i64 ((m : Int) + 1)) := fun o => (HCel.out (W2.alloc o) (HQ.out.alloc HQ.out.size o)).2.2.2.2.2.2.2.1
  have z7A : ∀ o, (W2.alloc o).cell? ⟨fb, m * 9 + 7, none⟩ = some (.bool had2) := fun o => (HCel.out (W2.alloc o) (HQ.out.alloc HQ.out.size o)).2.2.2.2.2.2.2.2.1
  have y0A : ∀ o, (W2.alloc o).cell? ⟨fb, m * 9, none⟩ = some (.int .i64 (src2 : Int)) := fun o => (HY.out (W2.alloc o) (HQ.out.alloc HQ.out.size o)).1
  have y1A : ∀ o, (W2.alloc o).cell? ⟨fb, m * 9 + 1, none⟩ = some (.int .i64 (dst2 : Int)) := fun o => (HY.out (W2.alloc o) (HQ.out.alloc HQ.out.size o)).2.1
  have y2A : ∀ o, (W2.alloc o).cell? ⟨fb, m * 9 + 2, none⟩ = some (.int .i64 (ack2 : Int)) := fun o => (HY.out (W2.alloc o) (HQ.out.alloc HQ.out.size o)).2.2.1
  have y3A : ∀ o, (W2.alloc o).cell? ⟨fb, m * 9 + 3, none⟩ = some (.slice mo2 kl2 mc2) := fun o => (HY.out (W2.alloc o) (HQ.out.alloc HQ.out.size o)).2.2.2.1
  have y4A : ∀ o, (W2.alloc o).cell? ⟨fb, m * 9 + 4, none⟩ = some (.int .i64 made2) := fun o => (HY.out (W2.alloc o) (HQ.out.alloc HQ.out.size o)).2.2.2.2.1
  have y5A : ∀ o, (W2.alloc o).cell? ⟨fb, m * 9 + 5, none⟩ = some (.slice mo3 kl3 mc3) := fun o => (HY.out (W2.alloc o) (HQ.out.alloc HQ.out.size o)).2.2.2.2.2.1
  have y6A : ∀ o, (W2.alloc o).cell? ⟨fb, m * 9 + 6, none⟩ = some (.int .i64 lost2) := fun o => (HY.out (W2.alloc o) (HQ.out.alloc HQ.out.size o)).2.2.2.2.2.2.1
  have y8A : ∀ o, (W2.alloc o).cell? ⟨fb, m * 9 + 8, none⟩ = some (.int .i64 (most2 : Int)) := fun o => (HY.out (W2.alloc o) (HQ.out.alloc HQ.out.size o)).2.2.2.2.2.2.2
  go_wp2_with fail
  -- the copy of the frame that is acknowledged
  go_cut [7] from 42 to 51 (fun v7 wx => v7 = .pointer (some ⟨W2.heap.size, 0, none⟩) ∧ Blk wx W2.heap.size #[.int .i64 (src2 : Int), .int .i64 (dst2 : Int), .int .i64 (ack2 : Int), .slice mo2 kl2 mc2, .int .i64 made2, .slice mo3 kl3 mc3, .int .i64 lost2, .bool had2, .int .i64 (most2 : Int)] 201 ∧ Below W2.heap.size W2 wx)
  case first =>
    go_region_law (fail)
    all_goals
      go_wp2_with fail
      go_meet
      refine ⟨rfl, ?_, ?_⟩
      · first | exact Blk.new W2 _ _ | exact blk9_all (Blk.new W2 _ _)
      · first | exact (Below.refl _ W2).alloc (Nat.le_refl _) _ | exact ((Below.refl _ W2).alloc (Nat.le_refl _) _).drew | exact below9 ((Below.refl _ W2).alloc (Nat.le_refl _) _)
  case rest =>
  obtain ⟨rfl, ko3, hb3⟩ := hcut
  clear d4 g2 z7 y0 y1 y2 y3 y4 y5 y6 y8 d4A g2A z7A y0A y1A y2A y3A y4A y5A y6A y8A hidx
  have HQ3 : Hid (Below W1.heap.size W1 wc) := HQ.out.trans (hb3.mono HQ.out.size)
  have HK3 : Hid (Blk wc W2.heap.size #[.int .i64 (src2 : Int), .int .i64 (dst2 : Int), .int .i64 (ack2 : Int), .slice mo2 kl2 mc2, .int .i64 made2, .slice mo3 kl3 mc3, .int .i64 lost2, .bool had2, .int .i64 (most2 : Int)] 201) := ko3
  clear ko3 hb3
  generalize wc = W3 at *
  obtain ⟨d1, _, _, _, _, _, g1, _⟩ := HCel.out _ HQ3.out
  go_wp2_with fail
  go_quiet (fail)
  clear d1 g1
  have hbq : Below W3.heap.size W3 (W3.drewN nq) := below_drewN (Below.refl _ _) _
  have HQ4 : Hid (Below W1.heap.size W1 (W3.drewN nq)) := HQ3.out.trans (hbq.mono HQ3.out.size)
  have HK4 : Hid (Blk (W3.drewN nq) W2.heap.size #[.int .i64 (src2 : Int), .int .i64 (dst2 : Int), .int .i64 (ack2 : Int), .slice mo2 kl2 mc2, .int .i64 made2, .slice mo3 kl3 mc3, .int .i64 lost2, .bool had2, .int .i64 (most2 : Int)] 201) := HK3.out.below hbq
  clear hbq HK3 HQ3
  generalize W3.drewN nq = W4 at *
  obtain ⟨_, _, _, d11, dcm, g0, _⟩ := HCel.out _ HQ4.out
  have o4 := (HK4.out.cell 4).trans rfl
  by_cases hlt : acked < made2
  · go_wp2_with fail
    go_quiet (fail)
    clear d11 dcm g0 o4
    have hbq : Below W4.heap.size W4 (W4.drewN nq) := below_drewN (Below.refl _ _) _
    have HQ5 : Hid (Below W1.heap.size W1 (W4.drewN nq)) := HQ4.out.trans (hbq.mono HQ4.out.size)
    have HK5 : Hid (Blk (W4.drewN nq) W2.heap.size #[.int .i64 (src2 : Int), .int .i64 (dst2 : Int), .int .i64 (ack2 : Int), .slice mo2 kl2 mc2, .int .i64 made2, .slice mo3 kl3 mc3, .int .i64 lost2, .bool had2, .int .i64 (most2 : Int)] 201) := HK4.out.below hbq
    clear hbq HK4 HQ4
    generalize W4.drewN nq = W5 at *
    obtain ⟨_, _, _, d11, dcm, g0, _, _, _, _, za, hbw5⟩ := HCel.out _ HQ5.out
    have o4 := (HK5.out.cell 4).trans rfl
    have HB5 : Hid (Below w.heap.size w W5) := hbw5
    clear hbw5
    go_wp2_with fail
    go_cut [] from 69 to 78 (fun wx => wx = W5.drew.setCell ⟨ab, src, none⟩ (.int .i64 made2))
    case first =>
      go_region_law (fail)
      all_goals
        go_wp2_with fail
        go_meet
        rfl
    case rest =>
    subst hcut
    clear d11 dcm g0 o4 za
    have HB6 : Hid (Below w.heap.size w W5.drew) := HB5.out.drew
    have HE : Hid (∀ i, (W5.drew.setCell ⟨ab, src, none⟩ (.int .i64 made2)).cell? ⟨c, i, none⟩ = W5.cell? ⟨c, i, none⟩ ∧ (W5.drew.setCell ⟨ab, src, none⟩ (.int .i64 made2)).cell? ⟨w.heap.size, i, none⟩ = W5.cell? ⟨w.heap.size, i, none⟩ ∧ (W5.drew.setCell ⟨ab, src, none⟩ (.int .i64 made2)).cell? ⟨fb, i, none⟩ = W5.cell? ⟨fb, i, none⟩ ∧ (W5.drew.setCell ⟨ab, src, none⟩ (.int .i64 made2)).frozen? ⟨fb, i, none⟩ = W5.frozen? ⟨fb, i, none⟩) := fun i => ⟨(cs_oth (Or.inl Hne.out.1)).trans rfl, (cs_oth (Or.inl Hne.out.2.1)).trans rfl, (cs_oth (Or.inl Hne.out.2.2)).trans rfl, (World.frozen?_setCell _ _ _ _).trans rfl⟩
    obtain ⟨_, d4, _, _, _, _, _, g2, z7, zf, _, _⟩ := HCel.out _ HQ5.out
    have e4 := (HE.out 4).1.trans d4
    have e2 := (HE.out 2).2.1.trans g2
    have e7 := (HE.out (m * 9 + 7)).2.2.1.trans z7
    have ef : ∀ j, (W5.drew.setCell ⟨ab, src, none⟩ (.int .i64 made2)).frozen? ⟨fb, j, none⟩ = false := fun j => (HE.out j).2.2.2.trans (zf j)
    have HF1 : Hid (∀ q, Below w.heap.size w ((W5.drew).drewN q)) := fun q => below_drewN HB6.out q
    have hidx := Hidx.out
    have HFS := HFin
    clear d4 g2 z7 zf HE HCel HY
    generalize hW6 : W5.drew.setCell ⟨ab, src, none⟩ (.int .i64 made2) = W6 at *
    have HW6 : Hid (W6 = W5.drew.setCell ⟨ab, src, none⟩ (.int .i64 made2)) := hW6.symm
    clear hW6
    go_wp2_with fail
    go_cut [] from 78 to 87 (fun wx => wx = W6.drew.setCell ⟨fb, m * 9 + 7, none⟩ (.bool true))
    case first =>
      go_region_law (fail)
      all_goals
        go_wp2_with fail
        go_meet
        rfl
    case rest =>
    subst hcut
    clear e4 e2 e7 ef hidx
    go_wp2_with fail
    go_ret2
    have hW : W6.drew.setCell ⟨fb, m * 9 + 7, none⟩ (.bool true) = (putA W5.drew.drew ab src (some made2)).setCell ⟨fb, m * 9 + 7, none⟩ (.bool true) := by rw [HW6.out]; rfl
    rw [hW]
    exact ⟨rfl, HFin.out W5.drew.drew (some made2) HB6.out.drew⟩
  · go_wp2_with fail
    go_quiet (fail)
    clear d11 dcm g0 o4
    have hbq : Below W4.heap.size W4 (W4.drewN nq) := below_drewN (Below.refl _ _) _
    have HQ5 : Hid (Below W1.heap.size W1 (W4.drewN nq)) := HQ4.out.trans (hbq.mono HQ4.out.size)
    clear hbq HK4 HQ4
    generalize W4.drewN nq = W5 at *
    obtain ⟨_, d4, _, _, _, _, _, g2, z7, zf, _, hbw5⟩ := HCel.out _ HQ5.out
    have HB5 : Hid (Below w.heap.size w W5) := hbw5
    have hidx := Hidx.out
    clear hbw5
    go_wp2_with fail
    go_cut [] from 78 to 87 (fun wx => wx = W5.drew.setCell ⟨fb, m * 9 + 7, none⟩ (.bool true))
    case first =>
      go_region_law (fail)
      all_goals
        go_wp2_with fail
        go_meet
        rfl
    case rest =>
    subst hcut
    clear d4 g2 z7 zf hidx
    go_wp2_with fail
    go_ret2
    exact ⟨rfl, HFin.out W5.drew none HB5.out.drew⟩
end Go.Proofs.YtoiiaankpnhppaaGreatDoor

