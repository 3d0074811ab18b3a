import Derived.Test.YtoiiaankpnhppaaGreatDoorPart05
import Derived.Test.YtoiiaankpnhppaaGreatDoorPart07
import Derived.Test.YtoiiaankpnhppaaGreatDoorPart12
set_option linter.unusedVariables false
set_option linter.unusedSimpArgs false
namespace Go.Proofs.YtoiiaankpnhppaaGreatDoor
open Go.RowKit

structure FrX where
  kv : Value
  made : Int
  al : Value
  lost : Int
  had : Bool
  most : Nat
def frRow (f : FrD) (x : FrX) : List Value := [.int .i64 (f.src : Int), .int .i64 (f.dst : Int), .int .i64 (f.ack : Int), x.kv, .int .i64 x.made, x.al, .int .i64 x.lost, .bool x.had, .int .i64 (x.most : Int)]
def frCells : List FrD → List FrX → List Value
  | f :: fs, x :: xs => frRow f x ++ frCells fs xs
  | _, _ => []
theorem frCells_at : ∀ (fs : List FrD) (xs : List FrX) (i : Nat) (h : i < fs.length) (h' : i < xs.length) (j : Nat), j < 9 → (frCells fs xs)[i * 9 + j]? = (frRow fs[i] xs[i])[j]?
  | [], _, i, h, _, _, _ => by simp at h
  | _ :: _, [], i, _, h', _, _ => by simp at h'
  | f :: fs, x :: xs, 0, _, _, j, hj => by
    rw [frCells, List.getElem?_append_left (by simp [frRow]; omega)]
    simp
  | f :: fs, x :: xs, i + 1, h, h', j, hj => by
    have := frCells_at fs xs i (by simpa using h) (by simpa using h') j hj
    have hl : (frRow f x).length = 9 := rfl
    rw [frCells, List.getElem?_append_right (by rw [hl]; omega), hl, show (i + 1) * 9 + j - 9 = i * 9 + j by omega, this]
    rfl
theorem frCells_snoc : ∀ (fs : List FrD) (xs : List FrX) (f : FrD) (x : FrX), xs.length = fs.length → frCells (fs ++ [f]) (xs ++ [x]) = frCells fs xs ++ frRow f x
  | [], [], f, x, _ => by simp [frCells]
  | [], _ :: _, _, _, h => by simp at h
  | _ :: _, [], _, _, h => by simp at h
  | a :: fs, b :: xs, f, x, h => by
    rw [List.cons_append, List.cons_append, frCells, frCells_snoc fs xs f x (by simpa using h), frCells, List.append_assoc]
theorem frCells_had : ∀ (fs : List FrD) (xs : List FrX) (i : Nat) (h : i < fs.length) (h' : i < xs.length), xs.length = fs.length → (frCells fs xs).set (i * 9 + 7) (.bool true) = frCells fs (xs.set i ⟨xs[i].kv, xs[i].made, xs[i].al, xs[i].lost, true, xs[i].most⟩)
  | [], _, i, h, _, _ => by simp at h
  | _ :: _, [], i, _, h', _ => by simp at h'
  | f :: fs, x :: xs, 0, _, _, _ => by
    rw [frCells, List.set_append_left _ _ (by simp [frRow])]
    rfl
  | f :: fs, x :: xs, i + 1, h, h', he => by
    have := frCells_had fs xs i (by simpa using h) (by simpa using h') (by simpa using he)
    have hl : (frRow f x).length = 9 := rfl
    rw [frCells, List.set_append_right _ _ (by rw [hl]; omega), hl, show (i + 1) * 9 + 7 - 9 = i * 9 + 7 by omega, this]
    rfl

structure FrOK (w : World) (f : FrD) (x : FrX) : Prop where
  kn : SliceT 4 w x.kv (bools f.known)
  kl : f.known.length ≤ 500
  al : ∃ l : List Int, SliceT 3 w x.al (ints l) ∧ l.length ≤ 500
  m1 : 1 ≤ x.most
  m2 : x.most ≤ 100000
def FrAt (w : World) (fv : Value) (fs : List FrD) : Prop := ∃ xs : List FrX, xs.length = fs.length ∧ w.ownsRow 0 201 9 fv fs.length (frCells fs xs) ∧ ∀ j (h : j < fs.length) (h' : j < xs.length), FrOK w fs[j] xs[j]
theorem FrOK.chg {M : Nat → Prop} {w w' : World} {f : FrD} {x : FrX} (h : FrOK w f x) (hc : Chg M w w') (h4 : ∀ b, Tagged w b 4 → ¬ M b) (h5 : IntsKept w w') : FrOK w' f x := by
  obtain ⟨l, h1, h2⟩ := h.al
  obtain ⟨l', h3, h6⟩ := h1.numbers h5
  exact ⟨h.kn.chg hc h4, h.kl, ⟨l', h6, by omega⟩, h.m1, h.m2⟩
theorem FrOK.below {w w' : World} {f : FrD} {x : FrX} (h : FrOK w f x) (hb : Below w.heap.size w w') : FrOK w' f x := h.chg (M := fun _ => False) (Chg.of_below hb) (fun _ _ h => h) (IntsKept.of_below hb)
theorem FrAt.chg {M : Nat → Prop} {w w' : World} {fv : Value} {fs : List FrD} (h : FrAt w fv fs) (hc : Chg M w w') (h3 : ∀ g, fv.ownBlock = some g → ¬ M g) (h4 : ∀ b, Tagged w b 4 → ¬ M b) (h5 : IntsKept w w') : FrAt w' fv fs := by
  obtain ⟨xs, h1, h2, h6⟩ := h
  exact ⟨xs, h1, ownsRow_chg h2 hc h3, fun j a b => (h6 j a b).chg hc h4 h5⟩
theorem FrAt.below {w w' : World} {fv : Value} {fs : List FrD} (h : FrAt w fv fs) (hb : Below w.heap.size w w') : FrAt w' fv fs := h.chg (M := fun _ => False) (Chg.of_below hb) (fun _ _ h => h) (fun _ _ h => h) (IntsKept.of_below hb)
theorem FrAt.tag {w : World} {fv : Value} {fs : List FrD} (h : FrAt w fv fs) : ∀ g, fv.ownBlock = some g → Tagged w g 201 := by
  obtain ⟨xs, _, h2, _⟩ := h
  exact own_tag h2
theorem FrAt.shape {w : World} {fv : Value} {fs : List FrD} (h : FrAt w fv fs) : ∃ ao cap, fv = .slice ao fs.length cap ∧ fs.length ≤ cap := by
  obtain ⟨xs, _, ⟨_, ⟨h1, h2⟩ | ⟨g, cap, cur, h1, _, _, h3, _⟩⟩, _⟩ := h
  · exact ⟨none, 0, by rw [h1, h2], by omega⟩
  · exact ⟨_, cap, h1, h3⟩
theorem FrAt.nil (w : World) : FrAt w (.slice none 0 0) [] := ⟨[], rfl, World.ownsRow_nil _ _ _ _, fun j h => absurd h (by simp)⟩
def noFr (f : Int) (len n : Nat) : Prop := n = 0 ↔ ¬ (1 ≤ f ∧ f ≤ len)
theorem Bound_any (w : World) (c : Nat) (fv : Value) (fs : List FrD) (h4 : w.cell? ⟨c, 4, none⟩ = some fv) (h : FrAt w fv fs) (h5 : fs.length ≤ 500) (f : Int) :
    Calls Tryz.prog 87 #[.pointer (some ⟨c, 0, none⟩), .int .i64 f] w fun e w' => ∃ n : Nat, e = .returned (.int .i64 (n : Int)) ∧ n ≤ 1000000 ∧ noFr f fs.length n ∧ w' = w := by
  obtain ⟨ao, cap, hfv, hcap⟩ := h.shape
  rw [hfv] at h4
  by_cases h1 : f < 1
  · clear h hfv
    go_enter Tryz.func87, Tryz.ntmps87
    go_wp2
    go_ret
    exact ⟨0, rfl, by omega, ⟨fun _ h9 => by omega, fun _ => rfl⟩, rfl⟩
  · by_cases h2 : (fs.length : Int) < f
    · clear h hfv
      go_enter Tryz.func87, Tryz.ntmps87
      go_wp2
      go_ret
      exact ⟨0, rfl, by omega, ⟨fun _ h9 => by omega, fun _ => rfl⟩, rfl⟩
    · obtain ⟨k, rfl⟩ : ∃ k : Nat, f = (k : Int) + 1 := ⟨(f - 1).toNat, by omega⟩
      have hk : k < fs.length := by omega
      obtain ⟨xs, e1, e2, e3⟩ := h
      have hk' : k < xs.length := by omega
      have hok := e3 k hk hk'
      obtain ⟨g, c', rfl⟩ := own_some e2 (by omega)
      have hc8 : w.cell? ⟨g, k * 9 + 8, none⟩ = some (.int .i64 (xs[k].most : Int)) := by
        rw [e2.cellAt (k * 9 + 8) (by omega), frCells_at fs xs k hk hk' 8 (by omega)]; (first | done | rfl)
      have m1 := hok.m1
      have m2 := hok.m2
      simp only [Value.slice.injEq] at hfv
      obtain ⟨rfl, _, rfl⟩ := hfv
      clear e2 e3 hok
      generalize xs[k].most = mo at *
      go_enter Tryz.func87, Tryz.ntmps87
      go_wp2
      go_ret
      exact ⟨mo, rfl, by omega, ⟨fun h9 => absurd h9 (by omega), fun h9 => absurd (show 1 ≤ (k : Int) + 1 ∧ (k : Int) + 1 ≤ (fs.length : Int) from ⟨by omega, by omega⟩) h9⟩, rfl⟩

def bothTo (a b : List Bool) (k : Nat) : List Bool := (bothL a b).take k ++ List.replicate (max a.length b.length - k) false
theorem bothTo_len (a b : List Bool) (k : Nat) (h : k ≤ max a.length b.length) : (bothTo a b k).length = max a.length b.length := by unfold bothTo; rw [List.length_append, List.length_take, bothL_len, List.length_replicate]; omega
theorem bothTo_set (a b : List Bool) (k : Nat) (h : k < max a.length b.length) : (bools (bothTo a b k)).set k (.bool (a.getD k false || b.getD k false)) = bools (bothTo a b (k + 1)) := by
  have hl : k < (bothL a b).length := by rw [bothL_len]; exact h
  have e1 : (bothL a b)[k] = (a.getD k false || b.getD k false) := by
    rw [← bothL_getD, List.getD_eq_getElem?_getD, List.getElem?_eq_getElem hl]; (first | done | rfl)
  unfold bools bothTo
  rw [← e1, ← List.map_set]
  congr 1
  rw [List.set_append_right _ _ (by rw [List.length_take]; omega), List.length_take, Nat.min_eq_left (by omega), Nat.sub_self, show max a.length b.length - k = (max a.length b.length - (k + 1)) + 1 by omega, List.replicate_succ, List.set_cons_zero, List.take_succ_eq_append_getElem hl, List.append_assoc]
  rfl
theorem bothTo_zero (a b : List Bool) : bothTo a b 0 = List.replicate (max a.length b.length) false := by unfold bothTo; simp
theorem bothTo_all (a b : List Bool) : bothTo a b (max a.length b.length) = bothL a b := by
  unfold bothTo
  rw [← bothL_len, List.take_length, Nat.sub_self]
  simp

theorem heap_put {w : World} {g k : Nat} {xs : List Value} {e : TypeId} (h : w.heap[g]? = some (.cells xs.toArray e (0, 0))) (u : Value) : (w.setCell ⟨g, k, none⟩ u).heap[g]? = some (.cells (xs.set k u).toArray e (0, 0)) := by
  simp [World.setCell, Array.getElem?_modify, h]

set_option maxHeartbeats 4000000 in
set_option maxRecDepth 100000 in
theorem both_any (w : World) (v1 v2 : Value) (a b : List Bool) (h1 : SliceT 4 w v1 (bools a)) (h2 : SliceT 4 w v2 (bools b)) (ha : a.length ≤ 500) (hb : b.length ≤ 500) :
    Calls Tryz.prog 142 #[v1, v2] w fun e w' => ∃ v, e = .returned v ∧ SliceT 4 w' v (bools (bothL a b)) ∧ Below w.heap.size w w' := by
  obtain ⟨i4, hi4, hz40, hz41, hz42⟩ := info_parts Tryz.info4
  obtain ⟨ao, ac, hv1, _⟩ := h1.shape
  obtain ⟨bo, bc, hv2, _⟩ := h2.shape
  have hla : (bools a).length = a.length := by simp [bools]
  have hlb : (bools b).length = b.length := by simp [bools]
  rw [hla] at hv1
  rw [hlb] at hv2
  have HI1 : Hid (∀ wx (k : Nat), k ≤ 1000 → Below w.heap.size w wx → Calls Tryz.prog 188 #[v1, .int .i64 (k : Int)] wx fun e w' => e = .returned (.bool (a.getD k false)) ∧ w' = wx) := fun wx k hk hx => in_any w.heap.size v1 a k wx (by omega) (by omega) (h1.toIn.below hx)
  have HI2 : Hid (∀ wx (k : Nat), k ≤ 1000 → Below w.heap.size w wx → Calls Tryz.prog 188 #[v2, .int .i64 (k : Int)] wx fun e w' => e = .returned (.bool (b.getD k false)) ∧ w' = wx) := fun wx k hk hx => in_any w.heap.size v2 b k wx (by omega) (by omega) (h2.toIn.below hx)
  subst hv1 hv2
  obtain ⟨n, hn⟩ : ∃ n, n = max a.length b.length := ⟨_, rfl⟩
  have hn5 : n ≤ 500 := by omega
  have hmk : ∀ wx : World, (Instr.makeSlice 145 (.int .i64 (n : Int)) (.int .i64 (n : Int))).run Tryz.prog wx = .ok (.slice (some ⟨wx.heap.size, 0, none⟩) n n) (wx.alloc (.cells (madeCells #[.bool false] n) 4)) := fun wx => run_make_row' 145 4 (.bool false) 1 Tryz.underlying145 Tryz.info4 rfl .i64 .i64 n (by omega) (by omega) wx
  have hm : madeCells #[.bool false] n = (bools (bothTo a b 0)).toArray := by
    rw [bothTo_zero, ← hn]
    have := made_bool n
    apply Array.ext'
    rw [show (Value.bool false).cells = #[.bool false] from rfl] at this
    rw [this]
    simp [bools]
  have HA : Hid ((w.alloc (.cells (madeCells #[.bool false] n) 4)).heap[w.heap.size]? = some (.cells (bools (bothTo a b 0)).toArray 4 (0, 0)) ∧ Below w.heap.size w (w.alloc (.cells (madeCells #[.bool false] n) 4))) := ⟨by rw [← hm]; exact Blk.new w _ _, (Below.refl _ w).alloc (Nat.le_refl _) _⟩
  have Hput : Hid (∀ k, k < n → (bools (bothTo a b k)).set k (.bool (a.getD k false || b.getD k false)) = bools (bothTo a b (k + 1))) := fun k hk => bothTo_set a b k (by omega)
  have Hlen : Hid (∀ k, k ≤ n → (bools (bothTo a b k)).length = n) := fun k hk => by unfold bools; rw [List.length_map, bothTo_len _ _ _ (by omega), hn]
  have Hfin : Hid (∀ wx, wx.heap[w.heap.size]? = some (.cells (bools (bothTo a b n)).toArray 4 (0, 0)) → SliceT 4 wx (.slice (some ⟨w.heap.size, 0, none⟩) n n) (bools (bothL a b))) := fun wx hx => by
    have e : bothTo a b n = bothL a b := by rw [hn]; exact bothTo_all a b
    have hl : (bools (bothL a b)).length = n := by unfold bools; rw [List.length_map, bothL_len, hn]
    rw [e] at hx
    exact Or.inr ⟨w.heap.size, 0, n, by rw [hl], by omega, ⟨_, hx⟩, fun j hj => by rw [Nat.zero_add, cell_of_heap hx, List.getElem?_eq_getElem hj]⟩
  have Hn : Hid (n = max a.length b.length) := hn
  clear h1 h2 hla hlb hm hn
  by_cases hlt : a.length < b.length
  · have hnb : n = b.length := by have := Hn.out; omega
    subst hnb
    go_enter Tryz.func142, Tryz.ntmps142
    go_wp2
    go_loopw [7, 8, 9] (fun v7 _ _ wx => ∃ k : Nat, k ≤ b.length ∧ v7 = .int .i64 (k : Int) ∧ wx.heap[w.heap.size]? = some (.cells (bools (bothTo a b k)).toArray 4 (0, 0)) ∧ Below w.heap.size w wx) (fun v7 _ _ _ => b.length - (intOf v7).toNat)
    case atStart => exact ⟨0, by omega, rfl, HA.out.1, HA.out.2⟩
    case round =>
      obtain ⟨k, hk, rfl, hh, hbl⟩ := hrel
      by_cases hkn : k < b.length
      · have hcell : wr.cell? ⟨w.heap.size, k, none⟩ = some ((bools (bothTo a b k))[k]'(by rw [Hlen.out k hk]; exact hkn)) := by rw [cell_of_heap hh, List.getElem?_eq_getElem]
        have hfz : ∀ j, wr.frozen? ⟨w.heap.size, j, none⟩ = false := Tagged.frozen ⟨_, hh⟩
        have HH : Hid ((wr.setCell ⟨w.heap.size, k, none⟩ (.bool (a.getD k false || b.getD k false))).heap[w.heap.size]? = some (.cells (bools (bothTo a b (k + 1))).toArray 4 (0, 0)) ∧ Below w.heap.size w (wr.setCell ⟨w.heap.size, k, none⟩ (.bool (a.getD k false || b.getD k false)))) := ⟨by rw [← Hput.out k hkn]; exact heap_put hh _, hbl.setCell (p := ⟨w.heap.size, k, none⟩) (Nat.le_refl _) _⟩
        have HB : Hid (_) := hbl
        have H1k : Hid (∀ wx, Below w.heap.size w wx → _) := fun wx hx => HI1.out wx k (by omega) hx
        have H2k : Hid (∀ wx, Below w.heap.size w wx → _) := fun wx hx => HI2.out wx k (by omega) hx
        generalize a.getD k false = x1 at *
        generalize b.getD k false = x2 at *
        clear hh hbl
        generalize (bools (bothTo a b k))[k]'(by rw [Hlen.out k hk]; exact hkn) = u at *
        go_wp2_with fail
        refine Calls.mono (H1k.out _ HB.out) ?_
        rintro e w2 ⟨rfl, rfl⟩
        go_wp2_with fail
        refine Calls.mono (H2k.out _ HB.out) ?_
        rintro e w3 ⟨rfl, rfl⟩
        cases x1 <;> cases x2
        all_goals
          go_wp2
          go_roundw
          case rel => exact ⟨k + 1, by omega, by go_num, HH.out.1, HH.out.2⟩
          case measure => simp [intOf]; omega
      · have hkk : k = b.length := by omega
        subst hkk
        have HF : Hid (_) := Hfin.out _ hh
        go_wp2
        go_ret
        exact ⟨_, rfl, HF.out, hbl⟩
  · have hna : n = a.length := by have := Hn.out; omega
    subst hna
    go_enter Tryz.func142, Tryz.ntmps142
    go_wp2
    go_loopw [7, 8, 9] (fun v7 _ _ wx => ∃ k : Nat, k ≤ a.length ∧ v7 = .int .i64 (k : Int) ∧ wx.heap[w.heap.size]? = some (.cells (bools (bothTo a b k)).toArray 4 (0, 0)) ∧ Below w.heap.size w wx) (fun v7 _ _ _ => a.length - (intOf v7).toNat)
    case atStart => exact ⟨0, by omega, rfl, HA.out.1, HA.out.2⟩
    case round =>
      obtain ⟨k, hk, rfl, hh, hbl⟩ := hrel
      by_cases hkn : k < a.length
      · have hcell : wr.cell? ⟨w.heap.size, k, none⟩ = some ((bools (bothTo a b k))[k]'(by rw [Hlen.out k hk]; exact hkn)) := by rw [cell_of_heap hh, List.getElem?_eq_getElem]
        have hfz : ∀ j, wr.frozen? ⟨w.heap.size, j, none⟩ = false := Tagged.frozen ⟨_, hh⟩
        have HH : Hid ((wr.setCell ⟨w.heap.size, k, none⟩ (.bool (a.getD k false || b.getD k false))).heap[w.heap.size]? = some (.cells (bools (bothTo a b (k + 1))).toArray 4 (0, 0)) ∧ Below w.heap.size w (wr.setCell ⟨w.heap.size, k, none⟩ (.bool (a.getD k false || b.getD k false)))) := ⟨by rw [← Hput.out k hkn]; exact heap_put hh _, hbl.setCell (p := ⟨w.heap.size, k, none⟩) (Nat.le_refl _) _⟩
        have HB : Hid (_) := hbl
        have H1k : Hid (∀ wx, Below w.heap.size w wx → _) := fun wx hx => HI1.out wx k (by omega) hx
        have H2k : Hid (∀ wx, Below w.heap.size w wx → _) := fun wx hx => HI2.out wx k (by omega) hx
        generalize a.getD k false = x1 at *
        generalize b.getD k false = x2 at *
        clear hh hbl
        generalize (bools (bothTo a b k))[k]'(by rw [Hlen.out k hk]; exact hkn) = u at *
        go_wp2_with fail
        refine Calls.mono (H1k.out _ HB.out) ?_
        rintro e w2 ⟨rfl, rfl⟩
        go_wp2_with fail
        refine Calls.mono (H2k.out _ HB.out) ?_
        rintro e w3 ⟨rfl, rfl⟩
        cases x1 <;> cases x2
        all_goals
          go_wp2
          go_roundw
          case rel => exact ⟨k + 1, by omega, by go_num, HH.out.1, HH.out.2⟩
          case measure => simp [intOf]; omega
      · have hkk : k = a.length := by omega
        subst hkk
        have HF : Hid (_) := Hfin.out _ hh
        go_wp2
        go_ret
        exact ⟨_, rfl, HF.out, hbl⟩

theorem SliceT.intAt {w : World} {v : Value} {l : List Int} (h : SliceT 3 w v (ints l)) {a : Nat} (ha : a < l.length) : ∃ b off cap, v = .slice (some ⟨b, off, none⟩) l.length cap ∧ l.length ≤ cap ∧ w.cell? ⟨b, off + a, none⟩ = some (.int .i64 l[a]) := by
  have hl : (ints l).length = l.length := by simp [ints]
  rcases h with ⟨_, h2⟩ | ⟨b, off, cap, h1, h2, h3, h4⟩
  · have : l = [] := by simpa [ints] using h2
    subst this; simp at ha
  · refine ⟨b, off, cap, by rw [h1, hl], by omega, ?_⟩
    rw [h4 a (by omega)]
    simp [ints]

set_option maxHeartbeats 16000000 in
set_option maxRecDepth 100000 in
theorem bound_any (w : World) (c : Nat) (fv : Value) (fs : List FrD) (h4 : w.cell? ⟨c, 4, none⟩ = some fv) (h : FrAt w fv fs) (h5 : fs.length ≤ 500) (g : FrD) (x : FrX) (hg : SliceT 4 w x.kv (bools g.known)) (hgl : g.known.length ≤ 500) (al : List Int) (hal : SliceT 3 w x.al (ints al)) (hall : al.length ≤ 500)
    (hcnt : ∀ f ∈ fs, f.ack = 0 → f.src = g.src → cnt f.known ≤ cnt g.known) :
    Calls Tryz.prog 141 #[.pointer (some ⟨c, 0, none⟩), .agg (frRow g x).toArray] w fun e w' => ∃ n : Nat, e = .returned (.int .i64 (n : Int)) ∧ 1 ≤ n ∧ n ≤ 100000 ∧ Below w.heap.size w w' := by
  have hcl : c < w.heap.size := World.block_lt_of_cell? w ⟨c, 4, none⟩ h4
  obtain ⟨xkv, xma, xal, xlo, xha, xmo⟩ := x
  simp only at *
  have hlal : (ints al).length = al.length := by simp [ints]
  obtain ⟨ao, ac, hav, hac⟩ := hal.shape
  rw [hlal] at hav hac
  subst hav
  obtain ⟨fo, fc, hfv, hfc⟩ := h.shape
  obtain ⟨W0, hW0⟩ : ∃ W0, W0 = w.alloc (.cells (frRow g ⟨xkv, xma, .slice ao al.length ac, xlo, xha, xmo⟩).toArray 201) := ⟨_, rfl⟩
  have hb0 : Below w.heap.size w W0 := by rw [hW0]; exact (Below.refl _ w).alloc (Nat.le_refl _) _
  have kg : Blk W0 w.heap.size (frRow g ⟨xkv, xma, .slice ao al.length ac, xlo, xha, xmo⟩).toArray 201 := by rw [hW0]; exact Blk.new w _ _
  have hsz0 : W0.heap.size = w.heap.size + 1 := by rw [hW0]; simp
  have h0 := h.below hb0
  have hal0 := hal.below hb0
  have hg0 := hg.below hb0
  have HC : Hid (∀ wx, Below W0.heap.size W0 wx → wx.cell? ⟨c, 4, none⟩ = some (.slice fo fs.length fc)) := fun wx hx => by
    rw [← hfv, hx.cell (p := ⟨c, 4, none⟩) (show c < W0.heap.size by omega), hb0.cell (p := ⟨c, 4, none⟩) hcl]; exact h4
  have HG : Hid (∀ wx, Below W0.heap.size W0 wx → wx.cell? ⟨w.heap.size, 0, none⟩ = some (.int .i64 (g.src : Int)) ∧ wx.cell? ⟨w.heap.size, 1, none⟩ = some (.int .i64 (g.dst : Int)) ∧ wx.cell? ⟨w.heap.size, 3, none⟩ = some xkv ∧ wx.cell? ⟨w.heap.size, 5, none⟩ = some (.slice ao al.length ac) ∧ wx.cell? ⟨w.heap.size, 6, none⟩ = some (.int .i64 xlo)) := fun wx hx => by
    have k := kg.below hx
    exact ⟨(k.cell 0).trans rfl, (k.cell 1).trans rfl, (k.cell 3).trans rfl, (k.cell 5).trans rfl, (k.cell 6).trans rfl⟩
  have HA : Hid (∀ wx, Below W0.heap.size W0 wx → ∀ a, a < al.length → ∃ b off m, ao = some ⟨b, off, none⟩ ∧ wx.cell? ⟨b, off + a, none⟩ = some (.int .i64 m)) := fun wx hx a ha => by
    obtain ⟨b, off, cap, e1, _, e3⟩ := (hal0.below hx).intAt ha
    simp only [Value.slice.injEq] at e1
    exact ⟨b, off, _, e1.1, e3⟩
  have HK : Hid (∀ wx, Below W0.heap.size W0 wx → SliceT 4 wx xkv (bools g.known)) := fun wx hx => hg0.below hx
  have HF : Hid (∀ wx, Below W0.heap.size W0 wx → ∀ k (hk : k < fs.length), ∃ b kv made hv lost had most, ∃ hl : List Int, ∃ ho hc2 ko kc, fo = some ⟨b, 0, none⟩ ∧ hv = .slice ho hl.length hc2 ∧ kv = .slice ko fs[k].known.length kc ∧ hl.length ≤ hc2 ∧ wx.cell? ⟨b, k * 9, none⟩ = some (.int .i64 (fs[k].src : Int)) ∧ wx.cell? ⟨b, k * 9 + 1, none⟩ = some (.int .i64 (fs[k].dst : Int)) ∧ wx.cell? ⟨b, k * 9 + 2, none⟩ = some (.int .i64 (fs[k].ack : Int)) ∧ wx.cell? ⟨b, k * 9 + 3, none⟩ = some kv ∧ wx.cell? ⟨b, k * 9 + 4, none⟩ = some (.int .i64 made) ∧ wx.cell? ⟨b, k * 9 + 5, none⟩ = some hv ∧ wx.cell? ⟨b, k * 9 + 6, none⟩ = some (.int .i64 lost) ∧ wx.cell? ⟨b, k * 9 + 7, none⟩ = some (.bool had) ∧ wx.cell? ⟨b, k * 9 + 8, none⟩ = some (.int .i64 most) ∧ SliceT 4 wx kv (bools fs[k].known) ∧ SliceT 3 wx hv (ints hl) ∧ hl.length ≤ 500 ∧ fs[k].known.length ≤ 500) := fun wx hx k hk => by
    obtain ⟨xs, e1, e2, e3⟩ := h0.below hx
    have hk' : k < xs.length := by omega
    have hok := e3 k hk hk'
    obtain ⟨l, a1, a2⟩ := hok.al
    obtain ⟨ho, hc2, a3, a4⟩ := a1.shape
    have hll : (ints l).length = l.length := by simp [ints]
    rw [hll] at a3 a4
    obtain ⟨ko, kc, a5, _⟩ := hok.kn.shape
    have hkl : (bools fs[k].known).length = fs[k].known.length := by simp [bools]
    rw [hkl] at a5
    rw [hfv] at e2
    obtain ⟨b, c', eb⟩ := own_some e2 (by omega)
    simp only [Value.slice.injEq] at eb
    obtain ⟨eb, _, rfl⟩ := eb
    have hce : ∀ j, j < 9 → wx.cell? ⟨b, k * 9 + j, none⟩ = (frRow fs[k] xs[k])[j]? := fun j hj => by
      rw [eb] at e2
      rw [e2.cellAt (k * 9 + j) (by omega), frCells_at fs xs k hk hk' j hj]
    exact ⟨b, xs[k].kv, xs[k].made, xs[k].al, xs[k].lost, xs[k].had, xs[k].most, l, ho, hc2, ko, kc, eb, a3, a5, a4, hce 0 (by omega), hce 1 (by omega), hce 2 (by omega), hce 3 (by omega), hce 4 (by omega), hce 5 (by omega), hce 6 (by omega), hce 7 (by omega), hce 8 (by omega), hok.kn, a1, a2, hok.kl⟩
  have Hcnt : Hid (_) := hcnt
  have hcg : cnt g.known ≤ 500 := Nat.le_trans (cnt_le _) hgl
  have HW0 : Hid (w.alloc (.cells (frRow g ⟨xkv, xma, .slice ao al.length ac, xlo, xha, xmo⟩).toArray 201) = W0) := hW0.symm
  have HB0 : Hid (_) := hb0
  obtain ⟨g0, g1, g3, g5, g6⟩ := HG.out W0 (Below.refl _ _)
  unfold frRow
  unfold frRow at HW0
  clear h h0 hal hal0 hg hg0 hcnt hW0 kg hfv h4 hb0 hlal
  go_enter Tryz.func141, Tryz.ntmps141
  go_wp2_with fail
  rw [HW0.out]
  go_wp2_with fail
  clear g0 g1 g3 g5 g6
  go_loopw [5, 6, 7, 8, 9, 10, 11, 12] (fun v5 v6 _ _ _ _ _ _ wx => ∃ k best : Nat, k ≤ fs.length ∧ v6 = .int .i64 (k : Int) ∧ v5 = .int .i64 (best : Int) ∧ 1 ≤ best ∧ best ≤ 100000 ∧ Below W0.heap.size W0 wx) (fun _ v6 _ _ _ _ _ _ _ => fs.length - (intOf v6).toNat)
  case atStart => exact ⟨0, 200 + 80 * al.length, by omega, rfl, by go_num, by omega, by omega, Below.refl _ _⟩
  case round =>
    obtain ⟨k, best, hk, rfl, rfl, hb1, hb2, hbl⟩ := hrel
    have c4 := HC.out _ hbl
    by_cases hkn : k < fs.length
    · obtain ⟨fb, kv, made, hv, lost, had, most, hl, ho, hc2, ko, kc, rfl, rfl, rfl, hcc, f0, f1, f2, f3, f4, f5, f6, f7, f8, fk, fa, fl, fkl⟩ := HF.out _ hbl k hkn
      obtain ⟨g0, g1, g3, g5, g6⟩ := HG.out _ hbl
      have gA0 : ∀ o, (wr.alloc o).cell? ⟨w.heap.size, 0, none⟩ = some (.int .i64 (g.src : Int)) := fun o => (HG.out (wr.alloc o) (hbl.alloc hbl.size o)).1
      have gA1 : ∀ o, (wr.alloc o).cell? ⟨w.heap.size, 1, none⟩ = some (.int .i64 (g.dst : Int)) := fun o => (HG.out (wr.alloc o) (hbl.alloc hbl.size o)).2.1
      have gA6 : ∀ o, (wr.alloc o).cell? ⟨w.heap.size, 6, none⟩ = some (.int .i64 xlo) := fun o => (HG.out (wr.alloc o) (hbl.alloc hbl.size o)).2.2.2.2
      have HBL : Hid (Below W0.heap.size W0 wr) := hbl
      have hfcx : fs.length ≤ fc := hfc
      have Hfk : Hid (SliceT 4 wr (.slice ko fs[k].known.length kc) (bools fs[k].known)) := fk
      have Hfa : Hid (SliceT 3 wr (.slice ho hl.length hc2) (ints hl)) := fa
      have Hck : Hid (fs[k].ack = 0 → fs[k].src = g.src → cnt fs[k].known ≤ cnt g.known) := Hcnt.out fs[k] (List.getElem_mem hkn)
      have hch : cnt fs[k].known ≤ 500 := Nat.le_trans (cnt_le _) fkl
      clear fk fa hbl
      -- behind the copy
      obtain ⟨W3, hW3⟩ : ∃ W3, W3 = wr.alloc (.cells #[.int .i64 (fs[k].src : Int), .int .i64 (fs[k].dst : Int), .int .i64 (fs[k].ack : Int), .slice ko fs[k].known.length kc, .int .i64 made, .slice ho hl.length hc2, .int .i64 lost, .bool had, .int .i64 most] 201) := ⟨_, rfl⟩
      have hb3 : Below wr.heap.size wr W3 := by rw [hW3]; exact (Below.refl _ wr).alloc (Nat.le_refl _) _
      have HB3 : Hid (Below W0.heap.size W0 W3) := HBL.out.trans (hb3.mono HBL.out.size)
      have kh : Blk W3 wr.heap.size #[.int .i64 (fs[k].src : Int), .int .i64 (fs[k].dst : Int), .int .i64 (fs[k].ack : Int), .slice ko fs[k].known.length kc, .int .i64 made, .slice ho hl.length hc2, .int .i64 lost, .bool had, .int .i64 most] 201 := by rw [hW3]; exact Blk.new wr _ _
      have hsz3 : W0.heap.size ≤ wr.heap.size := HBL.out.size
      have hk0 := (kh.cell 0).trans rfl
      have hk1 := (kh.cell 1).trans rfl
      have hk2 := (kh.cell 2).trans rfl
      have hk6 := (kh.cell 6).trans rfl
      have hk7 := (kh.cell 7).trans rfl
      obtain ⟨q0, q1, q3, q5, q6⟩ := HG.out W3 HB3.out
      have HH : Hid (∀ wx, Below W3.heap.size W3 wx → wx.cell? ⟨wr.heap.size, 3, none⟩ = some (.slice ko fs[k].known.length kc) ∧ wx.cell? ⟨wr.heap.size, 5, none⟩ = some (.slice ho hl.length hc2) ∧ SliceT 4 wx (.slice ko fs[k].known.length kc) (bools fs[k].known) ∧ SliceT 3 wx (.slice ho hl.length hc2) (ints hl) ∧ Below W0.heap.size W0 wx) := fun wx hx => by
        have k' := kh.below hx
        exact ⟨(k'.cell 3).trans rfl, (k'.cell 5).trans rfl, (Hfk.out.below hb3).below hx, (Hfa.out.below hb3).below hx, HB3.out.trans (hx.mono HB3.out.size)⟩
      have HW3 : Hid (wr.alloc (.cells #[.int .i64 (fs[k].src : Int), .int .i64 (fs[k].dst : Int), .int .i64 (fs[k].ack : Int), .slice ko fs[k].known.length kc, .int .i64 made, .slice ho hl.length hc2, .int .i64 lost, .bool had, .int .i64 most] 201) = W3) := hW3.symm
      clear hW3 hb3 kh Hfk Hfa
      generalize fs[k].src = hsrc at *
      generalize fs[k].dst = hdst at *
      generalize fs[k].ack = hack at *
      by_cases t1 : 0 < hack
      · have t1' : (0 : Int) < (hack : Int) := by omega
        go_wp2_with fail
        rw [HW3.out]
        try go_wp2
        go_roundw
        case rel => exact ⟨k + 1, best, by omega, by go_num, rfl, hb1, hb2, HB3.out⟩
        case measure => simp [intOf]; omega
      · have t1' : ¬ (0 : Int) < (hack : Int) := by omega
        by_cases t2 : hsrc = g.src
        · subst t2
          have s2 : ((g.src : Int) != (g.src : Int)) = false := bne_self_eq_false _
          by_cases t3 : hdst = g.dst
          · subst t3
            have s3 : ((g.dst : Int) != (g.dst : Int)) = false := bne_self_eq_false _
            cases had
            · go_wp2_with fail
              rw [HW3.out]
              try go_wp2
              go_roundw
              case rel => exact ⟨k + 1, best, by omega, by go_num, rfl, hb1, hb2, HB3.out⟩
              case measure => simp [intOf]; omega
            · by_cases t5 : lost = xlo
              · subst t5
                have s5 : (lost != lost) = false := bne_self_eq_false _
                have hle : cnt fs[k].known ≤ cnt g.known := Hck.out (by omega) rfl
                go_wp2_with fail
                rw [HW3.out]
                try go_wp2
                clear f0 f1 f2 f3 f4 f5 f6 f7 f8 g0 g1 g3 g5 g6 gA0 gA1 gA6 hk0 hk1 hk2 hk6 hk7 q0 q1 q3 q5 q6 c4 HW3
                go_loopw [8, 9, 10, 11] (fun v8 v9 _ _ wx => ∃ a gone : Nat, a ≤ hl.length ∧ v9 = .int .i64 (a : Int) ∧ v8 = .int .i64 (gone : Int) ∧ gone ≤ a ∧ Below W3.heap.size W3 wx) (fun _ v9 _ _ _ => hl.length - (intOf v9).toNat)
                case atStart => exact ⟨0, 0, by omega, rfl, rfl, by omega, Below.refl _ _⟩
                case round =>
                  obtain ⟨a, gone, ha, rfl, rfl, hga, hbl⟩ := hrel
                  obtain ⟨p3, p5, pk, pa, pb0⟩ := HH.out _ hbl
                  obtain ⟨g0, g1, g3, g5, g6⟩ := HG.out _ pb0
                  by_cases han : a < hl.length
                  · clear pk pa g0 g1 g3 g6 p3
                    have HBL2 : Hid (_) := hbl
                    clear hbl
                    go_wp2
                    clear p5 g5 pb0
                    go_loopw [10, 11] (fun v10 v11 wx => ∃ (b : Nat) (st : Bool), b ≤ al.length ∧ v11 = .int .i64 (b : Int) ∧ v10 = .bool st ∧ Below W3.heap.size W3 wx) (fun _ v11 _ => al.length - (intOf v11).toNat)
                    case atStart => exact ⟨0, false, by omega, rfl, rfl, HBL2.out⟩
                    case round =>
                      obtain ⟨b, st, hbn, rfl, rfl, hbl⟩ := hrel
                      obtain ⟨p3, p5, pk, pa, pb0⟩ := HH.out _ hbl
                      obtain ⟨g0, g1, g3, g5, g6⟩ := HG.out _ pb0
                      by_cases hb' : b < al.length
                      · obtain ⟨ab, aoff, m1, rfl, ca⟩ := HA.out _ pb0 b hb'
                        obtain ⟨hb9, hoff, hcap9, he9, hle9, ch9⟩ := pa.intAt han
                        simp only [Value.slice.injEq] at he9
                        obtain ⟨rfl, _, _⟩ := he9
                        generalize hl[a] = m2 at *
                        have HBL3 : Hid (_) := hbl
                        clear pk pa hbl pb0 g0 g1 g3 g6 p3
                        cases st
                        · go_wp2_with fail
                          go_quiet (fail)
                          go_wp2
                          go_roundw
                          case rel => exact ⟨b + 1, _, by omega, by go_num, rfl, below_drewN HBL3.out _⟩
                          case measure => simp [intOf]; omega
                        · go_wp2_with fail
                          go_quiet (fail)
                          go_wp2
                          go_roundw
                          case rel => exact ⟨b + 1, _, by omega, by go_num, rfl, below_drewN HBL3.out _⟩
                          case measure => simp [intOf]; omega
                      · have HBL3 : Hid (_) := hbl
                        clear pk pa hbl pb0 g0 g1 g3 g6 p3
                        cases st
                        · go_wp2
                          go_roundw
                          case rel => exact ⟨a + 1, gone + 1, by omega, by go_num, by go_num, by omega, HBL3.out⟩
                          case measure => simp [intOf]; omega
                        · go_wp2
                          go_roundw
                          case rel => exact ⟨a + 1, gone, by omega, by go_num, rfl, by omega, HBL3.out⟩
                          case measure => simp [intOf]; omega
                  · have HBL2 : Hid (_) := hbl
                    have HN : Hid (∀ (v : Value) (l : List Bool), (SliceT 4 wr v (bools l) ∧ l.length ≤ 500) → ∀ q, Calls Tryz.prog 85 #[v] (wr.drewN q) fun e w' => e = .returned (.int .i64 (cnt l : Int)) ∧ w' = wr.drewN q) := fun v l hv q => Count_any wr.heap.size v l _ (by omega) (SliceT.below hv.1 (below_drewN (Below.refl _ _) q)).toIn
                    have Pk : Hid (SliceT 4 wr (.slice ko fs[k].known.length kc) (bools fs[k].known) ∧ fs[k].known.length ≤ 500) := ⟨pk, fkl⟩
                    have Px : Hid (SliceT 4 wr xkv (bools g.known) ∧ g.known.length ≤ 500) := ⟨HK.out _ pb0, hgl⟩
                    clear pk pa hbl pb0 g0 g1 g5 g6
                    go_wp2_with fail
                    go_quiet (first | (go_at_call 85; exact Calls.mono (HN.out _ _ (by first | exact Pk.out | exact Px.out) _) (fun _ _ h => ⟨h.1, _, h.2⟩)))
                    clear HN Pk Px
                    generalize cnt fs[k].known = n1 at *
                    generalize cnt g.known = n2 at *
                    have HB9 : Hid (Below W0.heap.size W0 (wr.drewN nq)) := by
                      have := HB3.out.trans (HBL2.out.mono HB3.out.size)
                      exact below_drewN this _
                    by_cases hmin : (80 : Int) + 80 * ((n2 : Int) - (n1 : Int)) + 8 * (gone : Int) < (best : Int)
                    · go_wp2
                      go_roundw
                      case rel => exact ⟨k + 1, 80 + 80 * (n2 - n1) + 8 * gone, by omega, by go_num, by go_num, by omega, by omega, HB9.out⟩
                      case measure => simp [intOf]; omega
                    · go_wp2
                      go_roundw
                      case rel => exact ⟨k + 1, best, by omega, by go_num, rfl, hb1, hb2, HB9.out⟩
                      case measure => simp [intOf]; omega
              · have t5' : (lost != xlo) = true := bne_iff_ne.2 t5
                go_wp2_with fail
                rw [HW3.out]
                try go_wp2
                go_roundw
                case rel => exact ⟨k + 1, best, by omega, by go_num, rfl, hb1, hb2, HB3.out⟩
                case measure => simp [intOf]; omega
          · have t3' : ((hdst : Int) != (g.dst : Int)) = true := bne_iff_ne.2 (by omega)
            go_wp2_with fail
            rw [HW3.out]
            try go_wp2
            go_roundw
            case rel => exact ⟨k + 1, best, by omega, by go_num, rfl, hb1, hb2, HB3.out⟩
            case measure => simp [intOf]; omega
        · have t2' : ((hsrc : Int) != (g.src : Int)) = true := bne_iff_ne.2 (by omega)
          go_wp2_with fail
          rw [HW3.out]
          try go_wp2
          go_roundw
          case rel => exact ⟨k + 1, best, by omega, by go_num, rfl, hb1, hb2, HB3.out⟩
          case measure => simp [intOf]; omega
    · have HBL : Hid (_) := hbl
      clear hbl
      go_wp2
      go_ret
      exact ⟨best, rfl, hb1, hb2, HB0.out.trans (HBL.out.mono HB0.out.size)⟩
end Go.Proofs.YtoiiaankpnhppaaGreatDoor

