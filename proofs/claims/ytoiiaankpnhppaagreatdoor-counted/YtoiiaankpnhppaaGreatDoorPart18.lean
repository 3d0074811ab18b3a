import Derived.Deep.RegionHeld3
import Derived.BigQuiet
import Derived.Lib.ItoaLen
import Derived.Test.YtoiiaankpnhppaaGreatDoorPart16
import Derived.Test.YtoiiaankpnhppaaGreatDoorPart17
set_option linter.unusedVariables false
set_option linter.unusedSimpArgs false
namespace Go.Proofs.YtoiiaankpnhppaaGreatDoor
open Go.RowKit Go.Maps Go.WideMaps

theorem Tryz.infoRun : (Tryz.prog.info? 249).map (fun i => (i.zero, i.size, i.bytes)) = some (some (.agg #[.int .i64 0, .int .i64 0, .int .i64 0]), 3, 24) := by kernel_rfl
def rcells (rs : List (Nat × Nat)) : List Value := rs.flatMap fun r => [.int .i64 (who r.1 : Int), .int .i64 (nth r.1 : Int), .int .i64 (r.2 : Int)]
theorem rcells_snoc (rs : List (Nat × Nat)) (r : Nat × Nat) : rcells (rs ++ [r]) = rcells rs ++ [.int .i64 (who r.1 : Int), .int .i64 (nth r.1 : Int), .int .i64 (r.2 : Int)] := by simp [rcells]
theorem rcells_len (rs : List (Nat × Nat)) : (rcells rs).length = rs.length * 3 := by
  induction rs with
  | nil => rfl
  | cons x r ih => simp [rcells] at ih ⊢; omega
theorem rcells_get : ∀ (rs : List (Nat × Nat)) (i : Nat) (h : i < rs.length), (rcells rs)[i * 3]? = some (.int .i64 (who rs[i].1 : Int)) ∧ (rcells rs)[i * 3 + 1]? = some (.int .i64 (nth rs[i].1 : Int)) ∧ (rcells rs)[i * 3 + 2]? = some (.int .i64 (rs[i].2 : Int))
  | [], i, h => absurd h (by simp)
  | r :: rs, 0, h => ⟨rfl, rfl, rfl⟩
  | r :: rs, i + 1, h => by
    have := rcells_get rs i (by simpa using h)
    have e : rcells (r :: rs) = [.int .i64 (who r.1 : Int), .int .i64 (nth r.1 : Int), .int .i64 (r.2 : Int)] ++ rcells rs := rfl
    refine ⟨?_, ?_, ?_⟩
    · rw [e, List.getElem?_append_right (by simp; omega)]
      simp only [List.length_cons, List.length_nil, List.getElem_cons_succ]
      rw [show (i + 1) * 3 - (0 + 1 + 1 + 1) = i * 3 by omega]; exact this.1
    · rw [e, List.getElem?_append_right (by simp; omega)]
      simp only [List.length_cons, List.length_nil, List.getElem_cons_succ]
      rw [show (i + 1) * 3 + 1 - (0 + 1 + 1 + 1) = i * 3 + 1 by omega]; exact this.2.1
    · rw [e, List.getElem?_append_right (by simp; omega)]
      simp only [List.length_cons, List.length_nil, List.getElem_cons_succ]
      rw [show (i + 1) * 3 + 2 - (0 + 1 + 1 + 1) = i * 3 + 2 by omega]; exact this.2.2

structure Runs (ns : List Nat) (i : Nat) (rs : List (Nat × Nat)) : Prop where
  flat : flatR rs = ns.take i
  ok : ∀ r ∈ rs, okD r.1 ∧ 1 ≤ r.2 ∧ nth r.1 + r.2 ≤ 502
  len : rs.length ≤ i
theorem Runs.more {ns : List Nat} {i d m : Nat} {rs : List (Nat × Nat)} (h : Runs ns i (rs ++ [(d, m)])) (hi : i < ns.length) (e : d + m = ns[i]) (hok : okD ns[i]) (hw : who ns[i] = who d) : Runs ns (i + 1) (rs ++ [(d, m + 1)]) := by
  have hd := h.ok (d, m) (by simp)
  refine ⟨?_, fun r hr => ?_, ?_⟩
  · have := h.flat
    rw [flatR_snoc] at this ⊢
    rw [runD_succ, ← List.append_assoc, this, e, List.take_succ_eq_append_getElem hi]
  · rcases List.mem_append.1 hr with hr | hr
    · exact h.ok r (List.mem_append.2 (Or.inl hr))
    · simp at hr
      subst hr
      refine ⟨hd.1, by simp, ?_⟩
      have h1 : nth ns[i] = nth d + m := by rw [← e]; exact nth_add (by have := hd.2.2; simp only at this; omega)
      have h2 := hok.2.2
      simp only
      omega
  · have := h.len; simp at this ⊢; omega
theorem Runs.new {ns : List Nat} {i : Nat} {rs : List (Nat × Nat)} (h : Runs ns i rs) (hi : i < ns.length) (hok : okD ns[i]) : Runs ns (i + 1) (rs ++ [(ns[i], 1)]) := by
  refine ⟨?_, fun r hr => ?_, ?_⟩
  · rw [flatR_snoc, h.flat, List.take_succ_eq_append_getElem hi]
    simp [runD]
  · rcases List.mem_append.1 hr with hr | hr
    · exact h.ok r hr
    · simp at hr
      subst hr
      exact ⟨hok, by simp, by have := hok.2.2; simp only; omega⟩
  · have := h.len; simp; omega

theorem addr0 (g k : Nat) : (⟨g, 0, none⟩ : Addr).add k = ⟨g, k, none⟩ := by unfold Addr.add; by_cases h : k = 0 <;> simp [h]
theorem own_set {w : World} {base : Nat} {e : TypeId} {size : Nat} {g n cap : Nat} {xs : List Value} (h : w.ownsRow base e size (.slice (some ⟨g, 0, none⟩) n cap) n xs) (k : Nat) (hk : k < xs.length) (u : Value) : (w.setCell ⟨g, k, none⟩ u).ownsRow base e size (.slice (some ⟨g, 0, none⟩) n cap) n (xs.set k u) := by
  obtain ⟨hl, h⟩ := h
  refine ⟨by rw [List.length_set]; exact hl, Or.inr ?_⟩
  rcases h with ⟨h1, _⟩ | ⟨g', cap', cur, h1, h2, h3, h4, h5, h6, h7⟩
  · cases h1
  · simp only [Value.slice.injEq, Option.some.injEq, Addr.mk.injEq] at h1
    obtain ⟨⟨rfl, _⟩, _, rfl⟩ := h1
    refine ⟨g, cap, cur.setIfInBounds k u, rfl, h2, ?_, h4, h5, by simpa using h6, ?_⟩
    · simp [World.setCell, Array.getElem?_modify, h3]
    · rw [Array.toList_setIfInBounds, List.take_set, h7]
theorem own_free {w : World} {base : Nat} {e : TypeId} {size : Nat} {g n cap : Nat} {xs : List Value} (h : w.ownsRow base e size (.slice (some ⟨g, 0, none⟩) n cap) n xs) (k : Nat) : w.frozen? ⟨g, k, none⟩ = false := by
  rcases h.2 with ⟨h1, _⟩ | ⟨g', cap', cur, h1, h2, h3, _⟩
  · cases h1
  · simp only [Value.slice.injEq, Option.some.injEq, Addr.mk.injEq] at h1
    obtain ⟨⟨rfl, _⟩, _, _⟩ := h1
    simp [World.frozen?, h3]
theorem rcells_set (rs : List (Nat × Nat)) (d m : Nat) : (rcells (rs ++ [(d, m)])).set (rs.length * 3 + 2) (.int .i64 ((m + 1 : Nat) : Int)) = rcells (rs ++ [(d, m + 1)]) := by
  rw [rcells_snoc, rcells_snoc, ← rcells_len, List.set_append_right _ _ (by omega)]
  simp
structure RN (w : World) (B : Nat) (v8 v3 : Value) (ns : List Nat) (rs : List (Nat × Nat)) (wx : World) : Prop where
  row : wx.ownsRow B 249 3 v3 rs.length (rcells rs)
  old : ∀ b, v8.ownBlock = some b → b < B
  le : w.heap.size ≤ B ∧ B ≤ wx.heap.size
  sl : SliceD wx v8 ns
  below : Below w.heap.size w wx
theorem RN.mono {w : World} {B : Nat} {v8 v3 : Value} {ns : List Nat} {rs : List (Nat × Nat)} {wx wy : World} (h : RN w B v8 v3 ns rs wx) (hb : Below wx.heap.size wx wy) : RN w B v8 v3 ns rs wy := ⟨own_below h.row hb, h.old, ⟨h.le.1, Nat.le_trans h.le.2 hb.size⟩, h.sl.below hb, h.below.trans (hb.mono h.below.size)⟩
theorem SliceD.blk {w : World} {v : Value} {ns : List Nat} (h : SliceD w v ns) : ∃ ao cap, v = .slice ao ns.length cap ∧ ns.length ≤ cap := by
  rcases h with ⟨rfl, rfl⟩ | ⟨b, off, cap, rfl, h2, _⟩
  · exact ⟨none, 0, rfl, Nat.le_refl _⟩
  · exact ⟨_, cap, rfl, h2⟩

set_option maxHeartbeats 8000000 in
set_option maxRecDepth 100000 in
theorem runs_any (w : World) (co lo : Option Nat) (c : Nat → Nat) (L : Nat → Bool) (h : CtxV w (.map co) (.map lo) c L) :
    Calls Tryz.prog 228 #[.agg #[.map co, .map lo]] w fun e w' => ∃ v ns rs, e = .returned v ∧ ns.Nodup ∧ (∀ d, d ∈ ns ↔ 1 ≤ nth d ∧ inK c L d) ∧ Runs ns ns.length rs ∧ w'.ownsRow w.heap.size 249 3 v rs.length (rcells rs) ∧ Below w.heap.size w w' := by
  obtain ⟨i0, hi, hz0, hz1, hz2⟩ := info_parts Tryz.infoRun
  have H501 : Hid (∀ a, c a ≤ 501) := h.c501
  have H5 : Hid (∀ a, c a ≠ 0 → a ≤ 5) := h.c5
  have HL : Hid (∀ d, L d = true → okD d ∧ c (who d) < nth d) := h.l501
  have Hall : Hid (∀ ob, Calls Tryz.prog 258 #[.agg #[.map co, .map lo]] (w.alloc ob) fun e w' => ∃ v ns, e = .returned v ∧ SliceD w' v ns ∧ ns.Nodup ∧ (∀ d, d ∈ ns ↔ 1 ≤ nth d ∧ inK c L d) ∧ Below w.heap.size w w') := fun ob => by
    have hb : Below w.heap.size w (w.alloc ob) := (Below.refl _ w).alloc (Nat.le_refl _) _
    refine Calls.mono (all_any _ co lo c L (h.below hb)) ?_
    rintro e w' ⟨v, ns, rfl, h1, h2, h3, _, h5⟩
    exact ⟨v, ns, rfl, h1, h2, h3, hb.trans (h5.mono hb.size)⟩
  clear h
  go_enter Tryz.func228, Tryz.ntmps228
  go_wp2_with fail
  refine Calls.mono (Hall.out _) ?_
  rintro e w1 ⟨v8, ns, rfl, hsl, hnd, hmem, hb1⟩
  obtain ⟨ao, cap, rfl, hcap⟩ := hsl.blk
  have HS1 : Hid (SliceD w1 (.slice ao ns.length cap) ns ∧ Below w.heap.size w w1) := ⟨hsl, hb1⟩
  have HOld : Hid (∀ b, (Value.slice ao ns.length cap).ownBlock = some b → b < w1.heap.size) := by
    rcases hsl with ⟨h, _⟩ | ⟨b, off, cap', h, _, h3, _⟩
    · intro b hb; rw [h] at hb; cases hb
    · intro b' hb; rw [h] at hb; cases hb; exact h3
  have HN : Hid (ns.Nodup ∧ (∀ d, d ∈ ns ↔ 1 ≤ nth d ∧ inK c L d)) := ⟨hnd, hmem⟩
  have Hok : Hid (∀ d ∈ ns, okD d) := fun d hd => by
    obtain ⟨h1, h2⟩ := (hmem d).1 hd
    rcases h2 with h2 | h2
    · exact ⟨H5.out _ (by omega), h1, by have := H501.out (who d); omega⟩
    · exact (HL.out d h2).1
  have hlen : ns.length ≤ 3072 := nodup_lt 3072 ns hnd (fun d hd => okD_lt (Hok.out d hd))
  clear hsl hnd hmem hb1 Hall H501 H5 HL
  go_wp2_with fail
  go_loopg [3, 10] ns.length (fun g v3 v10 wx => ∃ (i : Nat) (rs : List (Nat × Nat)), i + g = ns.length ∧ v10 = .int .i64 (i : Int) ∧ Runs ns i rs ∧ RN w w1.heap.size (.slice ao ns.length cap) v3 ns rs wx)
  case atStart => exact ⟨0, [], by omega, rfl, ⟨by simp [flatR], fun r hr => (by cases hr), by simp⟩, World.ownsRow_nil _ _ _ _, HOld.out, ⟨HS1.out.2.size, Nat.le_refl _⟩, HS1.out.1, HS1.out.2⟩
  case round =>
    obtain ⟨i, rs, hig, rfl, hR, hX⟩ := hrel
    have HR : Hid (Runs ns i rs) := hR
    have HX : Hid (RN w w1.heap.size (.slice ao ns.length cap) u3 ns rs wr) := hX
    have hrl : rs.length ≤ i := hR.len
    clear HS1
    by_cases him : i < ns.length
    · obtain ⟨b, off, cap', hv, hcap', hb, hcells⟩ := hX.sl.resolve_left (fun h => by rw [h.2] at him; simp at him)
      simp only [Value.slice.injEq] at hv
      obtain ⟨rfl, _, rfl⟩ := hv
      have k0 := (hcells i him).1
      have k1 := (hcells i him).2
      have hokx := Hok.out _ (List.getElem_mem him)
      have h63 : rs.length + 1 ≤ maxLen := by unfold maxLen; omega
      have h64 : (rs.length + 1) * 24 ≤ 140737488355328 := by omega
      have hbw : w1.heap.size ≤ wr.heap.size := hX.le.2
      have hsh : ∃ ao3 cap3, u3 = .slice ao3 rs.length cap3 := by
        rcases hX.row.2 with ⟨h1, h2⟩ | ⟨g, cp, cur, h1, _⟩
        · exact ⟨none, 0, by rw [h1, h2]⟩
        · exact ⟨_, cp, h1⟩
      obtain ⟨ao3, cap3, rfl⟩ := hsh
      have Hcn : Hid (∀ (wz : World) (x : Nat) j u, ([.int .i64 (who x : Int), .int .i64 (nth x : Int), .int .i64 1] : List Value)[j]? = some u → (wz.alloc (.cells #[.int .i64 (who x : Int), .int .i64 (nth x : Int), .int .i64 1] 249)).cell? ((⟨wz.heap.size, 0, none⟩ : Addr).add j) = some u) := fun wz x j u hj => by
        match j, hj with
        | 0, hj => cases hj; simp [Addr.add]
        | 1, hj => cases hj; simp [Addr.add]
        | 2, hj => cases hj; simp [Addr.add]
      have HBG : Hid ((Value.slice ao3 rs.length cap3).ownBlock ≠ some b) := fun e => by have h1 := (HX.out.row.lt b e).1; have h2 := HX.out.old b rfl; omega
      have HA : Hid (∀ x, x = ns[i] → ∀ wy, Below wr.heap.size wr wy → ∀ ob v6 w6, w6.ownsRow w1.heap.size 249 3 v6 (rs.length + 1) (rcells rs ++ [.int .i64 (who x : Int), .int .i64 (nth x : Int), .int .i64 1]) → (wy.alloc ob).grownBy w6 (Value.slice ao3 rs.length cap3).ownBlock → Runs ns (i + 1) (rs ++ [(x, 1)]) ∧ RN w w1.heap.size (.slice (some ⟨b, off, none⟩) ns.length cap) v6 ns (rs ++ [(x, 1)]) w6) := fun x hx wy hb ob v6 w6 ho6 hg6 => by
        subst hx
        have hXy := HX.out.mono hb
        have hbel : Below w.heap.size w w6 := (hXy.below.alloc hXy.below.size ob).grown hg6 (by have := hXy.below.size; simp; omega) (fun k hk => Nat.le_trans hXy.le.1 (hXy.row.lt k hk).1)
        refine ⟨HR.out.new him hokx, ⟨by rw [rcells_snoc, List.length_append]; exact ho6, hXy.old, ⟨hXy.le.1, Nat.le_trans hXy.le.2 (by have := hg6.size; simp at this; omega)⟩, ?_, hbel⟩⟩
        refine (hXy.sl.below ((Below.refl _ wy).alloc (Nat.le_refl _) ob)).chg (M := fun k => (Value.slice ao3 rs.length cap3).ownBlock = some k) ((Chg.refl _ _).grown hg6 (fun k e => Or.inl e)) (fun k hk e => ?_)
        cases hk
        exact HBG.out e
      have HO : Hid (∀ wy, Below wr.heap.size wr wy → ∀ ob, (wy.alloc ob).ownsRow w1.heap.size 249 3 (.slice ao3 rs.length cap3) rs.length (rcells rs)) := fun wy hb ob => (HX.out.mono hb).row.alloc ob
      obtain ⟨x, hx⟩ : ∃ x, ns[i] = x := ⟨_, rfl⟩
      rw [hx] at k0 k1 hokx
      have Hx : Hid (x = ns[i]) := hx.symm
      clear hX hR hcells hx
      have hcc : rs = [] ∨ ∃ rs' r, rs = rs' ++ [r] := by
        rcases List.eq_nil_or_concat rs with h | ⟨l, r, h⟩
        · exact Or.inl h
        · exact Or.inr ⟨l, r, by rw [h, List.concat_eq_append]⟩
      rcases hcc with rfl | ⟨rs', r, rfl⟩
      · simp only [List.length_nil] at *
        have kd := Blk.new wr #[.int .i64 (who x : Int), .int .i64 (nth x : Int)] 121
        have hbd : Below wr.heap.size wr (wr.alloc (.cells #[.int .i64 (who x : Int), .int .i64 (nth x : Int)] 121)) := (Below.refl _ wr).alloc (Nat.le_refl _) _
        go_wp2_with fail
        generalize wr.alloc (.cells #[.int .i64 (who x : Int), .int .i64 (nth x : Int)] 121) = wd at *
        have d0 := (kd.cell 0).trans rfl
        have d1 := (kd.cell 1).trans rfl
        have HBd : Hid (Below wr.heap.size wr wd.drew) := hbd.drew
        have HBz : Hid (Below wr.heap.size wr wd) := hbd
        have hwd : w1.heap.size ≤ wd.heap.size := Nat.le_trans hbw hbd.size
        have d0' : wd.drew.cell? ⟨wr.heap.size, 0, none⟩ = some (.int .i64 (who x : Int)) := d0
        have d1' : wd.drew.cell? ⟨wr.heap.size, 1, none⟩ = some (.int .i64 (nth x : Int)) := d1
        clear kd hbd k0 k1
        have hdd : decide ((-1 : Int) ≥ 0) = false := by decide
        go_quiet (fail)
        go_wp2_with (first | (at_builtin; refine wpList_append_own_at _ rfl (.tmp 41) (.tmp 44) 259 rfl w1.heap.size 249 i0 (.agg #[.int .i64 0, .int .i64 0, .int .i64 0]) 3 24 Tryz.underlying259 hi hz0 hz1 hz2 rfl (by decide) _ _ _ rfl (HO.out _ HBd.out _) ⟨wd.heap.size, 0, none⟩ 1 1 [.int .i64 (who x : Int), .int .i64 (nth x : Int), .int .i64 1] rfl rfl (Hcn.out _ x) (by simp [Value.oneCell']) h63 h64 (by simp; omega) ?_; intro v6 w6 ho6 hg6 hn6 hl6))
        have hfin := HA.out x Hx.out (wd.drewN nq) (below_drewN HBz.out nq) _ _ _ ho6 hg6
        go_roundg (ns.length - (i + 1))
        case measure => omega
        case rel => exact ⟨i + 1, _, by omega, by go_num, hfin.1, hfin.2⟩
      · obtain ⟨d, m⟩ := r
        have hrr := HR.out.ok (d, m) (by simp)
        obtain ⟨hokd, hm1, hm2⟩ := hrr
        simp only at hm1 hm2 hokd
        obtain ⟨g3, cp3, hv3⟩ := own_some HX.out.row (by simp)
        simp only [Value.slice.injEq] at hv3
        obtain ⟨rfl, _, rfl⟩ := hv3
        have hcl := HX.out.row.cells (g := g3) rfl
        have hgt := rcells_get (rs' ++ [(d, m)]) rs'.length (by simp)
        simp only [List.getElem_append_right (Nat.le_refl _), Nat.sub_self, List.getElem_cons_zero] at hgt
        have q0 := hcl _ _ hgt.1
        have q1 := hcl _ _ hgt.2.1
        have q2 := hcl _ _ hgt.2.2
        rw [addr0] at q0 q1 q2
        have hlen3 : Hid ((rcells (rs' ++ [(d, m)])).length = (rs'.length + 1) * 3) := by unfold Hid; rw [rcells_len]; simp
        have hcapr : (rs' ++ [(d, m)]).length = rs'.length + 1 := by simp
        simp only [hcapr] at *
        have kd := Blk.new wr #[.int .i64 (who x : Int), .int .i64 (nth x : Int)] 121
        have hbd : Below wr.heap.size wr (wr.alloc (.cells #[.int .i64 (who x : Int), .int .i64 (nth x : Int)] 121)) := (Below.refl _ wr).alloc (Nat.le_refl _) _
        have hgl : g3 < wr.heap.size := (HX.out.row.lt g3 rfl).2
        have hbg : b ≠ g3 := fun e => HBG.out (by rw [e]; rfl)
        clear hcl hgt
        go_wp2_with fail
        have z0 : (wr.alloc (.cells #[.int .i64 (who x : Int), .int .i64 (nth x : Int)] 121)).cell? ⟨g3, rs'.length * 3, none⟩ = some (.int .i64 (who d : Int)) := (hbd.cell (p := ⟨g3, rs'.length * 3, none⟩) hgl).trans q0
        have z1 : (wr.alloc (.cells #[.int .i64 (who x : Int), .int .i64 (nth x : Int)] 121)).cell? ⟨g3, rs'.length * 3 + 1, none⟩ = some (.int .i64 (nth d : Int)) := (hbd.cell (p := ⟨g3, rs'.length * 3 + 1, none⟩) hgl).trans q1
        have z2 : (wr.alloc (.cells #[.int .i64 (who x : Int), .int .i64 (nth x : Int)] 121)).cell? ⟨g3, rs'.length * 3 + 2, none⟩ = some (.int .i64 (m : Int)) := (hbd.cell (p := ⟨g3, rs'.length * 3 + 2, none⟩) hgl).trans q2
        have z3 := (kd.cell 0).trans rfl
        have z4 := (kd.cell 1).trans rfl
        generalize wr.alloc (.cells #[.int .i64 (who x : Int), .int .i64 (nth x : Int)] 121) = wd at *
        have Hat : Hid (∀ wx, wx.heap = wd.heap → wx.os = wd.os → wx.tape = wd.tape → wx.output = wd.output → Calls Tryz.prog 226 #[.agg #[.int .i64 (who d : Int), .int .i64 (nth d : Int), .int .i64 (m : Int)], .int .i64 (m : Int)] wx fun e w' => e = .returned (dotE (d + m)) ∧ (w'.cell? ⟨g3, rs'.length * 3, none⟩ = some (.int .i64 (who d : Int)) ∧ w'.cell? ⟨g3, rs'.length * 3 + 1, none⟩ = some (.int .i64 (nth d : Int)) ∧ w'.cell? ⟨g3, rs'.length * 3 + 2, none⟩ = some (.int .i64 (m : Int)) ∧ w'.cell? ⟨wr.heap.size, 0, none⟩ = some (.int .i64 (who x : Int)) ∧ w'.cell? ⟨wr.heap.size, 1, none⟩ = some (.int .i64 (nth x : Int))) ∧ Below wr.heap.size wr w' ∧ Blk w' wr.heap.size #[.int .i64 (who x : Int), .int .i64 (nth x : Int)] 121) := fun wx hx ho ht hp => by
          have hbx : Below wr.heap.size wr wx := hbd.trans ⟨ho, ht, hp, by rw [hx]; exact Nat.le_refl _, fun k _ => by rw [hx]⟩
          have kx : Blk wx wr.heap.size #[.int .i64 (who x : Int), .int .i64 (nth x : Int)] 121 := by unfold Blk; rw [hx]; exact kd
          refine Calls.mono (at_any wx d m m (by omega)) ?_
          rintro e w' ⟨rfl, hb'⟩
          have hbw' : Below wr.heap.size wr w' := hbx.trans (hb'.mono hbx.size)
          have kx' := kx.below hb'
          exact ⟨rfl, ⟨(hbw'.cell (p := ⟨g3, rs'.length * 3, none⟩) hgl).trans q0, (hbw'.cell (p := ⟨g3, rs'.length * 3 + 1, none⟩) hgl).trans q1, (hbw'.cell (p := ⟨g3, rs'.length * 3 + 2, none⟩) hgl).trans q2, (kx'.cell 0).trans rfl, (kx'.cell 1).trans rfl⟩, hbw', kx'⟩
        clear kd hbd q0 q1 q2 k0 k1
        have hdd : decide ((rs'.length : Int) ≥ 0) = true := by simp
        have hi1 : (0 : Int) ≤ (rs'.length : Int) := by omega
        have hi2 : (rs'.length : Int) < (rs'.length : Int) + 1 := by omega
        have hi3 : (rs'.length : Int) < ((rs'.length + 1 : Nat) : Int) := by omega
        by_cases hdx : d + m = x
        · subst hdx
          go_region_held3 (fun w' => w'.cell? ⟨g3, rs'.length * 3, none⟩ = some (.int .i64 (who d : Int)) ∧ w'.cell? ⟨g3, rs'.length * 3 + 1, none⟩ = some (.int .i64 (nth d : Int)) ∧ w'.cell? ⟨g3, rs'.length * 3 + 2, none⟩ = some (.int .i64 (m : Int)) ∧ w'.cell? ⟨wr.heap.size, 0, none⟩ = some (.int .i64 (who (d + m) : Int)) ∧ w'.cell? ⟨wr.heap.size, 1, none⟩ = some (.int .i64 (nth (d + m) : Int))) (first | assumption | exact ⟨z0, z1, z2, z3, z4⟩ | exact h5.1) (first | (go_at_call 226; refine Calls.mono (Hat.out _ rfl rfl rfl rfl) ?_; rintro e w5 ⟨rfl, h5⟩; have e0 := h5.1.1; have e1 := h5.1.2.1; have e2 := h5.1.2.2.1; have e3 := h5.1.2.2.2.1; have e4 := h5.1.2.2.2.2))
          have hX5 := HX.out.mono h5.2.1
          have hrow5 := hX5.row
          rw [show (rs' ++ [(d, m)]).length = rs'.length + 1 by simp] at hrow5
          have hfr := own_free hrow5
          have HX5 : Hid (RN w w1.heap.size (.slice (some ⟨b, off, none⟩) ns.length cap) (.slice (some ⟨g3, 0, none⟩) (rs'.length + 1) cap3) ns (rs' ++ [(d, m)]) w5) := hX5
          have Hrow5 : Hid (w5.ownsRow w1.heap.size 249 3 (.slice (some ⟨g3, 0, none⟩) (rs'.length + 1) cap3) (rs'.length + 1) (rcells (rs' ++ [(d, m)]))) := hrow5
          clear hX5 hrow5
          go_wp2_with fail
          have hX5 := HX5.out
          have hrow5 := Hrow5.out
          have hro := own_set hrow5 (rs'.length * 3 + 2) (by rw [hlen3.out]; omega) (.int .i64 ((m + 1 : Nat) : Int))
          rw [rcells_set] at hro
          have hsl5 : SliceD (w5.setCell ⟨g3, rs'.length * 3 + 2, none⟩ (.int .i64 ((m + 1 : Nat) : Int))) (.slice (some ⟨b, off, none⟩) ns.length cap) ns := hX5.sl.chg (M := fun k => k = g3) ((Chg.refl (fun k => k = g3) w5).setCell (p := ⟨g3, rs'.length * 3 + 2, none⟩) rfl _) (fun k hk e => by cases hk; exact hbg e)
          have hbl5 : Below w.heap.size w (w5.setCell ⟨g3, rs'.length * 3 + 2, none⟩ (.int .i64 ((m + 1 : Nat) : Int))) := hX5.below.setCell (p := ⟨g3, rs'.length * 3 + 2, none⟩) (Nat.le_trans hX5.le.1 (hX5.row.lt g3 rfl).1) _
          have hRm := HR.out.more him (by rw [← Hx.out]) (by rw [← Hx.out]; exact hokx) (by rw [← Hx.out]; exact who_add (by omega))
          go_roundg (ns.length - (i + 1))
          case measure => omega
          case rel => exact ⟨i + 1, rs' ++ [(d, m + 1)], by omega, by go_num, hRm, ⟨by simpa using hro, hX5.old, ⟨hX5.le.1, by have := hX5.le.2; simpa using this⟩, by simpa using hsl5, by simpa using hbl5⟩⟩
        · have hne2 : ¬ (who (d + m) = who x ∧ nth (d + m) = nth x) := fun h => hdx (dot_ext h.1 h.2)
          generalize d + m = y at *
          have hparts : (¬ ((who y : Int) = (who x : Int))) ∨ ((who y : Int) = (who x : Int) ∧ ¬ ((nth y : Int) = (nth x : Int))) := by omega
          rcases hparts with hp | ⟨hp, hp2⟩
          · have hpb : ((who y : Int) == (who x : Int)) = false := by simpa using hp
            have hpd : decide ((who y : Int) = (who x : Int)) = false := by simpa using hp
            go_region_held3 (fun w' => w'.cell? ⟨g3, rs'.length * 3, none⟩ = some (.int .i64 (who d : Int)) ∧ w'.cell? ⟨g3, rs'.length * 3 + 1, none⟩ = some (.int .i64 (nth d : Int)) ∧ w'.cell? ⟨g3, rs'.length * 3 + 2, none⟩ = some (.int .i64 (m : Int)) ∧ w'.cell? ⟨wr.heap.size, 0, none⟩ = some (.int .i64 (who x : Int)) ∧ w'.cell? ⟨wr.heap.size, 1, none⟩ = some (.int .i64 (nth x : Int))) (first | assumption | exact ⟨z0, z1, z2, z3, z4⟩ | exact h5.1) (first | (go_at_call 226; refine Calls.mono (Hat.out _ rfl rfl rfl rfl) ?_; rintro e w5 ⟨rfl, h5⟩; have e0 := h5.1.1; have e1 := h5.1.2.1; have e2 := h5.1.2.2.1; have e3 := h5.1.2.2.2.1; have e4 := h5.1.2.2.2.2))
            have hw5 : w1.heap.size ≤ w5.heap.size := Nat.le_trans hbw h5.2.1.size
            go_wp2_with (first | (at_builtin; refine wpList_append_own_at _ rfl (.tmp 41) (.tmp 44) 259 rfl w1.heap.size 249 i0 (.agg #[.int .i64 0, .int .i64 0, .int .i64 0]) 3 24 Tryz.underlying259 hi hz0 hz1 hz2 rfl (by decide) _ _ _ rfl (HO.out _ h5.2.1 _) ⟨w5.heap.size, 0, none⟩ 1 1 [.int .i64 (who x : Int), .int .i64 (nth x : Int), .int .i64 1] rfl rfl (Hcn.out _ x) (by simp [Value.oneCell']) h63 h64 (by simp; omega) ?_; intro v6 w6 ho6 hg6 hn6 hl6))
            have hfin := HA.out x Hx.out w5 h5.2.1 _ _ _ ho6 hg6
            go_roundg (ns.length - (i + 1))
            case measure => omega
            case rel => exact ⟨i + 1, _, by omega, by go_num, hfin.1, hfin.2⟩
          · have hpb : ((nth y : Int) == (nth x : Int)) = false := by simpa using hp2
            have hpd : decide ((nth y : Int) = (nth x : Int)) = false := by simpa using hp2
            go_region_held3 (fun w' => w'.cell? ⟨g3, rs'.length * 3, none⟩ = some (.int .i64 (who d : Int)) ∧ w'.cell? ⟨g3, rs'.length * 3 + 1, none⟩ = some (.int .i64 (nth d : Int)) ∧ w'.cell? ⟨g3, rs'.length * 3 + 2, none⟩ = some (.int .i64 (m : Int)) ∧ w'.cell? ⟨wr.heap.size, 0, none⟩ = some (.int .i64 (who x : Int)) ∧ w'.cell? ⟨wr.heap.size, 1, none⟩ = some (.int .i64 (nth x : Int))) (first | assumption | exact ⟨z0, z1, z2, z3, z4⟩ | exact h5.1) (first | (go_at_call 226; refine Calls.mono (Hat.out _ rfl rfl rfl rfl) ?_; rintro e w5 ⟨rfl, h5⟩; have e0 := h5.1.1; have e1 := h5.1.2.1; have e2 := h5.1.2.2.1; have e3 := h5.1.2.2.2.1; have e4 := h5.1.2.2.2.2))
            have hw5 : w1.heap.size ≤ w5.heap.size := Nat.le_trans hbw h5.2.1.size
            go_wp2_with (first | (at_builtin; refine wpList_append_own_at _ rfl (.tmp 41) (.tmp 44) 259 rfl w1.heap.size 249 i0 (.agg #[.int .i64 0, .int .i64 0, .int .i64 0]) 3 24 Tryz.underlying259 hi hz0 hz1 hz2 rfl (by decide) _ _ _ rfl (HO.out _ h5.2.1 _) ⟨w5.heap.size, 0, none⟩ 1 1 [.int .i64 (who x : Int), .int .i64 (nth x : Int), .int .i64 1] rfl rfl (Hcn.out _ x) (by simp [Value.oneCell']) h63 h64 (by simp; omega) ?_; intro v6 w6 ho6 hg6 hn6 hl6))
            have hfin := HA.out x Hx.out w5 h5.2.1 _ _ _ ho6 hg6
            go_roundg (ns.length - (i + 1))
            case measure => omega
            case rel => exact ⟨i + 1, _, by omega, by go_num, hfin.1, hfin.2⟩
    · have e : i = ns.length := by omega
      subst e
      clear hR hX
      go_wp2_with fail
      go_ret
      exact ⟨_, ns, rs, rfl, HN.out.1, HN.out.2, HR.out, ownsRow_base HX.out.row HX.out.le.1, HX.out.below⟩

def textB (p : ByteArray) (a : UInt8) (v : ByteArray) (n : Int) : Thk.Bs := toL p ++ [a] ++ toL v ++ (if a.toNat = 62 then Lib.itoa n else [])

theorem toL_app (a b : ByteArray) : toL (a ++ b) = toL a ++ toL b := by unfold toL; simp [ByteArray.data_append]

set_option maxHeartbeats 4000000 in
set_option maxRecDepth 100000 in
theorem Text_any (w : World) (hG : Glob w) (p v : ByteArray) (a : UInt8) (n : Int) (ha : a = 43 ∨ a = 94 ∨ a = 61 ∨ a = 62) (hn : -9223372036854775808 ≤ n ∧ n ≤ 9223372036854775807) (hp : p.size ≤ 1048576) (hv : v.size ≤ 1048576) :
    Calls Tryz.prog 204 #[.agg #[.string p, .int .u8 (a.toNat : Int), .string v, .int .i64 n]] w fun e w' => ∃ s, e = .returned (.string s) ∧ toL s = textB p a v n ∧ Below w.heap.size w w' := by
  have HG : Hid (Glob w) := hG
  have HF : Hid (∀ wx, Below w.heap.size w wx → Calls Tryz.prog 161 #[.int .i64 n, .int .i64 10] wx fun e w' => e = .returned (.string ⟨(Lib.itoa n).toArray⟩) ∧ Below w.heap.size w w') := fun wx hb => by
    refine Calls.mono (Tryz.strconv_FormatInt_10 n hn.1 hn.2 wx (hG.mono hb).tab) ?_
    rintro e w' ⟨rfl, k, os, rfl⟩
    exact ⟨rfl, grow_below (below_drewN hb k) (by have := hb.size; simpa using this) os⟩
  clear hG
  have hit : (Lib.itoa n).length ≤ 1000 := Nat.le_trans (Lib.itoa_length_le n hn.1 hn.2) (by decide)
  rcases ha with rfl | rfl | rfl | rfl
  · have he : Utf8.encode 43 = ⟨#[43]⟩ := by rfl
    have hs1 : p.size + (Utf8.encode 43).size ≤ 9223372036854775807 := by rw [he]; show p.size + 1 ≤ _; omega
    have hs2 : (p ++ Utf8.encode 43).size + v.size ≤ 9223372036854775807 := by rw [ByteArray.size_append, he]; show p.size + 1 + v.size ≤ _; omega
    have Ht : Hid (toL (p ++ Utf8.encode 43 ++ v) = toL p ++ [43] ++ toL v) := by unfold Hid; rw [toL_app, toL_app, he]; (first | done | rfl)
    clear he
    go_enter Tryz.func204, Tryz.ntmps204
    go_wp2_with fail
    go_ret
    refine ⟨_, rfl, ?_, by go_grown⟩
    rw [Ht.out]
    unfold textB
    rw [if_neg (by decide), List.append_nil]
  · have he : Utf8.encode 94 = ⟨#[94]⟩ := by rfl
    have hs1 : p.size + (Utf8.encode 94).size ≤ 9223372036854775807 := by rw [he]; show p.size + 1 ≤ _; omega
    have hs2 : (p ++ Utf8.encode 94).size + v.size ≤ 9223372036854775807 := by rw [ByteArray.size_append, he]; show p.size + 1 + v.size ≤ _; omega
    have Ht : Hid (toL (p ++ Utf8.encode 94 ++ v) = toL p ++ [94] ++ toL v) := by unfold Hid; rw [toL_app, toL_app, he]; (first | done | rfl)
    clear he
    go_enter Tryz.func204, Tryz.ntmps204
    go_wp2_with fail
    go_ret
    refine ⟨_, rfl, ?_, by go_grown⟩
    rw [Ht.out]
    unfold textB
    rw [if_neg (by decide), List.append_nil]
  · have he : Utf8.encode 61 = ⟨#[61]⟩ := by rfl
    have hs1 : p.size + (Utf8.encode 61).size ≤ 9223372036854775807 := by rw [he]; show p.size + 1 ≤ _; omega
    have hs2 : (p ++ Utf8.encode 61).size + v.size ≤ 9223372036854775807 := by rw [ByteArray.size_append, he]; show p.size + 1 + v.size ≤ _; omega
    have Ht : Hid (toL (p ++ Utf8.encode 61 ++ v) = toL p ++ [61] ++ toL v) := by unfold Hid; rw [toL_app, toL_app, he]; (first | done | rfl)
    clear he
    go_enter Tryz.func204, Tryz.ntmps204
    go_wp2_with fail
    go_ret
    refine ⟨_, rfl, ?_, by go_grown⟩
    rw [Ht.out]
    unfold textB
    rw [if_neg (by decide), List.append_nil]
  · have he : Utf8.encode 62 = ⟨#[62]⟩ := by rfl
    have hs1 : p.size + (Utf8.encode 62).size ≤ 9223372036854775807 := by rw [he]; show p.size + 1 ≤ _; omega
    have hs2 : (p ++ Utf8.encode 62).size + v.size ≤ 9223372036854775807 := by rw [ByteArray.size_append, he]; show p.size + 1 + v.size ≤ _; omega
    have Ht : Hid (toL (p ++ Utf8.encode 62 ++ v) = toL p ++ [62] ++ toL v) := by unfold Hid; rw [toL_app, toL_app, he]; (first | done | rfl)
    have hs3 : (p ++ Utf8.encode 62 ++ v).size + (Lib.itoa n).toArray.size ≤ 9223372036854775807 := by rw [ByteArray.size_append, ByteArray.size_append, he]; show p.size + 1 + v.size + _ ≤ _; have := hit; simp at this ⊢; omega
    have hs3' : (p ++ Utf8.encode 62 ++ v).size + (⟨(Lib.itoa n).toArray⟩ : ByteArray).size ≤ 9223372036854775807 := hs3
    clear he
    go_enter Tryz.func204, Tryz.ntmps204
    go_wp2_with fail
    refine Calls.mono (HF.out _ ((Below.refl _ w).alloc (Nat.le_refl _) _)) ?_
    rintro e w1 ⟨rfl, hb1⟩
    have HB : Hid (Below w.heap.size w w1) := hb1
    clear hb1
    go_wp2_with fail
    go_ret
    refine ⟨_, rfl, ?_, HB.out⟩
    rw [toL_app, Ht.out]
    unfold textB
    rw [if_pos (show UInt8.toNat 62 = 62 from rfl)]
    rfl
end Go.Proofs.YtoiiaankpnhppaaGreatDoor
namespace Go.Proofs.YtoiiaankpnhppaaGreatDoor
open Go.RowKit Go.Maps Go.ChangeMaps Go.MapKept

theorem MapV.count {P : Program} {k : TypeId} {w : World} {b N : Nat} {m : Value → Option Value} (h : MapV P k w b N m) (K : Keyed P k) : ∃ l : List Value, l.Nodup ∧ l.length = N ∧ ∀ key, key ∈ l ↔ m key ≠ none := by
  obtain ⟨D, h1, h2, h3⟩ := h
  obtain ⟨es, clock, hb, F, hs, rfl⟩ := h1
  refine ⟨es.toList.map (·.key), ?_, ?_, fun key => ⟨fun hk => ?_, fun hk => ?_⟩⟩
  · rw [List.nodup_iff_pairwise_ne, List.pairwise_map]
    exact ((stamped_iff es clock).1 F.stamped).2.2
  · rw [← h2]
    simp only [Maps.size, length_sorted, List.length_map, Array.length_toList]
  · obtain ⟨x, hx, rfl⟩ := List.mem_map.1 hk
    obtain ⟨y, hy⟩ := F.reads x hx
    have hkey := WideElems.rd_key hy
    have hh := (h3.1 _ _ hkey).1
    have : Maps.has (DataW.map ((es.toList.map (WideElems.rg P k idR)).foldr DataW.insert [])) y.1 = true :=
      List.any_eq_true.2 ⟨WideElems.rg P k idR x, mem_sorted.2 (List.mem_map.2 ⟨x, hx, rfl⟩), by rw [WideElems.rg_of hy]; exact WideAt.sameKey_self (K.key hkey)⟩
    rw [this] at hh
    intro e
    rw [e] at hh
    cases hh
  · have hs : (m key).isSome = true := by cases hm : m key with
      | none => exact absurd hm hk
      | some v => rfl
    obtain ⟨kl, hkl⟩ := h3.2 key hs
    have hh := (h3.1 _ _ hkl).1
    rw [hs] at hh
    obtain ⟨p, hp, hpk⟩ := List.any_eq_true.1 hh
    obtain ⟨x, hx, rfl⟩ := List.mem_map.1 (mem_sorted.1 hp)
    obtain ⟨y, hy⟩ := F.reads x hx
    rw [WideElems.rg_of hy] at hpk
    have e := WideAt.sameKey_eq hpk
    have hkey := WideElems.rd_key hy
    rw [e] at hkey
    exact List.mem_map.2 ⟨x, hx, K.inj hkey hkl⟩
theorem dotE_list : ∀ l : List Value, (∀ v ∈ l, ∃ n, v = dotE n) → ∃ ns : List Nat, l = ns.map dotE
  | [], _ => ⟨[], rfl⟩
  | v :: l, h => by
    obtain ⟨n, rfl⟩ := h v (by simp)
    obtain ⟨ns, rfl⟩ := dotE_list l (fun v hv => h v (by simp [hv]))
    exact ⟨n :: ns, rfl⟩
theorem im_count {w : World} {v : Value} {N : Nat} {It : Nat → Option Value} (h : MapO Tryz.prog 121 w v N (im It)) : ∃ ns : List Nat, ns.Nodup ∧ ns.length = N ∧ ∀ n, n ∈ ns ↔ It n ≠ none := by
  rcases h with ⟨rfl, rfl, h⟩ | ⟨b, rfl, h⟩
  · exact ⟨[], List.nodup_nil, rfl, fun n => ⟨fun h => (List.not_mem_nil h).elim, fun hn => by rw [← im_dot It n, h] at hn; exact absurd rfl hn⟩⟩
  · obtain ⟨l, h1, h2, h3⟩ := h.count kDot
    obtain ⟨ns, rfl⟩ := dotE_list l (fun v hv => by
      have := (h3 v).1 hv
      cases e : im It v with
      | none => exact absurd e this
      | some u => obtain ⟨n, hn, _⟩ := im_shape e; exact ⟨n, hn⟩)
    refine ⟨ns, ?_, by simpa using h2, fun n => ?_⟩
    · exact (List.nodup_iff_pairwise_ne.1 h1 |> List.pairwise_map.1).imp (fun h e => h (by rw [e]))
    · rw [← im_dot It n, ← h3]
      constructor
      · intro hn; exact List.mem_map_of_mem hn
      · intro hn
        obtain ⟨k, hk, e⟩ := List.mem_map.1 hn
        rw [← dotE_inj e]; exact hk
theorem own_base {w : World} {B B' : Nat} {e : TypeId} {size : Nat} {v : Value} {n : Nat} {xs : List Value} (h : w.ownsRow B e size v n xs) (hB : B' ≤ B) : w.ownsRow B' e size v n xs := by
  obtain ⟨hl, h⟩ := h
  refine ⟨hl, h.imp_right ?_⟩
  rintro ⟨g, cap, cur, h1, h2, h3⟩
  exact ⟨g, cap, cur, h1, Nat.le_trans hB h2, h3⟩

set_option maxHeartbeats 4000000 in
set_option maxRecDepth 100000 in
theorem sRuns_any (w : World) (io co lo : Option Nat) (c : Nat → Nat) (L : Nat → Bool) (h : CtxV w (.map co) (.map lo) c L) :
    Calls Tryz.prog 200 #[.agg #[.map io, .map co, .map lo]] w fun e w' => ∃ v ns rs, e = .returned v ∧ ns.Nodup ∧ (∀ d, d ∈ ns ↔ 1 ≤ nth d ∧ inK c L d) ∧ Runs ns ns.length rs ∧ w'.ownsRow w.heap.size 249 3 v rs.length (rcells rs) ∧ Below w.heap.size w w' := by
  have Hc : Hid (∀ ob, Calls Tryz.prog 228 #[.agg #[.map co, .map lo]] (w.alloc ob) fun e w' => ∃ v ns rs, e = .returned v ∧ ns.Nodup ∧ (∀ d, d ∈ ns ↔ 1 ≤ nth d ∧ inK c L d) ∧ Runs ns ns.length rs ∧ w'.ownsRow w.heap.size 249 3 v rs.length (rcells rs) ∧ Below w.heap.size w w') := fun ob => by
    have hb : Below w.heap.size w (w.alloc ob) := (Below.refl _ w).alloc (Nat.le_refl _) _
    refine Calls.mono (runs_any _ co lo c L (h.below hb)) ?_
    rintro e w' ⟨v, ns, rs, rfl, h1, h2, h3, h4, h5⟩
    exact ⟨v, ns, rs, rfl, h1, h2, h3, own_base h4 (by simp), hb.trans (h5.mono hb.size)⟩
  clear h
  go_enter Tryz.func200, Tryz.ntmps200
  go_wp2_with fail
  refine Calls.mono (Hc.out _) ?_
  rintro e w2 ⟨v, ns, rs, rfl, h1, h2, h3, h4, h5⟩
  have HH : Hid (_) := And.intro h1 (And.intro h2 (And.intro h3 (And.intro h4 h5)))
  clear h1 h2 h3 h4 h5
  go_wp2
  go_ret
  exact ⟨v, ns, rs, rfl, HH.out⟩

set_option maxHeartbeats 4000000 in
set_option maxRecDepth 100000 in
theorem sItems_any (w : World) (io co lo : Option Nat) (N : Nat) (m : Value → Option Value) (h : MapO Tryz.prog 121 w (.map io) N m) :
    Calls Tryz.prog 202 #[.agg #[.map io, .map co, .map lo]] w fun e w' => e = .returned (.int .i64 (N : Int)) ∧ Below w.heap.size w w' := by
  have HL : Hid (∀ ob ty, (Builtin.len_ #[100] ty #[.map io]).run Tryz.prog (w.alloc ob) = .ok (.int .i64 (N : Int)) (w.alloc ob)) := fun ob ty => (h.below ((Below.refl _ w).alloc (Nat.le_refl _) _)).len Tryz.underlying100 ty
  have hb : ∀ ob, Below w.heap.size w (w.alloc ob) := fun ob => (Below.refl _ w).alloc (Nat.le_refl _) _
  clear h
  go_enter Tryz.func202, Tryz.ntmps202
  go_wp2_with fail
  rw [HL.out]
  go_wp2
  go_ret
  exact ⟨rfl, hb _⟩

set_option maxHeartbeats 4000000 in
set_option maxRecDepth 100000 in
theorem ahead_any (w : World) (a k : Nat) (ac : Bool) (v2 v3 v4 : Value) (ha : a ≤ 5) (hk : k ≤ 1) :
    Calls Tryz.prog 146 #[.agg #[.int .i64 (a : Int), .bool ac, v2, v3, v4], .int .i64 (k : Int)] w fun e w' => ∃ v', e = .returned v' ∧ OutV w.heap.size w' v' (encN k ++ encN a) ∧ OutF w.heap.size w w' := by
  have hen := encN_len k
  have hz : Hid (([] : Thk.Bs) ++ encN k ++ encN a = encN k ++ encN a) := by unfold Hid; rw [List.nil_append]
  have kb := Blk.new w #[.int .i64 (a : Int), .bool ac, v2, v3, v4] 108
  have HF0 : Hid (OutF w.heap.size w (w.alloc (.cells #[.int .i64 (a : Int), .bool ac, v2, v3, v4] 108))) := OutF.of_below ((Below.refl _ w).alloc (Nat.le_refl _) _)
  go_enter Tryz.func146, Tryz.ntmps146
  go_wp2_with fail
  generalize w.alloc (.cells #[.int .i64 (a : Int), .bool ac, v2, v3, v4] 108) = w0 at *
  have c0 : w0.cell? ⟨w.heap.size, 0, none⟩ = some (.int .i64 (a : Int)) := (kb.cell 0).trans rfl
  have HN : ∀ (m : Nat) (lu : Thk.Bs) wx w3 u, (OutV w.heap.size w3 u lu ∧ OutF w.heap.size w w3 ∧ Blk w3 w.heap.size #[.int .i64 (a : Int), .bool ac, v2, v3, v4] 108) → lu.length ≤ 1000000 → m < 16384 → wx.heap = w3.heap → wx.os = w3.os → wx.tape = w3.tape → wx.output = w3.output → Calls Tryz.prog 199 #[u, .int .i64 (m : Int)] wx fun e w' => ∃ v', e = .returned v' ∧ (OutV w.heap.size w' v' (lu ++ encN m) ∧ OutF w.heap.size w w' ∧ Blk w' w.heap.size #[.int .i64 (a : Int), .bool ac, v2, v3, v4] 108) ∧ w'.cell? ⟨w.heap.size, 0, none⟩ = some (.int .i64 (a : Int)) := fun m lu wx w3 u hall hlu hm hx ho ht hp => by
    obtain ⟨hu, hF, hk⟩ := hall
    have hF' : OutF w.heap.size w wx := hF.trans (OutF.heap hx ho ht hp)
    have kx : Blk wx w.heap.size #[.int .i64 (a : Int), .bool ac, v2, v3, v4] 108 := by unfold Blk; rw [hx]; exact hk
    refine Calls.mono (Number_any w.heap.size wx u _ m (hu.heap hx) hF'.size hlu hm) ?_
    rintro e w' ⟨v', rfl, h1, h2⟩
    have kx' := h2.blk kx (by decide)
    exact ⟨v', rfl, ⟨h1, hF'.trans h2, kx'⟩, (kx'.cell 0).trans rfl⟩
  have HN1 : Hid (∀ wx, wx.heap = w0.heap → wx.os = w0.os → wx.tape = w0.tape → wx.output = w0.output → Calls Tryz.prog 199 #[.slice none 0 0, .int .i64 (k : Int)] wx _) := fun wx => HN k [] wx w0 (.slice none 0 0) ⟨OutV.nil _ _, HF0.out, kb⟩ (by simp) (by omega)
  have HN2 : Hid (∀ wx w3 u, (OutV w.heap.size w3 u ([] ++ encN k) ∧ OutF w.heap.size w w3 ∧ Blk w3 w.heap.size #[.int .i64 (a : Int), .bool ac, v2, v3, v4] 108) → wx.heap = w3.heap → wx.os = w3.os → wx.tape = w3.tape → wx.output = w3.output → Calls Tryz.prog 199 #[u, .int .i64 (a : Int)] wx _) := fun wx w3 u hall => HN a _ wx w3 u hall (by simp; omega) (by omega)
  clear kb hen HF0 HN
  go_region_held3 (fun w' => w'.cell? ⟨w.heap.size, 0, none⟩ = some (.int .i64 (a : Int))) (first | assumption | exact c0) (first | (go_at_call 199; refine Calls.mono (HN2.out _ w3 _ h3 rfl rfl rfl rfl) ?_; rintro e w4 ⟨v4, rfl, h4, f0⟩) | (go_at_call 199; refine Calls.mono (HN1.out _ rfl rfl rfl rfl) ?_; rintro e w3 ⟨v3, rfl, h3, e0⟩))
  go_wp2_with fail
  go_ret
  rw [hz.out] at h4
  exact ⟨_, rfl, h4.1, h4.2.1⟩
end Go.Proofs.YtoiiaankpnhppaaGreatDoor

