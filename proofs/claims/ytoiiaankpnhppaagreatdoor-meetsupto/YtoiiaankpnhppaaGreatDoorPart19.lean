import Derived.Test.YtoiiaankpnhppaaGreatDoorPart04
import Derived.Test.YtoiiaankpnhppaaGreatDoorPart18
set_option linter.unusedVariables false
set_option linter.unusedSimpArgs false
namespace Go.Proofs.YtoiiaankpnhppaaGreatDoor
open Go.RowKit Go.Deep

theorem Tryz.infoFrame : (Tryz.prog.info? 201).map (fun i => (i.zero, i.size, i.bytes)) = some (some (.agg #[.int .i64 0, .int .i64 0, .int .i64 0, .slice none 0 0, .int .i64 0, .slice none 0 0, .int .i64 0, .bool false, .int .i64 0]), 9, 104) := by kernel_rfl

section
variable {w w6 : World} {c rb : Nat} {evv fv fv' : Value} {av : Nat → Value} {room : Nat} {es : List Ev} {acc most : Nat} {knowns : List (List Bool)} {fs : List FrD}
theorem RefAt.most_mono (h : RefAt w c rb evv fv av room es acc most knowns) {most' : Nat} (hm : most ≤ most') (h2 : most' ≤ 1000) : RefAt w c rb evv fv av room es acc most' knowns :=
  ⟨h.tc, h.trb, h.room50, h.n6, h.n500, h.f0, h.f1, h.f2, h.f3, h.a500, h2, h.evs, h.ok, fun i hi => (h.reps i hi).keep hm (fun _ _ _ _ h => h) (fun _ _ => rfl), h.kn, h.f4, h.a11⟩
theorem RefAt.setF (h : RefAt w c rb evv fv av room es acc most knowns) (fv' : Value) : RefAt (w.setCell ⟨c, 4, none⟩ fv') c rb evv fv' av room es acc most knowns := by
  have hc : Chg (fun x => x = c) w (w.setCell ⟨c, 4, none⟩ fv') := (Chg.refl (fun x => x = c) w).setCell (p := ⟨c, 4, none⟩) rfl _
  have hne : c ≠ rb := h.tc.ne h.trb (by decide)
  have hS : ∀ t v xs, (t = 4 ∨ t = 3) → SliceT t w v xs → SliceT t (w.setCell ⟨c, 4, none⟩ fv') v xs := fun t v xs ht hs => hs.chgT hc h.tc (by rcases ht with rfl | rfl <;> decide)
  obtain ⟨cap, f1, hcap⟩ := h.f1
  obtain ⟨svs, e1, e2, e3⟩ := h.evs
  exact ⟨h.tc.setCell _ _, h.trb.setCell _ _, h.room50, h.n6, h.n500, (cs_oth (Or.inr (by omega))).trans h.f0, ⟨cap, (cs_oth (Or.inr (by omega))).trans f1, hcap⟩, (cs_oth (Or.inr (by omega))).trans h.f2, (cs_oth (Or.inr (by omega))).trans h.f3, h.a500, h.m500,
    ⟨svs, e1, ownsRow_chg e2 hc (fun g hg e => ((h.evLt g hg).2.ne h.tc (by decide)) e), fun j a b => hS _ _ _ (Or.inl rfl) (e3 j a b)⟩, h.ok, fun i hi => (h.reps i hi).keep (Nat.le_refl _) hS (fun j _ => cs_oth (Or.inl hne)), h.kn, cs_same h.f4, fun i hi => (cs_oth (Or.inl hne)).trans (h.a11 i hi)⟩
theorem fr_more (h : RefAt w c rb evv fv av room es acc most knowns) (hf : FrAt w fv fs) (hc : Chg (fun k => fv.ownBlock = some k) w w6) (f : FrD) (x : FrX) (hok : FrOK w f x) (xs : List FrX) (hxl : xs.length = fs.length) (hxs : ∀ j (h : j < fs.length) (h' : j < xs.length), FrOK w fs[j] xs[j])
    (ho : w6.ownsRow 0 201 9 fv' (fs.length + 1) (frCells fs xs ++ frRow f x)) : RefAt (w6.setCell ⟨c, 4, none⟩ fv') c rb evv fv' av room es acc most knowns ∧ FrAt (w6.setCell ⟨c, 4, none⟩ fv') fv' (fs ++ [f]) := by
  have hno : ∀ {k : Nat} {t : TypeId}, Tagged w k t → t ≠ 201 → ¬ fv.ownBlock = some k := fun ht hne hk => Tagged.ne ht (hf.tag _ hk) hne rfl
  have hik : IntsKept w w6 := IntsKept.of_chg hc (fun b hb => hno hb (by decide))
  have hbo : ∀ b, Tagged w b 4 → ¬ fv.ownBlock = some b := fun b hb => hno hb (by decide)
  have h6 := h.chg hc (hno h.tc (by decide)) (hno h.trb (by decide)) (fun g hg => hno (h.evLt g hg).2 (by decide)) hbo hik
  have t6 := h6.tc
  have hcs : Chg (fun x => x = c) w6 (w6.setCell ⟨c, 4, none⟩ fv') := (Chg.refl (fun x => x = c) w6).setCell (p := ⟨c, 4, none⟩) rfl _
  have hno6 : ∀ b, Tagged w6 b 4 → ¬ b = c := fun b hb e => Tagged.ne hb t6 (by decide) e
  have hik6 : IntsKept w6 (w6.setCell ⟨c, 4, none⟩ fv') := IntsKept.of_chg hcs (fun b hb e => Tagged.ne hb t6 (by decide) e)
  refine ⟨h6.setF fv', xs ++ [x], by simp [hxl], ?_, fun j h1 h2 => ?_⟩
  · rw [frCells_snoc fs xs f x hxl, List.length_append, List.length_singleton]
    exact ownsRow_chg ho hcs (fun g hg e => Tagged.ne (own_tag ho g hg) t6 (by decide) e)
  · by_cases hj : j < fs.length
    · have e1 : (fs ++ [f])[j] = fs[j] := List.getElem_append_left hj
      have e2 : (xs ++ [x])[j] = xs[j]'(by omega) := List.getElem_append_left (by omega)
      rw [e1, e2]
      exact ((hxs j hj (by omega)).chg hc hbo hik).chg hcs hno6 hik6
    · have hje : j = fs.length := by simp at h1; omega
      have e1 : (fs ++ [f])[j] = f := by rw [List.getElem_append_right (by omega)]; simp
      have e2 : (xs ++ [x])[j] = x := by rw [List.getElem_append_right (by omega)]; simp
      rw [e1, e2]
      exact (hok.chg hc hbo hik).chg hcs hno6 hik6
theorem RefAt.frNo (h : RefAt w c rb evv fv av room es acc most knowns) (hf : FrAt w fv fs) : fv.ownBlock ≠ some c := fun e => Tagged.ne (hf.tag c e) h.tc (by decide) rfl
end
theorem nats_ints (l : List Nat) : nats l = ints (l.map fun (n : Nat) => (n : Int)) := by unfold nats ints; rw [List.map_map]; (first | done | rfl)

set_option maxHeartbeats 16000000 in
set_option maxRecDepth 100000 in
theorem RefSend_ok (w : World) (c rb : Nat) (evv fv : Value) (av : Nat → Value) (room : Nat) (es : List Ev) (acc most : Nat) (knowns : List (List Bool)) (h : RefAt w c rb evv fv av room es acc most knowns) (fs : List FrD) (hf : FrAt w fv fs) (k k' : Nat) (hk : k < knowns.length) (hk' : k' < knowns.length) (hkk : k ≠ k') (h5 : fs.length < 500)
    (hcnt : ∀ f ∈ fs, f.ack = 0 → f.src = k → cnt f.known ≤ cnt knowns[k]) (hav : ∃ ao n c, av k = .slice ao n c) (b : ByteArray) :
    Calls Tryz.prog 88 #[.pointer (some ⟨c, 0, none⟩), .int .i64 (k : Int), .int .i64 (k' : Int)] w fun e w' => e = .returned (.tuple #[.int .i64 ((fs.length : Int) + 1), .int .i64 0]) ∧ ∃ fv', RefAt w' c rb evv fv' av room es acc most knowns ∧ FrAt w' fv' (fs ++ [⟨k, k', 0, knowns[k], b⟩]) ∧
      Chg (fun x => x = c ∨ fv.ownBlock = some x) w w' ∧ (∀ g, fv'.ownBlock = some g → fv.ownBlock = some g ∨ w.heap.size ≤ g) := by
  have H : Hid (RefAt w c rb evv fv av room es acc most knowns) := h
  have HF : Hid (FrAt w fv fs) := hf
  obtain ⟨iR, hiR, hzR0, hzR1, hzR2⟩ := info_parts Tryz.infoFrame
  obtain ⟨cap, f1, hcap⟩ := h.f1
  have h6 := h.n6
  obtain ⟨⟨kv, a0, b0⟩, a1, a7, ⟨m9, a9, b9⟩, ⟨kp, kl, a10, b10, d10⟩, ⟨m12, a12, b12⟩, ⟨a2, a3, a4, a5, a6, a8⟩⟩ := h.reps k hk
  have a11 := h.a11 k hk
  have hknl : knowns[k].length ≤ 500 := by have := h.kn _ (List.getElem_mem hk); have := h.n500; omega
  obtain ⟨fo, fc, hfv, hfc⟩ := hf.shape
  have f4 : w.cell? ⟨c, 4, none⟩ = some (.slice fo fs.length fc) := by rw [← hfv]; exact h.f4
  obtain ⟨ko, kc, hkv, hkc⟩ := b0.shape
  have hkvl : (bools knowns[k]).length = knowns[k].length := by simp [bools]
  rw [hkvl] at hkv hkc
  obtain ⟨kpo, kpc, hkp, _⟩ := b10.shape
  have hee := h.evsIn
  have HU : Hid (∀ i : Int, (0 ≤ i ∧ i < knowns.length) → Calls Tryz.prog 83 #[.pointer (some ⟨c, 0, none⟩), .int .i64 i] w fun e w' => e = .returned (.int .i64 0) ∧ w' = w) := fun i hi => by
    have := Up_any w c rb evv fv av room es acc most knowns h i
    rw [if_pos hi] at this; exact this
  obtain ⟨ako, akn, akc, hak⟩ := hav
  rw [hak] at a11
  clear hak
  -- the copies
  obtain ⟨W1, hW1⟩ : ∃ W1, W1 = w.alloc (.cells #[.slice ko knowns[k].length kc, .bool false, .slice none 0 0, .slice none 0 0, .bool false, .int .i64 0, .int .i64 0, .bool false, .int .i64 0, .int .i64 (m9 : Int), .slice kpo (ints kl).length kpc, .slice ako akn akc, .int .i64 (m12 : Int)] 147) := ⟨_, rfl⟩
  have hb1 : Below w.heap.size w W1 := by rw [hW1]; exact (Below.refl _ w).alloc (Nat.le_refl _) _
  have k1 : Blk W1 w.heap.size #[.slice ko knowns[k].length kc, .bool false, .slice none 0 0, .slice none 0 0, .bool false, .int .i64 0, .int .i64 0, .bool false, .int .i64 0, .int .i64 (m9 : Int), .slice kpo (ints kl).length kpc, .slice ako akn akc, .int .i64 (m12 : Int)] 147 := by rw [hW1]; exact Blk.new w _ _
  have hs1 : W1.heap.size = w.heap.size + 1 := by rw [hW1]; simp
  obtain ⟨W2, hW2⟩ : ∃ W2, W2 = W1.alloc (.cells #[.int .i64 (k : Int), .int .i64 (k' : Int), .int .i64 0, .slice ko knowns[k].length kc, .int .i64 (m9 : Int), .slice none 0 0, .int .i64 (m12 : Int), .bool false, .int .i64 0] 201) := ⟨_, rfl⟩
  have hb12 : Below W1.heap.size W1 W2 := by rw [hW2]; exact (Below.refl _ W1).alloc (Nat.le_refl _) _
  have hb2 : Below w.heap.size w W2 := hb1.trans (hb12.mono hb1.size)
  have k2 : Blk W2 (w.heap.size + 1) #[.int .i64 (k : Int), .int .i64 (k' : Int), .int .i64 0, .slice ko knowns[k].length kc, .int .i64 (m9 : Int), .slice none 0 0, .int .i64 (m12 : Int), .bool false, .int .i64 0] 201 := by rw [hW2, ← hs1]; exact Blk.new W1 _ _
  have k1' := k1.below hb12
  have hs2 : W2.heap.size = w.heap.size + 2 := by rw [hW2]; simp [hs1]
  have HAl : Hid (∀ wx, wx.heap = W2.heap → wx.os = W2.os → wx.tape = W2.tape → wx.output = W2.output → Calls Tryz.prog 139 #[evv, .slice ko knowns[k].length kc] wx fun e w' => ∃ ao n cc, e = .returned (.slice ao n cc) ∧ (∃ l : List Int, l.length ≤ 500 ∧ l.length = n ∧ SliceT 3 w' (.slice ao n cc) (ints l) ∧ Below W2.heap.size W2 w') ∧ (∀ j, w'.frozen? ⟨w.heap.size + 1, j, none⟩ = false) ∧ w'.cell? ⟨w.heap.size + 1, 5, none⟩ = some (.slice none 0 0) ∧ w'.cell? ⟨c, 2, none⟩ = some evv ∧ w'.cell? ⟨w.heap.size, 0, none⟩ = some (.slice ko knowns[k].length kc)) := fun wx hx ho ht hp => by
    have hbx : Below W2.heap.size W2 wx := ⟨ho, ht, hp, by rw [hx]; exact Nat.le_refl _, fun k _ => by rw [hx]⟩
    have hbw : Below w.heap.size w wx := hb2.trans (hbx.mono hb2.size)
    have n500 := h.n500
    refine Calls.mono (Alive_any evv es (.slice ko knowns[k].length kc) knowns[k] wx (by omega) (by omega) ((hee.below hbw).mono hbw.size) (by rw [← hkv]; exact (b0.below hbw).toIn) h.ok) ?_
    rintro e w' ⟨v, rfl, ho2, hb9⟩
    have hs := own_sliceT ho2
    obtain ⟨ao, cc, rfl, _⟩ := hs.shape
    have hl : (nats (aliveTo es knowns[k] es.length)).length = (aliveTo es knowns[k] es.length).length := by simp [nats]
    rw [hl] at hs ⊢
    have hle := aliveTo_le es knowns[k] es.length
    have hbb : Below W2.heap.size W2 w' := hbx.trans (hb9.mono hbx.size)
    have kk := k2.below hbb
    have kk1 := k1'.below hbb
    refine ⟨ao, _, cc, rfl, ⟨(aliveTo es knowns[k] es.length).map (fun (n : Nat) => (n : Int)), by simp; omega, by simp, ?_, hbb⟩, kk.frozen, (kk.cell 5).trans rfl, ?_, (kk1.cell 0).trans rfl⟩
    · rw [← nats_ints]; exact hs
    · rw [hbb.cell (p := ⟨c, 2, none⟩) (show c < W2.heap.size by have := h.tc.lt; omega), hb2.cell (p := ⟨c, 2, none⟩) h.tc.lt]; exact h.f2
  have c2 : W2.cell? ⟨c, 2, none⟩ = some evv := by rw [hb2.cell (p := ⟨c, 2, none⟩) h.tc.lt]; exact h.f2
  have d0 := (k1'.cell 0).trans rfl
  have e1c := (k1.cell 0).trans rfl
  have e9c := (k1.cell 9).trans rfl
  have e12c := (k1.cell 12).trans rfl
  have HW1 : Hid (w.alloc (.cells #[.slice ko knowns[k].length kc, .bool false, .slice none 0 0, .slice none 0 0, .bool false, .int .i64 0, .int .i64 0, .bool false, .int .i64 0, .int .i64 (m9 : Int), .slice kpo (ints kl).length kpc, .slice ako akn akc, .int .i64 (m12 : Int)] 147) = W1) := hW1.symm
  have HW2 : Hid (W1.alloc (.cells #[.int .i64 (k : Int), .int .i64 (k' : Int), .int .i64 0, .slice ko knowns[k].length kc, .int .i64 (m9 : Int), .slice none 0 0, .int .i64 (m12 : Int), .bool false, .int .i64 0] 201) = W2) := hW2.symm
  have HK2 : Hid (Blk W2 (w.heap.size + 1) #[.int .i64 (k : Int), .int .i64 (k' : Int), .int .i64 0, .slice ko knowns[k].length kc, .int .i64 (m9 : Int), .slice none 0 0, .int .i64 (m12 : Int), .bool false, .int .i64 0] 201) := k2
  have Hb2 : Hid (Below w.heap.size w W2) := hb2
  have Hb0 : Hid (SliceT 4 w (.slice ko knowns[k].length kc) (bools knowns[k])) := by rw [← hkv]; exact b0
  have Hcnt : Hid (_) := hcnt
  have Hhs1 : Hid (W1.heap.size = w.heap.size + 1) := hs1
  have Hhs2 : Hid (W2.heap.size = w.heap.size + 2) := hs2
  have hij : ((k : Int) == (k' : Int)) = false := beq_eq_false_iff_ne.2 (by omega)
  subst hkv hkp
  clear h hf b0 b10 hee hW1 hW2 hb1 hb12 hb2 k1 k2 k1' hcnt hs1 hs2
  go_enter Tryz.func88, Tryz.ntmps88
  go_wp2_with fail
  refine Calls.mono (HU.out (k : Int) (by omega)) ?_
  rintro e w1 ⟨rfl, rfl⟩
  go_wp2_with fail
  refine Calls.mono (HU.out (k' : Int) (by omega)) ?_
  rintro e w1 ⟨rfl, rfl⟩
  go_wp2_with fail
  rw [HW1.out, HW2.out]
  clear a0 a1 a2 a3 a4 a5 a6 a7 a8 a9 a10 a11 a12 f1 f4 e1c e9c e12c HU hfv
  go_cut [] from 48 to 56 (fun wx => ∃ ao n cc w5, ∃ l : List Int, wx = w5.setCell ⟨w1.heap.size + 1, 5, none⟩ (.slice ao n cc) ∧ l.length ≤ 500 ∧ l.length = n ∧ SliceT 3 w5 (.slice ao n cc) (ints l) ∧ Below W2.heap.size W2 w5)
  case first =>
    go_region_law (go_simp; refine Calls.mono (HAl.out _ rfl rfl rfl rfl) ?_; rintro e w5 ⟨ao, n, cc, rfl, hl5, z5, z6, z7, z8⟩)
    all_goals
      go_wp2_with fail
      go_meet
      obtain ⟨l, q1, q2, q3, q4⟩ := hl5
      exact ⟨ao, n, cc, w5, l, rfl, q1, q2, q3, q4⟩
  case rest =>
  obtain ⟨ao, n, cc, w5, l, rfl, hl1, hl2, hl3, hb5⟩ := hcut
  subst hl2
  clear HAl c2 d0
  -- the frame's own block, and what was there
  have k5 := HK2.out.below hb5
  have k6 : Blk (w5.setCell ⟨w1.heap.size + 1, 5, none⟩ (.slice ao l.length cc)) (w1.heap.size + 1) #[.int .i64 (k : Int), .int .i64 (k' : Int), .int .i64 0, .slice ko knowns[k].length kc, .int .i64 (m9 : Int), .slice ao l.length cc, .int .i64 (m12 : Int), .bool false, .int .i64 0] 201 := by
    unfold Blk at k5 ⊢
    simp [World.setCell, Array.getElem?_modify, k5]
  have hb5w : Below w1.heap.size w1 w5 := Hb2.out.trans (hb5.mono Hb2.out.size)
  have hb6 : Below w1.heap.size w1 (w5.setCell ⟨w1.heap.size + 1, 5, none⟩ (.slice ao l.length cc)) := hb5w.setCell (p := ⟨w1.heap.size + 1, 5, none⟩) (by simp) _
  have hs6 : SliceT 3 (w5.setCell ⟨w1.heap.size + 1, 5, none⟩ (.slice ao l.length cc)) (.slice ao l.length cc) (ints l) := by
    have hll : (ints l).length = l.length := by simp [ints]
    exact hl3.chg (M := fun x => x = w1.heap.size + 1) ((Chg.refl (fun x => x = w1.heap.size + 1) w5).setCell (p := ⟨w1.heap.size + 1, 5, none⟩) rfl _) (fun b hb e => Tagged.ne hb ⟨_, k5⟩ (by decide) e)
  generalize w5.setCell ⟨w1.heap.size + 1, 5, none⟩ (.slice ao l.length cc) = W6 at *
  clear hl3 hb5 hb5w k5
  have HB6 : Hid (Below w1.heap.size w1 W6) := hb6
  have HBd : Hid (∀ wx, wx = W6 → Calls Tryz.prog 141 #[.pointer (some ⟨c, 0, none⟩), .agg #[.int .i64 (k : Int), .int .i64 (k' : Int), .int .i64 0, .slice ko knowns[k].length kc, .int .i64 (m9 : Int), .slice ao l.length cc, .int .i64 (m12 : Int), .bool false, .int .i64 0]] wx fun e w' => ∃ n : Nat, e = .returned (.int .i64 (n : Int)) ∧ 1 ≤ n ∧ n ≤ 100000 ∧ Below W6.heap.size W6 w') := fun wx hx => by
    subst hx
    have hR6 := H.out.below HB6.out
    have hll : (ints l).length = l.length := by simp [ints]
    exact bound_any wx c fv fs hR6.f4 (HF.out.below HB6.out) (by omega) ⟨k, k', 0, knowns[k], b⟩ ⟨.slice ko knowns[k].length kc, (m9 : Int), .slice ao l.length cc, (m12 : Int), false, 0⟩ (Hb0.out.below HB6.out) hknl l hs6 hl1 (fun f hf h0 hs => Hcnt.out f hf h0 hs)
  have HK6 : Hid (Blk W6 (w1.heap.size + 1) #[.int .i64 (k : Int), .int .i64 (k' : Int), .int .i64 0, .slice ko knowns[k].length kc, .int .i64 (m9 : Int), .slice ao l.length cc, .int .i64 (m12 : Int), .bool false, .int .i64 0] 201) := k6
  have j0 := (k6.cell 0).trans rfl
  have j1 := (k6.cell 1).trans rfl
  have j2 := (k6.cell 2).trans rfl
  have j3 := (k6.cell 3).trans rfl
  have j4 := (k6.cell 4).trans rfl
  have j5 := (k6.cell 5).trans rfl
  have j6 := (k6.cell 6).trans rfl
  have j7 := (k6.cell 7).trans rfl
  have j8 := (k6.cell 8).trans rfl
  have Hs6 : Hid (SliceT 3 W6 (.slice ao l.length cc) (ints l)) := hs6
  clear hb6 k6 hs6
  go_wp2_with fail
  refine Calls.mono (HBd.out _ rfl) ?_
  rintro e w7 ⟨mo, rfl, hm1, hm2, hb7⟩
  clear j0 j1 j2 j3 j4 j5 j6 j7 j8 HBd
  have k7 := HK6.out.below hb7
  have q8 := (k7.cell 8).trans rfl
  have q8f := k7.frozen
  have k8 : Blk (w7.setCell ⟨w1.heap.size + 1, 8, none⟩ (.int .i64 (mo : Int))) (w1.heap.size + 1) #[.int .i64 (k : Int), .int .i64 (k' : Int), .int .i64 0, .slice ko knowns[k].length kc, .int .i64 (m9 : Int), .slice ao l.length cc, .int .i64 (m12 : Int), .bool false, .int .i64 (mo : Int)] 201 := by
    unfold Blk at k7 ⊢
    simp [World.setCell, Array.getElem?_modify, k7]
  have hb7w : Below w1.heap.size w1 w7 := HB6.out.trans (hb7.mono HB6.out.size)
  have hb8 : Below w1.heap.size w1 (w7.setCell ⟨w1.heap.size + 1, 8, none⟩ (.int .i64 (mo : Int))) := hb7w.setCell (p := ⟨w1.heap.size + 1, 8, none⟩) (by simp) _
  have hs8 : SliceT 3 (w7.setCell ⟨w1.heap.size + 1, 8, none⟩ (.int .i64 (mo : Int))) (.slice ao l.length cc) (ints l) :=
    (Hs6.out.below hb7).chg (M := fun x => x = w1.heap.size + 1) ((Chg.refl (fun x => x = w1.heap.size + 1) w7).setCell (p := ⟨w1.heap.size + 1, 8, none⟩) rfl _) (fun b hb e => Tagged.ne hb ⟨_, k7⟩ (by decide) e)
  have HR8 : Hid (RefAt (w7.setCell ⟨w1.heap.size + 1, 8, none⟩ (.int .i64 (mo : Int))) c rb evv fv av room es acc most knowns) := H.out.below hb8
  have HF8 : Hid (FrAt (w7.setCell ⟨w1.heap.size + 1, 8, none⟩ (.int .i64 (mo : Int))) fv fs) := HF.out.below hb8
  have HO8 : Hid (FrOK (w7.setCell ⟨w1.heap.size + 1, 8, none⟩ (.int .i64 (mo : Int))) ⟨k, k', 0, knowns[k], b⟩ ⟨.slice ko knowns[k].length kc, (m9 : Int), .slice ao l.length cc, (m12 : Int), false, mo⟩) := ⟨Hb0.out.below hb8, hknl, ⟨l, hs8, hl1⟩, hm1, hm2⟩
  have Hb8 : Hid (Below w1.heap.size w1 (w7.setCell ⟨w1.heap.size + 1, 8, none⟩ (.int .i64 (mo : Int)))) := hb8
  clear hb7 hb7w hs8 Hs6 HK6 k7
  go_wp2_with fail
  clear q8 q8f
  generalize w7.setCell ⟨w1.heap.size + 1, 8, none⟩ (.int .i64 (mo : Int)) = W8 at *
  clear hb8
  obtain ⟨xs, x1, x2, x3⟩ := HF8.out
  have j0 := (k8.cell 0).trans rfl
  have j1 := (k8.cell 1).trans rfl
  have j2 := (k8.cell 2).trans rfl
  have j3 := (k8.cell 3).trans rfl
  have j4 := (k8.cell 4).trans rfl
  have j5 := (k8.cell 5).trans rfl
  have j6 := (k8.cell 6).trans rfl
  have j7 := (k8.cell 7).trans rfl
  have j8 := (k8.cell 8).trans rfl
  have g4 : W8.cell? ⟨c, 4, none⟩ = some fv := HR8.out.f4
  have gcl : c < W8.heap.size := HR8.out.tc.lt
  have gcf := HR8.out.tc.frozen
  have Hx2 : Hid (W8.ownsRow 0 201 9 fv fs.length (frCells fs xs)) := x2
  have Hx3 : Hid (∀ j (h : j < fs.length) (h' : j < xs.length), FrOK W8 fs[j] xs[j]) := x3
  have Hne : Hid (fv.ownBlock ≠ some c) := HR8.out.frNo HF8.out
  have m1 : Hid (fs.length + 1 ≤ maxLen) := by unfold Hid maxLen; omega
  have m2 : Hid ((fs.length + 1) * 104 ≤ 140737488355328) := by unfold Hid; omega
  have hone : Hid (∀ u ∈ ([.int .i64 (k : Int), .int .i64 (k' : Int), .int .i64 0, .slice ko knowns[k].length kc, .int .i64 (m9 : Int), .slice ao l.length cc, .int .i64 (m12 : Int), .bool false, .int .i64 (mo : Int)] : List Value), u.oneCell' = true) := by
    intro u hu
    simp only [List.mem_cons, List.mem_nil_iff, or_false] at hu
    rcases hu with rfl | rfl | rfl | rfl | rfl | rfl | rfl | rfl | rfl <;> rfl
  clear x2 x3 k8
  go_cut [] from 60 to 70 (fun wx => ∃ w9 g9 c9, wx = w9.setCell ⟨c, 4, none⟩ (.slice (some ⟨g9, 0, none⟩) (fs.length + 1) c9) ∧ Chg (fun k => fv.ownBlock = some k) W8 w9 ∧ w9.ownsRow 0 201 9 (.slice (some ⟨g9, 0, none⟩) (fs.length + 1) c9) (fs.length + 1) (frCells fs xs ++ [.int .i64 (k : Int), .int .i64 (k' : Int), .int .i64 0, .slice ko knowns[k].length kc, .int .i64 (m9 : Int), .slice ao l.length cc, .int .i64 (m12 : Int), .bool false, .int .i64 (mo : Int)]) ∧ (fv.ownBlock = some g9 ∨ W8.heap.size ≤ g9))
  case first =>
    go_region_law (refine step_append_row rfl (.tmp 64) (.tmp 66) 150 rfl 201 iR (.agg #[.int .i64 0, .int .i64 0, .int .i64 0, .slice none 0 0, .int .i64 0, .slice none 0 0, .int .i64 0, .bool false, .int .i64 0]) 9 104 Tryz.underlying150 hiR hzR0 hzR1 hzR2 rfl (by decide) fv fs.length (frCells fs xs) rfl ?_ _ 1 1 [.int .i64 (k : Int), .int .i64 (k' : Int), .int .i64 0, .slice ko knowns[k].length kc, .int .i64 (m9 : Int), .slice ao l.length cc, .int .i64 (m12 : Int), .bool false, .int .i64 (mo : Int)] rfl rfl ?_ hone.out m1.out m2.out (Nat.succ_pos _) ?_; (exact Hx2.out.alloc _); (intro j u hj; match j, hj with | 0, hj => (cases hj; simp [Addr.add]) | 1, hj => (cases hj; simp [Addr.add]) | 2, hj => (cases hj; simp [Addr.add]) | 3, hj => (cases hj; simp [Addr.add]) | 4, hj => (cases hj; simp [Addr.add]) | 5, hj => (cases hj; simp [Addr.add]) | 6, hj => (cases hj; simp [Addr.add]) | 7, hj => (cases hj; simp [Addr.add]) | 8, hj => (cases hj; simp [Addr.add])); intro g9 c9 w9 hown9 hg9 hnew9; have hC9 : Chg (fun k => fv.ownBlock = some k) W8 w9 := Chg.grown (Chg.of_below (by go_grown)) hg9 (fun k hk => Or.inl hk); have k4 := (World.cell?_of_block (w := W8) (a := ⟨c, 4, none⟩) (hC9.block c gcl Hne.out)).trans g4; have kf9 : ∀ j, w9.frozen? ⟨c, j, none⟩ = false := fun j => (World.frozen?_of_block (w := W8) (a := ⟨c, j, none⟩) (hC9.block c gcl Hne.out)).trans (gcf j))
    all_goals
      go_wp2_with fail
      go_meet
      refine ⟨w9, g9, c9, rfl, hC9, hown9, ?_⟩
      rcases hnew9 with h | h
      · exact Or.inl h
      · exact Or.inr (by simp at h; omega)
  case rest =>
  obtain ⟨w9, g9, c9, rfl, hC9, hown9, hnew9⟩ := hcut
  have hfin := fr_more HR8.out HF8.out hC9 ⟨k, k', 0, knowns[k], b⟩ _ HO8.out xs x1 Hx3.out hown9
  have HFin : Hid (RefAt (w9.setCell ⟨c, 4, none⟩ (.slice (some ⟨g9, 0, none⟩) (fs.length + 1) c9)) c rb evv (.slice (some ⟨g9, 0, none⟩) (fs.length + 1) c9) av room es acc most knowns ∧ FrAt (w9.setCell ⟨c, 4, none⟩ (.slice (some ⟨g9, 0, none⟩) (fs.length + 1) c9)) (.slice (some ⟨g9, 0, none⟩) (fs.length + 1) c9) (fs ++ [⟨k, k', 0, knowns[k], b⟩])) := hfin
  have r4 := hfin.1.f4
  have HX : Hid (Chg (fun x => x = c ∨ fv.ownBlock = some x) w1 (w9.setCell ⟨c, 4, none⟩ (.slice (some ⟨g9, 0, none⟩) (fs.length + 1) c9)) ∧ (fv.ownBlock = some g9 ∨ w1.heap.size ≤ g9)) := ⟨Chg.setCell (M := fun x => x = c ∨ fv.ownBlock = some x) (p := ⟨c, 4, none⟩) ((Chg.of_below Hb8.out).trans (hC9.mono (fun k _ hk => Or.inr hk))) (Or.inl rfl) _, hnew9.imp id (fun h => Nat.le_trans Hb8.out.size h)⟩
  clear hfin hC9 hown9 hnew9 j0 j1 j2 j3 j4 j5 j6 j7 j8 g4 gcf Hx2 Hx3 hone m1 m2
  generalize w9.setCell ⟨c, 4, none⟩ (.slice (some ⟨g9, 0, none⟩) (fs.length + 1) c9) = W9 at *
  go_wp2_with fail
  go_ret2
  exact ⟨by first | rfl | (congr 2; go_num), _, HFin.out.1, HFin.out.2, HX.out.1, fun g hg => by cases hg; exact HX.out.2⟩

theorem own_put {w : World} {B g n c size : Nat} {e : TypeId} {xs : List Value} (h : w.ownsRow B e size (.slice (some ⟨g, 0, none⟩) n c) n xs) (i : Nat) (u : Value) : (w.setCell ⟨g, i, none⟩ u).ownsRow B e size (.slice (some ⟨g, 0, none⟩) n c) n (xs.set i u) := by
  obtain ⟨hl, ⟨h1, _⟩ | ⟨g', cap, cur, hv, hg, hh, hc, hm, hs, ht⟩⟩ := h
  · cases h1
  · simp only [Value.slice.injEq, Option.some.injEq, Addr.mk.injEq, true_and, and_true] at hv
    obtain ⟨rfl, rfl⟩ := hv
    refine ⟨by rw [List.length_set]; exact hl, Or.inr ⟨g, c, cur.setIfInBounds i u, rfl, hg, ?_, hc, hm, by simpa using hs, ?_⟩⟩
    · simp [World.setCell, Array.getElem?_modify, hh]
    · rw [← ht, Array.toList_setIfInBounds, List.take_set]

structure DelA (w : World) (c rb : Nat) (fv : Value) (knowns : List (List Bool)) (fs : List FrD) (k : Nat) (hk : k < fs.length) : Prop where
  dst : fs[k].dst < knowns.length
  src : fs[k].src < knowns.length

set_option maxHeartbeats 8000000 in
set_option maxRecDepth 100000 in
theorem RefDel_bad (w : World) (c : Nat) (fv : Value) (fs : List FrD) (h4 : w.cell? ⟨c, 4, none⟩ = some fv) (h : FrAt w fv fs) (h5 : fs.length ≤ 500) (f : Int) (hf : ¬ (1 ≤ f ∧ f ≤ fs.length)) :
    Calls Tryz.prog 89 #[.pointer (some ⟨c, 0, none⟩), .int .i64 f] w fun e w' => e = .returned (.tuple #[.int .i64 0, .int .i64 9]) ∧ w' = w := by
  obtain ⟨ao, cap, hfv, hcap⟩ := h.shape
  rw [hfv] at h4
  clear h hfv
  by_cases h1 : f < 1
  · go_enter Tryz.func89, Tryz.ntmps89
    go_wp2
    go_ret2
    exact ⟨rfl, rfl⟩
  · have h2 : (fs.length : Int) < f := by omega
    go_enter Tryz.func89, Tryz.ntmps89
    go_wp2
    go_ret2
    exact ⟨rfl, rfl⟩

structure DelC (w : World) (c rb fb cap fc n len k : Nat) (fs : List FrD) (hk : k < fs.length) (ko : Option Addr) (kc : Nat) (made : Int) (ho : Option Addr) (hn hc : Nat) (lost : Int) (had : Bool) (most : Nat) : Prop where
  c1 : w.cell? ⟨c, 1, none⟩ = some (.slice (some ⟨rb, 0, none⟩) n cap)
  c4 : w.cell? ⟨c, 4, none⟩ = some (.slice (some ⟨fb, 0, none⟩) len fc)
  dn : w.cell? ⟨rb, fs[k].dst * 13 + 1, none⟩ = some (.bool false)
  r0 : w.cell? ⟨fb, k * 9, none⟩ = some (.int .i64 (fs[k].src : Int))
  r1 : w.cell? ⟨fb, k * 9 + 1, none⟩ = some (.int .i64 (fs[k].dst : Int))
  r2 : w.cell? ⟨fb, k * 9 + 2, none⟩ = some (.int .i64 (fs[k].ack : Int))
  r3 : w.cell? ⟨fb, k * 9 + 3, none⟩ = some (.slice ko fs[k].known.length kc)
  r4 : w.cell? ⟨fb, k * 9 + 4, none⟩ = some (.int .i64 made)
  r5 : w.cell? ⟨fb, k * 9 + 5, none⟩ = some (.slice ho hn hc)
  r6 : w.cell? ⟨fb, k * 9 + 6, none⟩ = some (.int .i64 lost)
  r7 : w.cell? ⟨fb, k * 9 + 7, none⟩ = some (.bool had)
  r8 : w.cell? ⟨fb, k * 9 + 8, none⟩ = some (.int .i64 (most : Int))
  kn : SliceT 4 w (.slice ko fs[k].known.length kc) (bools fs[k].known)
theorem delC {w : World} {c rb : Nat} {evv fv : Value} {av : Nat → Value} {room : Nat} {es : List Ev} {acc most : Nat} {knowns : List (List Bool)} {fs : List FrD} (h : RefAt w c rb evv fv av room es acc most knowns) (hf : FrAt w fv fs) (k : Nat) (hk : k < fs.length) (hd : fs[k].dst < knowns.length) :
    ∃ fb cap fc ko kc made ho hn hc lost had mo, fv = .slice (some ⟨fb, 0, none⟩) fs.length fc ∧ fs.length ≤ fc ∧ knowns.length ≤ cap ∧ DelC w c rb fb cap fc knowns.length fs.length k fs hk ko kc made ho hn hc lost had mo := by
  obtain ⟨cap, f1, hcap⟩ := h.f1
  obtain ⟨xs, e1, e2, e3⟩ := hf
  have hk' : k < xs.length := by omega
  have hok := e3 k hk hk'
  obtain ⟨l, a1, a2⟩ := hok.al
  obtain ⟨ho, hc2, a3, a4⟩ := a1.shape
  obtain ⟨ko, kc, a5, _⟩ := hok.kn.shape
  have hkl : (bools fs[k].known).length = fs[k].known.length := by simp [bools]
  rw [hkl] at a5
  obtain ⟨fb, fc, rfl⟩ := own_some e2 (by omega)
  have hce : ∀ j, j < 9 → w.cell? ⟨fb, k * 9 + j, none⟩ = (frRow fs[k] xs[k])[j]? := fun j hj => by
    rw [e2.cellAt (k * 9 + j) (by omega), frCells_at fs xs k hk hk' j hj]
  have hfc : fs.length ≤ fc := by
    obtain ⟨_, ⟨h1, _⟩ | ⟨g', cap', cur, hv, _, _, h3, _⟩⟩ := e2
    · cases h1
    · simp only [Value.slice.injEq] at hv
      omega
  have h3 := hce 3 (by omega)
  have h5 := hce 5 (by omega)
  refine ⟨fb, cap, fc, ko, kc, xs[k].made, ho, (ints l).length, hc2, xs[k].lost, xs[k].had, xs[k].most, rfl, hfc, hcap, ⟨f1, h.f4, (h.reps _ hd).c1, hce 0 (by omega), hce 1 (by omega), hce 2 (by omega), ?_, hce 4 (by omega), ?_, hce 6 (by omega), hce 7 (by omega), hce 8 (by omega), by rw [← a5]; exact hok.kn⟩⟩
  · rw [← a5]; exact h3
  · rw [← a3]; exact h5

set_option maxHeartbeats 8000000 in
set_option maxRecDepth 100000 in
theorem RefDel_full (w : World) (c rb : Nat) (evv fv : Value) (av : Nat → Value) (room : Nat) (es : List Ev) (acc most : Nat) (knowns : List (List Bool)) (h : RefAt w c rb evv fv av room es acc most knowns) (fs : List FrD) (hf : FrAt w fv fs) (k : Nat) (hk : k < fs.length) (hd : fs[k].dst < knowns.length) (ha : fs[k].ack = 0) (h5 : fs.length = 500) :
    Calls Tryz.prog 89 #[.pointer (some ⟨c, 0, none⟩), .int .i64 ((k : Int) + 1)] w fun e w' => e = .returned (.tuple #[.int .i64 0, .int .i64 7]) ∧ Below w.heap.size w w' := by
  obtain ⟨fb, cap, fc, ko, kc, made, ho, hn, hc, lost, had, mo, hfv, hfc, hcap, D⟩ := delC h hf k hk hd
  obtain ⟨c1, c4, dn, r0, r1, r2, r3, r4, r5, r6, r7, r8, _⟩ := D
  have h6 := h.n6
  have hcl := h.tc.lt
  have hrl := h.trb.lt
  have bz : ∀ o, Below w.heap.size w (w.alloc o) := fun o => (Below.refl _ w).alloc (Nat.le_refl _) o
  have c1A : ∀ o, (w.alloc o).cell? ⟨c, 1, none⟩ = some (.slice (some ⟨rb, 0, none⟩) knowns.length cap) := fun o => ((bz o).cell (p := ⟨c, 1, none⟩) hcl).trans c1
  have c4A : ∀ o, (w.alloc o).cell? ⟨c, 4, none⟩ = some (.slice (some ⟨fb, 0, none⟩) fs.length fc) := fun o => ((bz o).cell (p := ⟨c, 4, none⟩) hcl).trans c4
  have dnA : ∀ o, (w.alloc o).cell? ⟨rb, fs[k].dst * 13 + 1, none⟩ = some (.bool false) := fun o => ((bz o).cell (p := ⟨rb, _, none⟩) hrl).trans dn
  have HB : Hid (∀ o q, Below w.heap.size w ((w.alloc o).drewN q)) := fun o q => below_drewN (bz o) q
  have c4D : ∀ o q, ((w.alloc o).drewN q).cell? ⟨c, 4, none⟩ = some (.slice (some ⟨fb, 0, none⟩) fs.length fc) := fun o q => c4A o
  rw [ha] at r2
  have hdI : (fs[k].dst : Int) < (knowns.length : Int) := by omega
  clear h hf bz hfv ha
  generalize fs[k].dst = dst at *
  generalize fs[k].src = src at *
  generalize fs[k].known.length = kl at *
  go_enter Tryz.func89, Tryz.ntmps89
  go_wp2_with fail
  go_quiet (fail)
  go_wp2_with fail
  go_ret2
  exact ⟨rfl, HB.out _ _⟩
end Go.Proofs.YtoiiaankpnhppaaGreatDoor

