import Derived.Test.YtoiiaankpnhppaaGreatDoorPart06
import Derived.Test.YtoiiaankpnhppaaGreatDoorPart19
set_option linter.unusedVariables false
set_option linter.unusedSimpArgs false
namespace Go.Proofs.YtoiiaankpnhppaaGreatDoor
open Go.RowKit Go.Deep

set_option maxHeartbeats 16000000 in
set_option maxRecDepth 100000 in
theorem RefDel_ok (w : World) (c rb : Nat) (evv fv : Value) (av : Nat → Value) (room : Nat) (es : List Ev) (acc most : Nat) (hmost : most + 1 ≤ 1000) (knowns : List (List Bool)) (h : RefAt w c rb evv fv av room es acc most knowns) (fs : List FrD) (hf : FrAt w fv fs) (k : Nat) (hk : k < fs.length) (hd : fs[k].dst < knowns.length) (hs : fs[k].src < knowns.length) (h5 : fs.length < 500) (ha : fs[k].ack = 0) (hkl5 : fs[k].known.length ≤ es.length) (b : ByteArray) :
    Calls Tryz.prog 89 #[.pointer (some ⟨c, 0, none⟩), .int .i64 ((k : Int) + 1)] w fun e w' => e = .returned (.tuple #[.int .i64 ((fs.length : Int) + 1), .int .i64 0]) ∧ ∃ fv', RefAt w' c rb evv fv' av room es acc (most + 1) (knowns.set fs[k].dst (if cnt knowns[fs[k].dst] < cnt (bothL knowns[fs[k].dst] fs[k].known) then bothL knowns[fs[k].dst] fs[k].known else knowns[fs[k].dst])) ∧ FrAt w' fv' (fs ++ [⟨fs[k].dst, fs[k].src, k + 1, [], b⟩]) ∧
      Chg (fun x => x = c ∨ x = rb ∨ fv.ownBlock = some x) w w' ∧ (∀ g, fv'.ownBlock = some g → fv.ownBlock = some g ∨ w.heap.size ≤ g) := by
  obtain ⟨fb, cap, fc, ko, kc, made, ho, hn, hc, lost, had, mo, hfv, hfc, hcap, D⟩ := delC h hf k hk hd
  obtain ⟨c1, c4, dn, r0, r1, r2, r3, r4, r5, r6, r7, r8, hkn⟩ := D
  obtain ⟨iR, hiR, hzR0, hzR1, hzR2⟩ := info_parts Tryz.infoFrame
  have h6 := h.n6
  have n500 := h.n500
  have H : Hid (RefAt w c rb evv fv av room es acc most knowns) := h
  have HF : Hid (FrAt w fv fs) := hf
  obtain ⟨⟨kv, a0, b0⟩, _⟩ := h.reps _ hd
  have hkdl : knowns[fs[k].dst].length ≤ es.length := h.kn _ (List.getElem_mem hd)
  obtain ⟨dko, dkc, hkv, _⟩ := b0.shape
  subst hkv
  have hdl : (bools knowns[fs[k].dst]).length = knowns[fs[k].dst].length := by simp [bools]
  rw [hdl] at a0 b0
  obtain ⟨kd, hkd⟩ : ∃ kd, kd = knowns[fs[k].dst] := ⟨_, rfl⟩
  rw [← hkd] at a0 b0 hkdl ⊢
  obtain ⟨kf, hkf⟩ : ∃ kf, kf = fs[k].known := ⟨_, rfl⟩
  rw [← hkf] at hkn r3 hkl5 ⊢
  have bz : ∀ o, Below w.heap.size w (w.alloc o) := fun o => (Below.refl _ w).alloc (Nat.le_refl _) o
  rw [ha] at r2
  have hcl := h.tc.lt
  have hrl := h.trb.lt
  obtain ⟨dst, hdst⟩ : ∃ dst, dst = fs[k].dst := ⟨_, rfl⟩
  obtain ⟨src, hsrc⟩ : ∃ src, src = fs[k].src := ⟨_, rfl⟩
  rw [← hdst] at dn r1 hd a0 ⊢
  rw [← hsrc] at r0 hs ⊢
  have hdI : (dst : Int) < (knowns.length : Int) := by omega
  -- the copy of the frame
  obtain ⟨W1, hW1⟩ : ∃ W1, W1 = w.alloc (.cells #[.int .i64 (src : Int), .int .i64 (dst : Int), .int .i64 0, .slice ko kf.length kc, .int .i64 made, .slice ho hn hc, .int .i64 lost, .bool had, .int .i64 (mo : Int)] 201) := ⟨_, rfl⟩
  have kg : Blk W1 w.heap.size #[.int .i64 (src : Int), .int .i64 (dst : Int), .int .i64 0, .slice ko kf.length kc, .int .i64 made, .slice ho hn hc, .int .i64 lost, .bool had, .int .i64 (mo : Int)] 201 := by rw [hW1]; exact Blk.new w _ _
  have hb1 : Below w.heap.size w W1 := by rw [hW1]; exact bz _
  have hs1 : W1.heap.size = w.heap.size + 1 := by rw [hW1]; simp
  have HCel : Hid (∀ wx, Below W1.heap.size W1 wx → wx.cell? ⟨c, 1, none⟩ = some (.slice (some ⟨rb, 0, none⟩) knowns.length cap) ∧ wx.cell? ⟨c, 4, none⟩ = some (.slice (some ⟨fb, 0, none⟩) fs.length fc) ∧ wx.cell? ⟨rb, dst * 13 + 1, none⟩ = some (.bool false) ∧ wx.cell? ⟨rb, dst * 13, none⟩ = some (.slice dko kd.length dkc) ∧ wx.cell? ⟨w.heap.size, 0, none⟩ = some (.int .i64 (src : Int)) ∧ wx.cell? ⟨w.heap.size, 1, none⟩ = some (.int .i64 (dst : Int)) ∧ wx.cell? ⟨w.heap.size, 3, none⟩ = some (.slice ko kf.length kc) ∧ wx.cell? ⟨w.heap.size, 2, none⟩ = some (.int .i64 0) ∧ Below w.heap.size w wx) := fun wx hx => by
    have hbw : Below w.heap.size w wx := hb1.trans (hx.mono hb1.size)
    have kk := kg.below hx
    exact ⟨(hbw.cell (p := ⟨c, 1, none⟩) hcl).trans c1, (hbw.cell (p := ⟨c, 4, none⟩) hcl).trans c4, (hbw.cell (p := ⟨rb, _, none⟩) hrl).trans dn, (hbw.cell (p := ⟨rb, _, none⟩) hrl).trans a0, (kk.cell 0).trans rfl, (kk.cell 1).trans rfl, (kk.cell 3).trans rfl, (kk.cell 2).trans rfl, hbw⟩
  have HBo : Hid (∀ wx W2, Below W1.heap.size W1 W2 → wx.heap = W2.heap → wx.os = W2.os → wx.tape = W2.tape → wx.output = W2.output → Calls Tryz.prog 142 #[.slice dko kd.length dkc, .slice ko kf.length kc] wx fun e w' => ∃ vo vn vc, e = .returned (.slice vo vn vc) ∧ (SliceT 4 w' (.slice vo vn vc) (bools (bothL kd kf)) ∧ Below W2.heap.size W2 w')) := fun wx W2 h2 hx ho ht hp => by
    have hbx : Below W2.heap.size W2 wx := ⟨ho, ht, hp, by rw [hx]; exact Nat.le_refl _, fun k _ => by rw [hx]⟩
    have hbw : Below w.heap.size w wx := hb1.trans ((h2.trans (hbx.mono h2.size)).mono hb1.size)
    refine Calls.mono (both_any wx _ _ kd kf (b0.below hbw) (hkn.below hbw) (by omega) (by omega)) ?_
    rintro e w' ⟨v, rfl, hv, hb⟩
    obtain ⟨vo, vc, rfl, _⟩ := hv.shape
    exact ⟨vo, _, vc, rfl, hv, hbx.trans (hb.mono hbx.size)⟩
  have HKd : Hid (SliceT 4 w (.slice dko kd.length dkc) (bools kd)) := b0
  have Hlen : Hid (kd.length ≤ 500 ∧ kf.length ≤ 500) := ⟨by omega, by omega⟩
  have HW1 : Hid (w.alloc (.cells #[.int .i64 (src : Int), .int .i64 (dst : Int), .int .i64 0, .slice ko kf.length kc, .int .i64 made, .slice ho hn hc, .int .i64 lost, .bool had, .int .i64 (mo : Int)] 201) = W1) := hW1.symm
  have HB1 : Hid (Below w.heap.size w W1) := hb1
  have Hk5 : Hid ((bothL kd kf).length ≤ es.length) := by unfold Hid; rw [bothL_len]; omega
  have HKS : Hid (kd = knowns[dst]) := by unfold Hid; subst hdst; exact hkd
  clear h hf b0 hkn bz hW1 kg hb1 hs1 hcl hrl a0 hkd hkf hdst hsrc hfv hdl ha
  go_enter Tryz.func89, Tryz.ntmps89
  go_wp2_with fail
  clear c1 c4 dn r0 r1 r2 r3 r4 r5 r6 r7 r8
  rw [HW1.out]
  obtain ⟨d1, -, ddn, -, -, g1, -⟩ := HCel.out W1 (Below.refl _ _)
  go_quiet (fail)
  clear d1 ddn g1
  have hbq : Below W1.heap.size W1 (W1.drewN nq) := below_drewN (Below.refl _ _) _
  generalize W1.drewN nq = W2 at *
  have HQ2 : Hid (Below W1.heap.size W1 W2) := hbq
  clear hbq
  obtain ⟨d1, d4, -, dk, -, g1, g3, g2, -⟩ := HCel.out _ HQ2.out
  go_wp2_with fail
  go_cut [9] from 93 to 105 (fun v9 wx => ∃ vo vn vc, v9 = .slice vo vn vc ∧ SliceT 4 wx (.slice vo vn vc) (bools (bothL kd kf)) ∧ Below W2.heap.size W2 wx)
  case first =>
    go_region_law (go_simp; refine Calls.mono (HBo.out _ W2 HQ2.out rfl rfl rfl rfl) ?_; rintro e w5 ⟨vo, vn, vc, rfl, h5⟩)
    all_goals
      go_wp2_with fail
      go_meet
      exact ⟨vo, vn, vc, rfl, h5.1, h5.2⟩
  case rest =>
  obtain ⟨vo, vn, vc, rfl, hv, hb3⟩ := hcut
  clear d1 d4 dk g1 g3 g2 HBo
  have HQ3 : Hid (Below W1.heap.size W1 wc) := HQ2.out.trans (hb3.mono HQ2.out.size)
  have HV : Hid (SliceT 4 wc (.slice vo vn vc) (bools (bothL kd kf))) := hv
  clear hv hb3
  generalize wc = W3 at *
  obtain ⟨d1, -, -, dk, -, g1, -, -, hbw3⟩ := HCel.out _ HQ3.out
  have HN : Hid (∀ (v : Value) (l : List Bool), (SliceT 4 W3 v (bools l) ∧ l.length ≤ 500) → ∀ q, Calls Tryz.prog 85 #[v] (W3.drewN q) fun e w' => e = .returned (.int .i64 (cnt l : Int)) ∧ w' = W3.drewN q) := fun v l hv q => Count_any W3.heap.size v l _ (by omega) (SliceT.below hv.1 (below_drewN (Below.refl _ _) q)).toIn
  have Pk : Hid (SliceT 4 W3 (.slice vo vn vc) (bools (bothL kd kf)) ∧ (bothL kd kf).length ≤ 500) := ⟨HV.out, by rw [bothL_len]; have := Hlen.out; omega⟩
  have Px : Hid (SliceT 4 W3 (.slice dko kd.length dkc) (bools kd) ∧ kd.length ≤ 500) := ⟨HKd.out.below hbw3, Hlen.out.1⟩
  have HB3 : Hid (Below w.heap.size w W3) := hbw3
  clear hbw3
  go_wp2_with fail
  go_quiet (first | (go_at_call 85; exact Calls.mono (HN.out _ _ (by first | exact Pk.out | exact Px.out) _) (fun _ _ h => ⟨h.1, _, h.2⟩)))
  clear HN Pk Px d1 dk g1
  have hbq : Below W3.heap.size W3 (W3.drewN nq) := below_drewN (Below.refl _ _) _
  have HQ4 : Hid (Below W1.heap.size W1 (W3.drewN nq)) := HQ3.out.trans (hbq.mono HQ3.out.size)
  have HV4 : Hid (SliceT 4 (W3.drewN nq) (.slice vo vn vc) (bools (bothL kd kf))) := HV.out.below hbq
  have HB4 : Hid (Below w.heap.size w (W3.drewN nq)) := HB3.out.trans (hbq.mono HB3.out.size)
  clear hbq HV HB3 HQ3
  generalize W3.drewN nq = W4 at *
  obtain ⟨-, -, -, -, g0, g1, -⟩ := HCel.out _ HQ4.out
  have hgl4 : w.heap.size < W4.heap.size := World.block_lt_of_cell? W4 ⟨w.heap.size, 0, none⟩ g0
  by_cases hgt : cnt kd < cnt (bothL kd kf)
  · have HGT : Hid (cnt kd < cnt (bothL kd kf)) := hgt
    have hgtI : (cnt kd : Int) < (cnt (bothL kd kf) : Int) := by omega
    have HWr : Hid (_) := write_any W4 c rb evv fv av room es acc most knowns (H.out.below HB4.out) dst hd (.slice vo vn vc) (bothL kd kf) HV4.out Hk5.out hmost false
    go_wp2_with fail
    refine Calls.mono HWr.out ?_
    rintro e w5 ⟨rfl, hr5, hc5⟩
    have HC5 : Hid (Chg (fun x => x = c ∨ x = rb ∨ fv.ownBlock = some x) w w5) := (Chg.of_below HB4.out).trans (hc5.mono (fun x _ e => Or.inr (Or.inl e)))
    have HR5 : Hid (RefAt w5 c rb evv fv av room es acc (most + 1) (knowns.set dst (bothL kd kf))) := hr5
    have hF4 := HF.out.below HB4.out
    have hR4 := H.out.below HB4.out
    have HF5 : Hid (FrAt w5 fv fs) := hF4.chg hc5 (fun g hg e => Tagged.ne (hF4.tag g hg) hR4.trb (by decide) e) (fun b hb e => Tagged.ne hb hR4.trb (by decide) e) (IntsKept.of_chg hc5 (fun b hb e => Tagged.ne hb hR4.trb (by decide) e))
    have hgr : w.heap.size ≠ rb := fun e => by have := H.out.trb.lt; omega
    have HG5 : Hid (w5.cell? ⟨w.heap.size, 0, none⟩ = some (.int .i64 (src : Int)) ∧ w5.cell? ⟨w.heap.size, 1, none⟩ = some (.int .i64 (dst : Int)) ∧ w.heap.size < w5.heap.size) := ⟨(World.cell?_of_block (w := W4) (a := ⟨w.heap.size, 0, none⟩) (hc5.block _ hgl4 hgr)).trans g0, (World.cell?_of_block (w := W4) (a := ⟨w.heap.size, 1, none⟩) (hc5.block _ hgl4 hgr)).trans g1, Nat.lt_of_lt_of_le hgl4 hc5.size⟩
    clear HWr hr5 hc5 hF4 hR4 hgr g0 g1 hgl4 hgt hgtI HV4 HB4
    generalize w5 = W5 at *
    obtain ⟨xs, x1, x2, x3⟩ := HF5.out
    have g4 : W5.cell? ⟨c, 4, none⟩ = some fv := HR5.out.f4
    have gcl : c < W5.heap.size := HR5.out.tc.lt
    have gcf := HR5.out.tc.frozen
    have g4A : ∀ o, (W5.alloc o).cell? ⟨c, 4, none⟩ = some fv := fun o => (((Below.refl _ W5).alloc (Nat.le_refl _) o).cell (p := ⟨c, 4, none⟩) gcl).trans g4
    have g0 := HG5.out.1
    have g1 := HG5.out.2.1
    have g0A : ∀ o, (W5.alloc o).cell? ⟨w.heap.size, 0, none⟩ = some (.int .i64 (src : Int)) := fun o => (((Below.refl _ W5).alloc (Nat.le_refl _) o).cell (p := ⟨w.heap.size, 0, none⟩) HG5.out.2.2).trans g0
    have g1A : ∀ o, (W5.alloc o).cell? ⟨w.heap.size, 1, none⟩ = some (.int .i64 (dst : Int)) := fun o => (((Below.refl _ W5).alloc (Nat.le_refl _) o).cell (p := ⟨w.heap.size, 1, none⟩) HG5.out.2.2).trans g1
    have Hx2 : Hid (W5.ownsRow 0 201 9 fv fs.length (frCells fs xs)) := x2
    have Hx3 : Hid (∀ j (h : j < fs.length) (h' : j < xs.length), FrOK W5 fs[j] xs[j]) := x3
    have Hne : Hid (fv.ownBlock ≠ some c) := HR5.out.frNo HF5.out
    have m1 : Hid (fs.length + 1 ≤ maxLen) := by unfold Hid maxLen; omega
    have m2 : Hid ((fs.length + 1) * 104 ≤ 140737488355328) := by unfold Hid; omega
    have hone : Hid (∀ u ∈ ([.int .i64 (dst : Int), .int .i64 (src : Int), .int .i64 ((k : Int) + 1), .slice none 0 0, .int .i64 0, .slice none 0 0, .int .i64 0, .bool false, .int .i64 80] : List Value), u.oneCell' = true) := by
      intro u hu
      simp only [List.mem_cons, List.mem_nil_iff, or_false] at hu
      rcases hu with rfl | rfl | rfl | rfl | rfl | rfl | rfl | rfl | rfl <;> rfl
    have HO5 : Hid (FrOK W5 ⟨dst, src, k + 1, [], b⟩ ⟨.slice none 0 0, 0, .slice none 0 0, 0, false, 80⟩) := ⟨Or.inl ⟨rfl, rfl⟩, by simp, ⟨[], Or.inl ⟨rfl, rfl⟩, by simp⟩, by decide, by decide⟩
    clear x2 x3
    go_wp2_with fail
    go_cut [] from 125 to 140 (fun wx => ∃ w9 g9 c9, wx = w9.setCell ⟨c, 4, none⟩ (.slice (some ⟨g9, 0, none⟩) (fs.length + 1) c9) ∧ Chg (fun k => fv.ownBlock = some k) W5 w9 ∧ w9.ownsRow 0 201 9 (.slice (some ⟨g9, 0, none⟩) (fs.length + 1) c9) (fs.length + 1) (frCells fs xs ++ [.int .i64 (dst : Int), .int .i64 (src : Int), .int .i64 ((k : Int) + 1), .slice none 0 0, .int .i64 0, .slice none 0 0, .int .i64 0, .bool false, .int .i64 80]) ∧ (fv.ownBlock = some g9 ∨ W5.heap.size ≤ g9))
    case first =>
      go_region_law (refine step_append_row rfl (.tmp 129) (.tmp 136) 150 rfl 201 iR (.agg #[.int .i64 0, .int .i64 0, .int .i64 0, .slice none 0 0, .int .i64 0, .slice none 0 0, .int .i64 0, .bool false, .int .i64 0]) 9 104 Tryz.underlying150 hiR hzR0 hzR1 hzR2 rfl (by decide) fv fs.length (frCells fs xs) rfl ?_ _ 1 1 [.int .i64 (dst : Int), .int .i64 (src : Int), .int .i64 ((k : Int) + 1), .slice none 0 0, .int .i64 0, .slice none 0 0, .int .i64 0, .bool false, .int .i64 80] rfl rfl ?_ hone.out m1.out m2.out (Nat.succ_pos _) ?_; (exact Hx2.out.alloc _); (intro j u hj; match j, hj with | 0, hj => (cases hj; simp [Addr.add]) | 1, hj => (cases hj; simp [Addr.add]) | 2, hj => (cases hj; simp [Addr.add]) | 3, hj => (cases hj; simp [Addr.add]) | 4, hj => (cases hj; simp [Addr.add]) | 5, hj => (cases hj; simp [Addr.add]) | 6, hj => (cases hj; simp [Addr.add]) | 7, hj => (cases hj; simp [Addr.add]) | 8, hj => (cases hj; simp [Addr.add])); intro g9 c9 w9 hown9 hg9 hnew9; have hC9 : Chg (fun k => fv.ownBlock = some k) W5 w9 := Chg.grown (Chg.of_below (by go_grown)) hg9 (fun k hk => Or.inl hk); have k4 := (World.cell?_of_block (w := W5) (a := ⟨c, 4, none⟩) (hC9.block c gcl Hne.out)).trans g4; have kf9 : ∀ j, w9.frozen? ⟨c, j, none⟩ = false := fun j => (World.frozen?_of_block (w := W5) (a := ⟨c, j, none⟩) (hC9.block c gcl Hne.out)).trans (gcf j))
      all_goals
        go_wp2_with fail
        go_meet
        refine ⟨w9, g9, c9, rfl, hC9, hown9, ?_⟩
        rcases hnew9 with h | h
        · exact Or.inl h
        · exact Or.inr (by simp at h; omega)
    case rest =>
    obtain ⟨w9, g9, c9, rfl, hC9, hown9, hnew9⟩ := hcut
    have hfin := fr_more HR5.out HF5.out hC9 ⟨dst, src, k + 1, [], b⟩ ⟨.slice none 0 0, 0, .slice none 0 0, 0, false, 80⟩ HO5.out xs x1 Hx3.out hown9
    have HFin : Hid (RefAt (w9.setCell ⟨c, 4, none⟩ (.slice (some ⟨g9, 0, none⟩) (fs.length + 1) c9)) c rb evv (.slice (some ⟨g9, 0, none⟩) (fs.length + 1) c9) av room es acc (most + 1) (knowns.set dst (bothL kd kf)) ∧ FrAt (w9.setCell ⟨c, 4, none⟩ (.slice (some ⟨g9, 0, none⟩) (fs.length + 1) c9)) (.slice (some ⟨g9, 0, none⟩) (fs.length + 1) c9) (fs ++ [⟨dst, src, k + 1, [], b⟩])) := hfin
    have r4 := hfin.1.f4
    have HX : Hid (Chg (fun x => x = c ∨ x = rb ∨ fv.ownBlock = some x) w (w9.setCell ⟨c, 4, none⟩ (.slice (some ⟨g9, 0, none⟩) (fs.length + 1) c9)) ∧ (fv.ownBlock = some g9 ∨ w.heap.size ≤ g9)) := ⟨Chg.setCell (M := fun x => x = c ∨ x = rb ∨ fv.ownBlock = some x) (p := ⟨c, 4, none⟩) (HC5.out.trans (hC9.mono (fun k _ hk => Or.inr (Or.inr hk)))) (Or.inl rfl) _, hnew9.imp id (fun h => Nat.le_trans HC5.out.size h)⟩
    clear hfin hC9 hown9 hnew9 g4 gcf g4A g0 g1 g0A g1A Hx2 Hx3 hone m1 m2
    generalize w9.setCell ⟨c, 4, none⟩ (.slice (some ⟨g9, 0, none⟩) (fs.length + 1) c9) = W9 at *
    go_wp2_with fail
    go_ret2
    exact ⟨by first | rfl | (congr 2; go_num), _, by first | exact HFin.out.1 | (rw [if_pos HGT.out]; exact HFin.out.1), HFin.out.2, HX.out.1, fun g hg => by cases hg; exact HX.out.2⟩
  · have HGT : Hid (¬ cnt kd < cnt (bothL kd kf)) := hgt
    have hgtI : ¬ (cnt kd : Int) < (cnt (bothL kd kf) : Int) := by omega
    have HC5 : Hid (Chg (fun x => x = c ∨ x = rb ∨ fv.ownBlock = some x) w W4) := Chg.of_below HB4.out
    have hset : knowns.set dst kd = knowns := by rw [HKS.out, List.set_getElem_self]
    have HR5 : Hid (RefAt W4 c rb evv fv av room es acc (most + 1) (knowns.set dst kd)) := by
      unfold Hid; rw [hset]
      exact (H.out.below HB4.out).most_mono (by omega) hmost
    have HF5 : Hid (FrAt W4 fv fs) := HF.out.below HB4.out
    have HG5 : Hid (W4.cell? ⟨w.heap.size, 0, none⟩ = some (.int .i64 (src : Int)) ∧ W4.cell? ⟨w.heap.size, 1, none⟩ = some (.int .i64 (dst : Int)) ∧ w.heap.size < W4.heap.size) := ⟨g0, g1, hgl4⟩
    clear g0 g1 hgl4 hgt HV4 HB4 hset
    generalize W4 = W5 at *
    obtain ⟨xs, x1, x2, x3⟩ := HF5.out
    have g4 : W5.cell? ⟨c, 4, none⟩ = some fv := HR5.out.f4
    have gcl : c < W5.heap.size := HR5.out.tc.lt
    have gcf := HR5.out.tc.frozen
    have g4A : ∀ o, (W5.alloc o).cell? ⟨c, 4, none⟩ = some fv := fun o => (((Below.refl _ W5).alloc (Nat.le_refl _) o).cell (p := ⟨c, 4, none⟩) gcl).trans g4
    have g0 := HG5.out.1
    have g1 := HG5.out.2.1
    have g0A : ∀ o, (W5.alloc o).cell? ⟨w.heap.size, 0, none⟩ = some (.int .i64 (src : Int)) := fun o => (((Below.refl _ W5).alloc (Nat.le_refl _) o).cell (p := ⟨w.heap.size, 0, none⟩) HG5.out.2.2).trans g0
    have g1A : ∀ o, (W5.alloc o).cell? ⟨w.heap.size, 1, none⟩ = some (.int .i64 (dst : Int)) := fun o => (((Below.refl _ W5).alloc (Nat.le_refl _) o).cell (p := ⟨w.heap.size, 1, none⟩) HG5.out.2.2).trans g1
    have Hx2 : Hid (W5.ownsRow 0 201 9 fv fs.length (frCells fs xs)) := x2
    have Hx3 : Hid (∀ j (h : j < fs.length) (h' : j < xs.length), FrOK W5 fs[j] xs[j]) := x3
    have Hne : Hid (fv.ownBlock ≠ some c) := HR5.out.frNo HF5.out
    have m1 : Hid (fs.length + 1 ≤ maxLen) := by unfold Hid maxLen; omega
    have m2 : Hid ((fs.length + 1) * 104 ≤ 140737488355328) := by unfold Hid; omega
    have hone : Hid (∀ u ∈ ([.int .i64 (dst : Int), .int .i64 (src : Int), .int .i64 ((k : Int) + 1), .slice none 0 0, .int .i64 0, .slice none 0 0, .int .i64 0, .bool false, .int .i64 80] : List Value), u.oneCell' = true) := by
      intro u hu
      simp only [List.mem_cons, List.mem_nil_iff, or_false] at hu
      rcases hu with rfl | rfl | rfl | rfl | rfl | rfl | rfl | rfl | rfl <;> rfl
    have HO5 : Hid (FrOK W5 ⟨dst, src, k + 1, [], b⟩ ⟨.slice none 0 0, 0, .slice none 0 0, 0, false, 80⟩) := ⟨Or.inl ⟨rfl, rfl⟩, by simp, ⟨[], Or.inl ⟨rfl, rfl⟩, by simp⟩, by decide, by decide⟩
    clear x2 x3
    go_wp2_with fail
    go_cut [] from 125 to 140 (fun wx => ∃ w9 g9 c9, wx = w9.setCell ⟨c, 4, none⟩ (.slice (some ⟨g9, 0, none⟩) (fs.length + 1) c9) ∧ Chg (fun k => fv.ownBlock = some k) W5 w9 ∧ w9.ownsRow 0 201 9 (.slice (some ⟨g9, 0, none⟩) (fs.length + 1) c9) (fs.length + 1) (frCells fs xs ++ [.int .i64 (dst : Int), .int .i64 (src : Int), .int .i64 ((k : Int) + 1), .slice none 0 0, .int .i64 0, .slice none 0 0, .int .i64 0, .bool false, .int .i64 80]) ∧ (fv.ownBlock = some g9 ∨ W5.heap.size ≤ g9))
    case first =>
      go_region_law (refine step_append_row rfl (.tmp 129) (.tmp 136) 150 rfl 201 iR (.agg #[.int .i64 0, .int .i64 0, .int .i64 0, .slice none 0 0, .int .i64 0, .slice none 0 0, .int .i64 0, .bool false, .int .i64 0]) 9 104 Tryz.underlying150 hiR hzR0 hzR1 hzR2 rfl (by decide) fv fs.length (frCells fs xs) rfl ?_ _ 1 1 [.int .i64 (dst : Int), .int .i64 (src : Int), .int .i64 ((k : Int) + 1), .slice none 0 0, .int .i64 0, .slice none 0 0, .int .i64 0, .bool false, .int .i64 80] rfl rfl ?_ hone.out m1.out m2.out (Nat.succ_pos _) ?_; (exact Hx2.out.alloc _); (intro j u hj; match j, hj with | 0, hj => (cases hj; simp [Addr.add]) | 1, hj => (cases hj; simp [Addr.add]) | 2, hj => (cases hj; simp [Addr.add]) | 3, hj => (cases hj; simp [Addr.add]) | 4, hj => (cases hj; simp [Addr.add]) | 5, hj => (cases hj; simp [Addr.add]) | 6, hj => (cases hj; simp [Addr.add]) | 7, hj => (cases hj; simp [Addr.add]) | 8, hj => (cases hj; simp [Addr.add])); intro g9 c9 w9 hown9 hg9 hnew9; have hC9 : Chg (fun k => fv.ownBlock = some k) W5 w9 := Chg.grown (Chg.of_below (by go_grown)) hg9 (fun k hk => Or.inl hk); have k4 := (World.cell?_of_block (w := W5) (a := ⟨c, 4, none⟩) (hC9.block c gcl Hne.out)).trans g4; have kf9 : ∀ j, w9.frozen? ⟨c, j, none⟩ = false := fun j => (World.frozen?_of_block (w := W5) (a := ⟨c, j, none⟩) (hC9.block c gcl Hne.out)).trans (gcf j))
      all_goals
        go_wp2_with fail
        go_meet
        refine ⟨w9, g9, c9, rfl, hC9, hown9, ?_⟩
        rcases hnew9 with h | h
        · exact Or.inl h
        · exact Or.inr (by simp at h; omega)
    case rest =>
    obtain ⟨w9, g9, c9, rfl, hC9, hown9, hnew9⟩ := hcut
    have hfin := fr_more HR5.out HF5.out hC9 ⟨dst, src, k + 1, [], b⟩ ⟨.slice none 0 0, 0, .slice none 0 0, 0, false, 80⟩ HO5.out xs x1 Hx3.out hown9
    have HFin : Hid (RefAt (w9.setCell ⟨c, 4, none⟩ (.slice (some ⟨g9, 0, none⟩) (fs.length + 1) c9)) c rb evv (.slice (some ⟨g9, 0, none⟩) (fs.length + 1) c9) av room es acc (most + 1) (knowns.set dst kd) ∧ FrAt (w9.setCell ⟨c, 4, none⟩ (.slice (some ⟨g9, 0, none⟩) (fs.length + 1) c9)) (.slice (some ⟨g9, 0, none⟩) (fs.length + 1) c9) (fs ++ [⟨dst, src, k + 1, [], b⟩])) := hfin
    have r4 := hfin.1.f4
    have HX : Hid (Chg (fun x => x = c ∨ x = rb ∨ fv.ownBlock = some x) w (w9.setCell ⟨c, 4, none⟩ (.slice (some ⟨g9, 0, none⟩) (fs.length + 1) c9)) ∧ (fv.ownBlock = some g9 ∨ w.heap.size ≤ g9)) := ⟨Chg.setCell (M := fun x => x = c ∨ x = rb ∨ fv.ownBlock = some x) (p := ⟨c, 4, none⟩) (HC5.out.trans (hC9.mono (fun k _ hk => Or.inr (Or.inr hk)))) (Or.inl rfl) _, hnew9.imp id (fun h => Nat.le_trans HC5.out.size h)⟩
    clear hfin hC9 hown9 hnew9 g4 gcf g4A g0 g1 g0A g1A Hx2 Hx3 hone m1 m2
    generalize w9.setCell ⟨c, 4, none⟩ (.slice (some ⟨g9, 0, none⟩) (fs.length + 1) c9) = W9 at *
    go_wp2_with fail
    go_ret2
    exact ⟨by first | rfl | (congr 2; go_num), _, by first | exact HFin.out.1 | (rw [if_neg HGT.out]; exact HFin.out.1), HFin.out.2, HX.out.1, fun g hg => by cases hg; exact HX.out.2⟩
end Go.Proofs.YtoiiaankpnhppaaGreatDoor

