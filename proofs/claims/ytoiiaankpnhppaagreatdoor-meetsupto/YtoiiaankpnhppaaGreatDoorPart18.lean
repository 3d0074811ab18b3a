import Derived.Lib.LaidTab
import Derived.LaidSub
import Derived.Shelf.Vars
import Derived.MakeChecks
import Derived.FnData
import Derived.Test.YtoiiaankpnhppaaGreatDoorCards
import Derived.Test.YtoiiaankpnhppaaGreatDoorTie
import Derived.ProofKit
import Derived.OpenShut
import Derived.Deep.DeepHandedRow
import Derived.Carry
import Derived.Lay
import Derived.Test.YtoiiaankpnhppaaGreatDoorPart17
set_option linter.unusedVariables false
set_option linter.unusedSimpArgs false
namespace Go.Proofs.YtoiiaankpnhppaaGreatDoor
open Go.RowKit Go.Deep

set_option maxHeartbeats 16000000 in
set_option maxRecDepth 100000 in
theorem RefDel_ok (w : World) (c rb : Nat) (evv fv : Value) (av : Nat → Value) (room : Nat) (es : List Ev) (acc most : Nat) (hmost : most + 1 ≤ 1000) (knowns : List (List Bool)) (h : RefAt w c rb evv fv av room es acc most knowns) (fs : List FrD) (hf : FrAt w fv fs) (k : Nat) (hk : k < fs.length) (hd : fs[k].dst < knowns.length) (hs : fs[k].src < knowns.length) (h5 : fs.length < 500) (ha : fs[k].ack = 0) (hkl5 : fs[k].known.length ≤ es.length) (b : ByteArray) :
    Calls Tryz.prog 89 #[.pointer (some ⟨c, 0, none⟩), .int .i64 ((k : Int) + 1)] w fun e w' => e = .returned (.tuple #[.int .i64 ((fs.length : Int) + 1), .int .i64 0]) ∧ ∃ fv', RefAt w' c rb evv fv' av room es acc (most + 1) (knowns.set fs[k].dst (if cnt knowns[fs[k].dst] < cnt (bothL knowns[fs[k].dst] fs[k].known) then bothL knowns[fs[k].dst] fs[k].known else knowns[fs[k].dst])) ∧ FrAt w' fv' (fs ++ [⟨fs[k].dst, fs[k].src, k + 1, [], b⟩]) ∧
      Chg (fun x => x = c ∨ x = rb ∨ fv.ownBlock = some x) w w' ∧ (∀ g, fv'.ownBlock = some g → fv.ownBlock = some g ∨ w.heap.size ≤ g) := by
  obtain ⟨fb, cap, fc, ko, kc, made, ho, hn, hc, lost, had, mo, hfv, hfc, hcap, D⟩ := delC h hf k hk hd
  obtain ⟨c1, c4, dn, r0, r1, r2, r3, r4, r5, r6, r7, r8, hkn⟩ := D
  obtain ⟨iR, hiR, hzR0, hzR1, hzR2⟩ := info_parts Tryz.infoFrame
  have h6 := h.n6
  have n500 := h.n500
  have H : Hid (RefAt w c rb evv fv av room es acc most knowns) := h
  have HF : Hid (FrAt w fv fs) := hf
  obtain ⟨⟨kv, a0, b0⟩, _⟩ := h.reps _ hd
  have hkdl : knowns[fs[k].dst].length ≤ es.length := h.kn _ (List.getElem_mem hd)
  obtain ⟨dko, dkc, hkv, _⟩ := b0.shape
  subst hkv
  have hdl : (bools knowns[fs[k].dst]).length = knowns[fs[k].dst].length := by simp [bools]
  rw [hdl] at a0 b0
  obtain ⟨kd, hkd⟩ : ∃ kd, kd = knowns[fs[k].dst] := ⟨_, rfl⟩
  rw [← hkd] at a0 b0 hkdl ⊢
  obtain ⟨kf, hkf⟩ : ∃ kf, kf = fs[k].known := ⟨_, rfl⟩
  rw [← hkf] at hkn r3 hkl5 ⊢
  have bz : ∀ o, Below w.heap.size w (w.alloc o) := fun o => (Below.refl _ w).alloc (Nat.le_refl _) o
  rw [ha] at r2
  have hcl := h.tc.lt
  have hrl := h.trb.lt
  obtain ⟨dst, hdst⟩ : ∃ dst, dst = fs[k].dst := ⟨_, rfl⟩
  obtain ⟨src, hsrc⟩ : ∃ src, src = fs[k].src := ⟨_, rfl⟩
  rw [← hdst] at dn r1 hd a0 ⊢
  rw [← hsrc] at r0 hs ⊢
  have hdI : (dst : Int) < (knowns.length : Int) := by omega
  -- the copy of the frame
  obtain ⟨W1, hW1⟩ : ∃ W1, W1 = w.alloc (.cells #[.int .i64 (src : Int), .int .i64 (dst : Int), .int .i64 0, .slice ko kf.length kc, .int .i64 made, .slice ho hn hc, .int .i64 lost, .bool had, .int .i64 (mo : Int)] 201) := ⟨_, rfl⟩
  have kg : Blk W1 w.heap.size #[.int .i64 (src : Int), .int .i64 (dst : Int), .int .i64 0, .slice ko kf.length kc, .int .i64 made, .slice ho hn hc, .int .i64 lost, .bool had, .int .i64 (mo : Int)] 201 := by rw [hW1]; exact Blk.new w _ _
  have hb1 : Below w.heap.size w W1 := by rw [hW1]; exact bz _
  have hs1 : W1.heap.size = w.heap.size + 1 := by rw [hW1]; simp
  have HCel : Hid (∀ wx, Below W1.heap.size W1 wx → wx.cell? ⟨c, 1, none⟩ = some (.slice (some ⟨rb, 0, none⟩) knowns.length cap) ∧ wx.cell? ⟨c, 4, none⟩ = some (.slice (some ⟨fb, 0, none⟩) fs.length fc) ∧ wx.cell? ⟨rb, dst * 13 + 1, none⟩ = some (.bool false) ∧ wx.cell? ⟨rb, dst * 13, none⟩ = some (.slice dko kd.length dkc) ∧ wx.cell? ⟨w.heap.size, 0, none⟩ = some (.int .i64 (src : Int)) ∧ wx.cell? ⟨w.heap.size, 1, none⟩ = some (.int .i64 (dst : Int)) ∧ wx.cell? ⟨w.heap.size, 3, none⟩ = some (.slice ko kf.length kc) ∧ wx.cell? ⟨w.heap.size, 2, none⟩ = some (.int .i64 0) ∧ Below w.heap.size w wx) := fun wx hx => by
    have hbw : Below w.heap.size w wx := hb1.trans (hx.mono hb1.size)
    have kk := kg.below hx
    exact ⟨(hbw.cell (p := ⟨c, 1, none⟩) hcl).trans c1, (hbw.cell (p := ⟨c, 4, none⟩) hcl).trans c4, (hbw.cell (p := ⟨rb, _, none⟩) hrl).trans dn, (hbw.cell (p := ⟨rb, _, none⟩) hrl).trans a0, (kk.cell 0).trans rfl, (kk.cell 1).trans rfl, (kk.cell 3).trans rfl, (kk.cell 2).trans rfl, hbw⟩
  have HBo : Hid (∀ wx W2, Below W1.heap.size W1 W2 → wx.heap = W2.heap → wx.os = W2.os → wx.tape = W2.tape → wx.output = W2.output → Calls Tryz.prog 142 #[.slice dko kd.length dkc, .slice ko kf.length kc] wx fun e w' => ∃ vo vn vc, e = .returned (.slice vo vn vc) ∧ (SliceT 4 w' (.slice vo vn vc) (bools (bothL kd kf)) ∧ Below W2.heap.size W2 w')) := fun wx W2 h2 hx ho ht hp => by
    have hbx : Below W2.heap.size W2 wx := ⟨ho, ht, hp, by rw [hx]; exact Nat.le_refl _, fun k _ => by rw [hx]⟩
    have hbw : Below w.heap.size w wx := hb1.trans ((h2.trans (hbx.mono h2.size)).mono hb1.size)
    refine Calls.mono (both_any wx _ _ kd kf (b0.below hbw) (hkn.below hbw) (by omega) (by omega)) ?_
    rintro e w' ⟨v, rfl, hv, hb⟩
    obtain ⟨vo, vc, rfl, _⟩ := hv.shape
    exact ⟨vo, _, vc, rfl, hv, hbx.trans (hb.mono hbx.size)⟩
  have HKd : Hid (SliceT 4 w (.slice dko kd.length dkc) (bools kd)) := b0
  have Hlen : Hid (kd.length ≤ 500 ∧ kf.length ≤ 500) := ⟨by omega, by omega⟩
  have HW1 : Hid (w.alloc (.cells #[.int .i64 (src : Int), .int .i64 (dst : Int), .int .i64 0, .slice ko kf.length kc, .int .i64 made, .slice ho hn hc, .int .i64 lost, .bool had, .int .i64 (mo : Int)] 201) = W1) := hW1.symm
  have HB1 : Hid (Below w.heap.size w W1) := hb1
  have Hk5 : Hid ((bothL kd kf).length ≤ es.length) := by unfold Hid; rw [bothL_len]; omega
  have HKS : Hid (kd = knowns[dst]) := by unfold Hid; subst hdst; exact hkd
  clear h hf b0 hkn bz hW1 kg hb1 hs1 hcl hrl a0 hkd hkf hdst hsrc hfv hdl ha
  go_enter Tryz.func89, Tryz.ntmps89
  go_wp2_with fail
  clear c1 c4 dn r0 r1 r2 r3 r4 r5 r6 r7 r8
  rw [HW1.out]
  obtain ⟨d1, -, ddn, -, -, g1, -⟩ := HCel.out W1 (Below.refl _ _)
  go_quiet (fail)
  clear d1 ddn g1
  have hbq : Below W1.heap.size W1 (W1.drewN nq) := below_drewN (Below.refl _ _) _
  generalize W1.drewN nq = W2 at *
  have HQ2 : Hid (Below W1.heap.size W1 W2) := hbq
  clear hbq
  obtain ⟨d1, d4, -, dk, -, g1, g3, g2, -⟩ := HCel.out _ HQ2.out
  go_wp2_with fail
  go_cut [9] from 93 to 105 (fun v9 wx => ∃ vo vn vc, v9 = .slice vo vn vc ∧ SliceT 4 wx (.slice vo vn vc) (bools (bothL kd kf)) ∧ Below W2.heap.size W2 wx)
  case first =>
    go_region_law (go_simp; refine Calls.mono (HBo.out _ W2 HQ2.out rfl rfl rfl rfl) ?_; rintro e w5 ⟨vo, vn, vc, rfl, h5⟩)
    all_goals
      go_wp2_with fail
      go_meet
      exact ⟨vo, vn, vc, rfl, h5.1, h5.2⟩
  case rest =>
  obtain ⟨vo, vn, vc, rfl, hv, hb3⟩ := hcut
  clear d1 d4 dk g1 g3 g2 HBo
  have HQ3 : Hid (Below W1.heap.size W1 wc) := HQ2.out.trans (hb3.mono HQ2.out.size)
  have HV : Hid (SliceT 4 wc (.slice vo vn vc) (bools (bothL kd kf))) := hv
  clear hv hb3
  generalize wc = W3 at *
  obtain ⟨d1, -, -, dk, -, g1, -, -, hbw3⟩ := HCel.out _ HQ3.out
  have HN : Hid (∀ (v : Value) (l : List Bool), (SliceT 4 W3 v (bools l) ∧ l.length ≤ 500) → ∀ q, Calls Tryz.prog 85 #[v] (W3.drewN q) fun e w' => e = .returned (.int .i64 (cnt l : Int)) ∧ w' = W3.drewN q) := fun v l hv q => Count_any W3.heap.size v l _ (by omega) (SliceT.below hv.1 (below_drewN (Below.refl _ _) q)).toIn
  have Pk : Hid (SliceT 4 W3 (.slice vo vn vc) (bools (bothL kd kf)) ∧ (bothL kd kf).length ≤ 500) := ⟨HV.out, by rw [bothL_len]; have := Hlen.out; omega⟩
  have Px : Hid (SliceT 4 W3 (.slice dko kd.length dkc) (bools kd) ∧ kd.length ≤ 500) := ⟨HKd.out.below hbw3, Hlen.out.1⟩
  have HB3 : Hid (Below w.heap.size w W3) := hbw3
  clear hbw3
  go_wp2_with fail
  go_quiet (first | (go_at_call 85; exact Calls.mono (HN.out _ _ (by first | exact Pk.out | exact Px.out) _) (fun _ _ h => ⟨h.1, _, h.2⟩)))
  clear HN Pk Px d1 dk g1
  have hbq : Below W3.heap.size W3 (W3.drewN nq) := below_drewN (Below.refl _ _) _
  have HQ4 : Hid (Below W1.heap.size W1 (W3.drewN nq)) := HQ3.out.trans (hbq.mono HQ3.out.size)
  have HV4 : Hid (SliceT 4 (W3.drewN nq) (.slice vo vn vc) (bools (bothL kd kf))) := HV.out.below hbq
  have HB4 : Hid (Below w.heap.size w (W3.drewN nq)) := HB3.out.trans (hbq.mono HB3.out.size)
  clear hbq HV HB3 HQ3
  generalize W3.drewN nq = W4 at *
  obtain ⟨-, -, -, -, g0, g1, -⟩ := HCel.out _ HQ4.out
  have hgl4 : w.heap.size < W4.heap.size := World.block_lt_of_cell? W4 ⟨w.heap.size, 0, none⟩ g0
  by_cases hgt : cnt kd < cnt (bothL kd kf)
  · have HGT : Hid (cnt kd < cnt (bothL kd kf)) := hgt
    have hgtI : (cnt kd : Int) < (cnt (bothL kd kf) : Int) := by omega
    have HWr : Hid (_) := write_any W4 c rb evv fv av room es acc most knowns (H.out.below HB4.out) dst hd (.slice vo vn vc) (bothL kd kf) HV4.out Hk5.out hmost false
    go_wp2_with fail
    refine Calls.mono HWr.out ?_
    rintro e w5 ⟨rfl, hr5, hc5⟩
    have HC5 : Hid (Chg (fun x => x = c ∨ x = rb ∨ fv.ownBlock = some x) w w5) := (Chg.of_below HB4.out).trans (hc5.mono (fun x _ e => Or.inr (Or.inl e)))
    have HR5 : Hid (RefAt w5 c rb evv fv av room es acc (most + 1) (knowns.set dst (bothL kd kf))) := hr5
    have hF4 := HF.out.below HB4.out
    have hR4 := H.out.below HB4.out
    have HF5 : Hid (FrAt w5 fv fs) := hF4.chg hc5 (fun g hg e => Tagged.ne (hF4.tag g hg) hR4.trb (by decide) e) (fun b hb e => Tagged.ne hb hR4.trb (by decide) e) (IntsKept.of_chg hc5 (fun b hb e => Tagged.ne hb hR4.trb (by decide) e))
    have hgr : w.heap.size ≠ rb := fun e => by have := H.out.trb.lt; omega
    have HG5 : Hid (w5.cell? ⟨w.heap.size, 0, none⟩ = some (.int .i64 (src : Int)) ∧ w5.cell? ⟨w.heap.size, 1, none⟩ = some (.int .i64 (dst : Int)) ∧ w.heap.size < w5.heap.size) := ⟨(World.cell?_of_block (w := W4) (a := ⟨w.heap.size, 0, none⟩) (hc5.block _ hgl4 hgr)).trans g0, (World.cell?_of_block (w := W4) (a := ⟨w.heap.size, 1, none⟩) (hc5.block _ hgl4 hgr)).trans g1, Nat.lt_of_lt_of_le hgl4 hc5.size⟩
    clear HWr hr5 hc5 hF4 hR4 hgr g0 g1 hgl4 hgt hgtI HV4 HB4
    generalize w5 = W5 at *
    obtain ⟨xs, x1, x2, x3⟩ := HF5.out
    have g4 : W5.cell? ⟨c, 4, none⟩ = some fv := HR5.out.f4
    have gcl : c < W5.heap.size := HR5.out.tc.lt
    have gcf := HR5.out.tc.frozen
    have g4A : ∀ o, (W5.alloc o).cell? ⟨c, 4, none⟩ = some fv := fun o => (((Below.refl _ W5).alloc (Nat.le_refl _) o).cell (p := ⟨c, 4, none⟩) gcl).trans g4
    have g0 := HG5.out.1
    have g1 := HG5.out.2.1
    have g0A : ∀ o, (W5.alloc o).cell? ⟨w.heap.size, 0, none⟩ = some (.int .i64 (src : Int)) := fun o => (((Below.refl _ W5).alloc (Nat.le_refl _) o).cell (p := ⟨w.heap.size, 0, none⟩) HG5.out.2.2).trans g0
    have g1A : ∀ o, (W5.alloc o).cell? ⟨w.heap.size, 1, none⟩ = some (.int .i64 (dst : Int)) := fun o => (((Below.refl _ W5).alloc (Nat.le_refl _) o).cell (p := ⟨w.heap.size, 1, none⟩) HG5.out.2.2).trans g1
    have Hx2 : Hid (W5.ownsRow 0 201 9 fv fs.length (frCells fs xs)) := x2
    have Hx3 : Hid (∀ j (h : j < fs.length) (h' : j < xs.length), FrOK W5 fs[j] xs[j]) := x3
    have Hne : Hid (fv.ownBlock ≠ some c) := HR5.out.frNo HF5.out
    have m1 : Hid (fs.length + 1 ≤ maxLen) := by unfold Hid maxLen; omega
    have m2 : Hid ((fs.length + 1) * 104 ≤ 140737488355328) := by unfold Hid; omega
    have hone : Hid (∀ u ∈ ([.int .i64 (dst : Int), .int .i64 (src : Int), .int .i64 ((k : Int) + 1), .slice none 0 0, .int .i64 0, .slice none 0 0, .int .i64 0, .bool false, .int .i64 80] : List Value), u.oneCell' = true) := by
      intro u hu
      simp only [List.mem_cons, List.mem_nil_iff, or_false] at hu
      rcases hu with rfl | rfl | rfl | rfl | rfl | rfl | rfl | rfl | rfl <;> rfl
    have HO5 : Hid (FrOK W5 ⟨dst, src, k + 1, [], b⟩ ⟨.slice none 0 0, 0, .slice none 0 0, 0, false, 80⟩) := ⟨Or.inl ⟨rfl, rfl⟩, by simp, ⟨[], Or.inl ⟨rfl, rfl⟩, by simp⟩, by decide, by decide⟩
    clear x2 x3
    go_wp2_with fail
    go_cut [] from 125 to 140 (fun wx => ∃ w9 g9 c9, wx = w9.setCell ⟨c, 4, none⟩ (.slice (some ⟨g9, 0, none⟩) (fs.length + 1) c9) ∧ Chg (fun k => fv.ownBlock = some k) W5 w9 ∧ w9.ownsRow 0 201 9 (.slice (some ⟨g9, 0, none⟩) (fs.length + 1) c9) (fs.length + 1) (frCells fs xs ++ [.int .i64 (dst : Int), .int .i64 (src : Int), .int .i64 ((k : Int) + 1), .slice none 0 0, .int .i64 0, .slice none 0 0, .int .i64 0, .bool false, .int .i64 80]) ∧ (fv.ownBlock = some g9 ∨ W5.heap.size ≤ g9))
    case first =>
      go_region_law (refine step_append_row rfl (.tmp 129) (.tmp 136) 150 rfl 201 iR (.agg #[.int .i64 0, .int .i64 0, .int .i64 0, .slice none 0 0, .int .i64 0, .slice none 0 0, .int .i64 0, .bool false, .int .i64 0]) 9 104 Tryz.underlying150 hiR hzR0 hzR1 hzR2 rfl (by decide) fv fs.length (frCells fs xs) rfl ?_ _ 1 1 [.int .i64 (dst : Int), .int .i64 (src : Int), .int .i64 ((k : Int) + 1), .slice none 0 0, .int .i64 0, .slice none 0 0, .int .i64 0, .bool false, .int .i64 80] rfl rfl ?_ hone.out m1.out m2.out (Nat.succ_pos _) ?_; (exact Hx2.out.alloc _); (intro j u hj; match j, hj with | 0, hj => (cases hj; simp [Addr.add]) | 1, hj => (cases hj; simp [Addr.add]) | 2, hj => (cases hj; simp [Addr.add]) | 3, hj => (cases hj; simp [Addr.add]) | 4, hj => (cases hj; simp [Addr.add]) | 5, hj => (cases hj; simp [Addr.add]) | 6, hj => (cases hj; simp [Addr.add]) | 7, hj => (cases hj; simp [Addr.add]) | 8, hj => (cases hj; simp [Addr.add])); intro g9 c9 w9 hown9 hg9 hnew9; have hC9 : Chg (fun k => fv.ownBlock = some k) W5 w9 := Chg.grown (Chg.of_below (by go_grown)) hg9 (fun k hk => Or.inl hk); have k4 := (World.cell?_of_block (w := W5) (a := ⟨c, 4, none⟩) (hC9.block c gcl Hne.out)).trans g4; have kf9 : ∀ j, w9.frozen? ⟨c, j, none⟩ = false := fun j => (World.frozen?_of_block (w := W5) (a := ⟨c, j, none⟩) (hC9.block c gcl Hne.out)).trans (gcf j))
      all_goals
        go_wp2_with fail
        go_meet
        refine ⟨w9, g9, c9, rfl, hC9, hown9, ?_⟩
        rcases hnew9 with h | h
        · exact Or.inl h
        · exact Or.inr (by simp at h; omega)
    case rest =>
    obtain ⟨w9, g9, c9, rfl, hC9, hown9, hnew9⟩ := hcut
    have hfin := fr_more HR5.out HF5.out hC9 ⟨dst, src, k + 1, [], b⟩ ⟨.slice none 0 0, 0, .slice none 0 0, 0, false, 80⟩ HO5.out xs x1 Hx3.out hown9
    have HFin : Hid (RefAt (w9.setCell ⟨c, 4, none⟩ (.slice (some ⟨g9, 0, none⟩) (fs.length + 1) c9)) c rb evv (.slice (some ⟨g9, 0, none⟩) (fs.length + 1) c9) av room es acc (most + 1) (knowns.set dst (bothL kd kf)) ∧ FrAt (w9.setCell ⟨c, 4, none⟩ (.slice (some ⟨g9, 0, none⟩) (fs.length + 1) c9)) (.slice (some ⟨g9, 0, none⟩) (fs.length + 1) c9) (fs ++ [⟨dst, src, k + 1, [], b⟩])) := hfin
    have r4 := hfin.1.f4
    have HX : Hid (Chg (fun x => x = c ∨ x = rb ∨ fv.ownBlock = some x) w (w9.setCell ⟨c, 4, none⟩ (.slice (some ⟨g9, 0, none⟩) (fs.length + 1) c9)) ∧ (fv.ownBlock = some g9 ∨ w.heap.size ≤ g9)) := ⟨Chg.setCell (M := fun x => x = c ∨ x = rb ∨ fv.ownBlock = some x) (p := ⟨c, 4, none⟩) (HC5.out.trans (hC9.mono (fun k _ hk => Or.inr (Or.inr hk)))) (Or.inl rfl) _, hnew9.imp id (fun h => Nat.le_trans HC5.out.size h)⟩
    clear hfin hC9 hown9 hnew9 g4 gcf g4A g0 g1 g0A g1A Hx2 Hx3 hone m1 m2
    generalize w9.setCell ⟨c, 4, none⟩ (.slice (some ⟨g9, 0, none⟩) (fs.length + 1) c9) = W9 at *
    go_wp2_with fail
    go_ret2
    exact ⟨by first | rfl | (congr 2; go_num), _, by first | exact HFin.out.1 | (rw [if_pos HGT.out]; exact HFin.out.1), HFin.out.2, HX.out.1, fun g hg => by cases hg; exact HX.out.2⟩
  · have HGT : Hid (¬ cnt kd < cnt (bothL kd kf)) := hgt
    have hgtI : ¬ (cnt kd : Int) < (cnt (bothL kd kf) : Int) := by omega
    have HC5 : Hid (Chg (fun x => x = c ∨ x = rb ∨ fv.ownBlock = some x) w W4) := Chg.of_below HB4.out
    have hset : knowns.set dst kd = knowns := by rw [HKS.out, List.set_getElem_self]
    have HR5 : Hid (RefAt W4 c rb evv fv av room es acc (most + 1) (knowns.set dst kd)) := by
      unfold Hid; rw [hset]
      exact (H.out.below HB4.out).most_mono (by omega) hmost
    have HF5 : Hid (FrAt W4 fv fs) := HF.out.below HB4.out
    have HG5 : Hid (W4.cell? ⟨w.heap.size, 0, none⟩ = some (.int .i64 (src : Int)) ∧ W4.cell? ⟨w.heap.size, 1, none⟩ = some (.int .i64 (dst : Int)) ∧ w.heap.size < W4.heap.size) := ⟨g0, g1, hgl4⟩
    clear g0 g1 hgl4 hgt HV4 HB4 hset
    generalize W4 = W5 at *
    obtain ⟨xs, x1, x2, x3⟩ := HF5.out
    have g4 : W5.cell? ⟨c, 4, none⟩ = some fv := HR5.out.f4
    have gcl : c < W5.heap.size := HR5.out.tc.lt
    have gcf := HR5.out.tc.frozen
    have g4A : ∀ o, (W5.alloc o).cell? ⟨c, 4, none⟩ = some fv := fun o => (((Below.refl _ W5).alloc (Nat.le_refl _) o).cell (p := ⟨c, 4, none⟩) gcl).trans g4
    have g0 := HG5.out.1
    have g1 := HG5.out.2.1
    have g0A : ∀ o, (W5.alloc o).cell? ⟨w.heap.size, 0, none⟩ = some (.int .i64 (src : Int)) := fun o => (((Below.refl _ W5).alloc (Nat.le_refl _) o).cell (p := ⟨w.heap.size, 0, none⟩) HG5.out.2.2).trans g0
    have g1A : ∀ o, (W5.alloc o).cell? ⟨w.heap.size, 1, none⟩ = some (.int .i64 (dst : Int)) := fun o => (((Below.refl _ W5).alloc (Nat.le_refl _) o).cell (p := ⟨w.heap.size, 1, none⟩) HG5.out.2.2).trans g1
    have Hx2 : Hid (W5.ownsRow 0 201 9 fv fs.length (frCells fs xs)) := x2
    have Hx3 : Hid (∀ j (h : j < fs.length) (h' : j < xs.length), FrOK W5 fs[j] xs[j]) := x3
    have Hne : Hid (fv.ownBlock ≠ some c) := HR5.out.frNo HF5.out
    have m1 : Hid (fs.length + 1 ≤ maxLen) := by unfold Hid maxLen; omega
    have m2 : Hid ((fs.length + 1) * 104 ≤ 140737488355328) := by unfold Hid; omega
    have hone : Hid (∀ u ∈ ([.int .i64 (dst : Int), .int .i64 (src : Int), .int .i64 ((k : Int) + 1), .slice none 0 0, .int .i64 0, .slice none 0 0, .int .i64 0, .bool false, .int .i64 80] : List Value), u.oneCell' = true) := by
      intro u hu
      simp only [List.mem_cons, List.mem_nil_iff, or_false] at hu
      rcases hu with rfl | rfl | rfl | rfl | rfl | rfl | rfl | rfl | rfl <;> rfl
    have HO5 : Hid (FrOK W5 ⟨dst, src, k + 1, [], b⟩ ⟨.slice none 0 0, 0, .slice none 0 0, 0, false, 80⟩) := ⟨Or.inl ⟨rfl, rfl⟩, by simp, ⟨[], Or.inl ⟨rfl, rfl⟩, by simp⟩, by decide, by decide⟩
    clear x2 x3
    go_wp2_with fail
    go_cut [] from 125 to 140 (fun wx => ∃ w9 g9 c9, wx = w9.setCell ⟨c, 4, none⟩ (.slice (some ⟨g9, 0, none⟩) (fs.length + 1) c9) ∧ Chg (fun k => fv.ownBlock = some k) W5 w9 ∧ w9.ownsRow 0 201 9 (.slice (some ⟨g9, 0, none⟩) (fs.length + 1) c9) (fs.length + 1) (frCells fs xs ++ [.int .i64 (dst : Int), .int .i64 (src : Int), .int .i64 ((k : Int) + 1), .slice none 0 0, .int .i64 0, .slice none 0 0, .int .i64 0, .bool false, .int .i64 80]) ∧ (fv.ownBlock = some g9 ∨ W5.heap.size ≤ g9))
    case first =>
      go_region_law (refine step_append_row rfl (.tmp 129) (.tmp 136) 150 rfl 201 iR (.agg #[.int .i64 0, .int .i64 0, .int .i64 0, .slice none 0 0, .int .i64 0, .slice none 0 0, .int .i64 0, .bool false, .int .i64 0]) 9 104 Tryz.underlying150 hiR hzR0 hzR1 hzR2 rfl (by decide) fv fs.length (frCells fs xs) rfl ?_ _ 1 1 [.int .i64 (dst : Int), .int .i64 (src : Int), .int .i64 ((k : Int) + 1), .slice none 0 0, .int .i64 0, .slice none 0 0, .int .i64 0, .bool false, .int .i64 80] rfl rfl ?_ hone.out m1.out m2.out (Nat.succ_pos _) ?_; (exact Hx2.out.alloc _); (intro j u hj; match j, hj with | 0, hj => (cases hj; simp [Addr.add]) | 1, hj => (cases hj; simp [Addr.add]) | 2, hj => (cases hj; simp [Addr.add]) | 3, hj => (cases hj; simp [Addr.add]) | 4, hj => (cases hj; simp [Addr.add]) | 5, hj => (cases hj; simp [Addr.add]) | 6, hj => (cases hj; simp [Addr.add]) | 7, hj => (cases hj; simp [Addr.add]) | 8, hj => (cases hj; simp [Addr.add])); intro g9 c9 w9 hown9 hg9 hnew9; have hC9 : Chg (fun k => fv.ownBlock = some k) W5 w9 := Chg.grown (Chg.of_below (by go_grown)) hg9 (fun k hk => Or.inl hk); have k4 := (World.cell?_of_block (w := W5) (a := ⟨c, 4, none⟩) (hC9.block c gcl Hne.out)).trans g4; have kf9 : ∀ j, w9.frozen? ⟨c, j, none⟩ = false := fun j => (World.frozen?_of_block (w := W5) (a := ⟨c, j, none⟩) (hC9.block c gcl Hne.out)).trans (gcf j))
      all_goals
        go_wp2_with fail
        go_meet
        refine ⟨w9, g9, c9, rfl, hC9, hown9, ?_⟩
        rcases hnew9 with h | h
        · exact Or.inl h
        · exact Or.inr (by simp at h; omega)
    case rest =>
    obtain ⟨w9, g9, c9, rfl, hC9, hown9, hnew9⟩ := hcut
    have hfin := fr_more HR5.out HF5.out hC9 ⟨dst, src, k + 1, [], b⟩ ⟨.slice none 0 0, 0, .slice none 0 0, 0, false, 80⟩ HO5.out xs x1 Hx3.out hown9
    have HFin : Hid (RefAt (w9.setCell ⟨c, 4, none⟩ (.slice (some ⟨g9, 0, none⟩) (fs.length + 1) c9)) c rb evv (.slice (some ⟨g9, 0, none⟩) (fs.length + 1) c9) av room es acc (most + 1) (knowns.set dst kd) ∧ FrAt (w9.setCell ⟨c, 4, none⟩ (.slice (some ⟨g9, 0, none⟩) (fs.length + 1) c9)) (.slice (some ⟨g9, 0, none⟩) (fs.length + 1) c9) (fs ++ [⟨dst, src, k + 1, [], b⟩])) := hfin
    have r4 := hfin.1.f4
    have HX : Hid (Chg (fun x => x = c ∨ x = rb ∨ fv.ownBlock = some x) w (w9.setCell ⟨c, 4, none⟩ (.slice (some ⟨g9, 0, none⟩) (fs.length + 1) c9)) ∧ (fv.ownBlock = some g9 ∨ w.heap.size ≤ g9)) := ⟨Chg.setCell (M := fun x => x = c ∨ x = rb ∨ fv.ownBlock = some x) (p := ⟨c, 4, none⟩) (HC5.out.trans (hC9.mono (fun k _ hk => Or.inr (Or.inr hk)))) (Or.inl rfl) _, hnew9.imp id (fun h => Nat.le_trans HC5.out.size h)⟩
    clear hfin hC9 hown9 hnew9 g4 gcf g4A g0 g1 g0A g1A Hx2 Hx3 hone m1 m2
    generalize w9.setCell ⟨c, 4, none⟩ (.slice (some ⟨g9, 0, none⟩) (fs.length + 1) c9) = W9 at *
    go_wp2_with fail
    go_ret2
    exact ⟨by first | rfl | (congr 2; go_num), _, by first | exact HFin.out.1 | (rw [if_neg HGT.out]; exact HFin.out.1), HFin.out.2, HX.out.1, fun g hg => by cases hg; exact HX.out.2⟩
end Go.Proofs.YtoiiaankpnhppaaGreatDoor
namespace Go.Proofs.YtoiiaankpnhppaaGreatDoor
open Go.RowKit

set_option maxHeartbeats 4000000 in
set_option maxRecDepth 100000 in
theorem RefSend_no (w : World) (c rb : Nat) (evv fv : Value) (av : Nat → Value) (room : Nat) (es : List Ev) (acc most : Nat) (knowns : List (List Bool)) (h : RefAt w c rb evv fv av room es acc most knowns) (i j : Int) (hij : ¬ ((0 ≤ i ∧ i < knowns.length) ∧ (0 ≤ j ∧ j < knowns.length))) :
    Calls Tryz.prog 88 #[.pointer (some ⟨c, 0, none⟩), .int .i64 i, .int .i64 j] w fun e w' => e = .returned (.tuple #[.int .i64 0, .int .i64 2]) ∧ w' = w := by
  have HU : Hid (∀ i : Int, Calls Tryz.prog 83 #[.pointer (some ⟨c, 0, none⟩), .int .i64 i] w fun e w' => e = .returned (.int .i64 (if 0 ≤ i ∧ i < knowns.length then 0 else 2)) ∧ w' = w) := fun i => Up_any w c rb evv fv av room es acc most knowns h i
  clear h
  by_cases hi : 0 ≤ i ∧ i < knowns.length
  · have hj : ¬ (0 ≤ j ∧ j < knowns.length) := fun hj => hij ⟨hi, hj⟩
    have HI : Hid (_) := HU.out i
    have HJ : Hid (_) := HU.out j
    rw [if_pos hi] at HI
    rw [if_neg hj] at HJ
    clear hi hj hij HU
    go_enter Tryz.func88, Tryz.ntmps88
    go_wp2_with fail
    refine Calls.mono HI.out ?_
    rintro e w1 ⟨rfl, rfl⟩
    go_wp2_with fail
    refine Calls.mono HJ.out ?_
    rintro e w1 ⟨rfl, rfl⟩
    go_wp2_with fail
    go_ret2
    exact ⟨rfl, rfl⟩
  · have HI : Hid (_) := HU.out i
    rw [if_neg hi] at HI
    clear hi hij HU
    go_enter Tryz.func88, Tryz.ntmps88
    go_wp2_with fail
    refine Calls.mono HI.out ?_
    rintro e w1 ⟨rfl, rfl⟩
    go_wp2_with fail
    go_ret2
    exact ⟨rfl, rfl⟩

set_option maxHeartbeats 4000000 in
set_option maxRecDepth 100000 in
theorem RefSend_bad (w : World) (c rb : Nat) (evv fv : Value) (av : Nat → Value) (room : Nat) (es : List Ev) (acc most : Nat) (knowns : List (List Bool)) (h : RefAt w c rb evv fv av room es acc most knowns) (fs : List FrD) (hf : FrAt w fv fs) (h500 : fs.length ≤ 500) (i j : Int) (hi : 0 ≤ i ∧ i < knowns.length) (hj : 0 ≤ j ∧ j < knowns.length) (hx : i = j ∨ 500 ≤ fs.length) :
    Calls Tryz.prog 88 #[.pointer (some ⟨c, 0, none⟩), .int .i64 i, .int .i64 j] w fun e w' => e = .returned (.tuple #[.int .i64 0, .int .i64 (if i = j then 1 else 7)]) ∧ w' = w := by
  have HI : Hid (_) := Up_any w c rb evv fv av room es acc most knowns h i
  have HJ : Hid (_) := Up_any w c rb evv fv av room es acc most knowns h j
  rw [if_pos hi] at HI
  rw [if_pos hj] at HJ
  obtain ⟨fo, fc, hfv, hfc⟩ := hf.shape
  have f4 : w.cell? ⟨c, 4, none⟩ = some (.slice fo fs.length fc) := by rw [← hfv]; exact h.f4
  clear h hf hfv hi hj
  by_cases hij : i = j
  · rw [if_pos hij]
    subst hij
    clear hx
    go_enter Tryz.func88, Tryz.ntmps88
    go_wp2_with fail
    refine Calls.mono HI.out ?_
    rintro e w1 ⟨rfl, rfl⟩
    go_wp2_with fail
    refine Calls.mono HJ.out ?_
    rintro e w1 ⟨rfl, rfl⟩
    go_wp2_with fail
    go_ret2
    exact ⟨rfl, rfl⟩
  · rw [if_neg hij]
    have hb : (i == j) = false := beq_eq_false_iff_ne.2 hij
    have h5 : 500 ≤ fs.length := hx.resolve_left hij
    have h5I : (500 : Int) ≤ (fs.length : Int) := by omega
    clear hx hij
    go_enter Tryz.func88, Tryz.ntmps88
    go_wp2_with fail
    refine Calls.mono HI.out ?_
    rintro e w1 ⟨rfl, rfl⟩
    go_wp2_with fail
    refine Calls.mono HJ.out ?_
    rintro e w1 ⟨rfl, rfl⟩
    go_wp2_with fail
    go_ret2
    exact ⟨rfl, rfl⟩

structure FrInv (s : St) : Prop where
  f500 : s.fs.length ≤ 500
  src : ∀ f ∈ s.fs, f.src < s.kn.length ∧ f.dst < s.kn.length ∧ f.ack ≤ s.fs.length ∧ f.known.length ≤ s.es.length
  cnt : ∀ f ∈ s.fs, f.ack = 0 → cnt f.known ≤ cnt (s.kn.getD f.src [])
def AckAt (w : World) (av : Nat → Value) (n : Nat) (ab : Nat → Nat) : Prop := ∀ i, i < n → av i = .slice (some ⟨ab i, 0, none⟩) n n ∧ ∃ kl : List Int, kl.length = n ∧ SliceT 3 w (av i) (ints kl)
theorem AckAt.ints {w w' : World} {av : Nat → Value} {n : Nat} {ab : Nat → Nat} (h : AckAt w av n ab) (hk : IntsKept w w') : AckAt w' av n ab := fun i hi => by
  obtain ⟨h1, kl, h2, h3⟩ := h i hi
  obtain ⟨kl', h4, h5⟩ := h3.numbers hk
  exact ⟨h1, kl', by omega, h5⟩
theorem AckAt.tag {w : World} {av : Nat → Value} {n : Nat} {ab : Nat → Nat} (h : AckAt w av n ab) (i : Nat) (hi : i < n) : Tagged w (ab i) 3 := by
  obtain ⟨h1, kl, h2, h3⟩ := h i hi
  rw [h1] at h3
  rcases h3 with ⟨e1, _⟩ | ⟨b, off, cap, e1, _, e3, _⟩
  · cases e1
  · simp only [Value.slice.injEq, Option.some.injEq, Addr.mk.injEq] at e1
    obtain ⟨⟨e1, _⟩, _⟩ := e1
    rw [e1]
    exact e3

structure RefC (w : World) (c : Nat) (R : Nat → Prop) (s : St) (rb : Nat) (evv fv : Value) (av : Nat → Value) (room : Nat) (ab : Nat → Nat) : Prop where
  r : RefAt w c rb evv fv av room s.es s.es.length (s.es.length + (s.fs.length - 1)) s.kn
  f : FrAt w fv s.fs
  a : AckAt w av s.kn.length ab
  i : FrInv s
  own : ∀ k, R k ↔ k = c ∨ k = rb ∨ evv.ownBlock = some k ∨ fv.ownBlock = some k ∨ ∃ j, j < s.kn.length ∧ ab j = k
def RefG (w : World) (c : Nat) (R : Nat → Prop) (s : St) : Prop := ∃ rb evv fv av room ab, RefC w c R s rb evv fv av room ab

theorem ref_frame : RefFrame RefG := {
  stable := by
    rintro M w w' c R s ⟨rb, evv, fv, av, room, ab, h⟩ hc hR hb hi
    have hm := fun k hk => hR k ((h.own k).2 hk)
    exact ⟨rb, evv, fv, av, room, ab, h.r.chg hc (hm _ (Or.inl rfl)) (hm _ (Or.inr (Or.inl rfl))) (fun g hg => hm _ (Or.inr (Or.inr (Or.inl hg)))) hb hi, h.f.chg hc (fun g hg => hm _ (Or.inr (Or.inr (Or.inr (Or.inl hg))))) hb hi, h.a.ints hi, h.i, h.own⟩
  tags := by
    rintro w c R s k ⟨rb, evv, fv, av, room, ab, h⟩ hk
    rcases (h.own k).1 hk with rfl | rfl | hk | hk | ⟨j, hj, rfl⟩
    · exact ⟨_, Or.inl rfl, h.r.tc⟩
    · exact ⟨_, Or.inr (Or.inl rfl), h.r.trb⟩
    · exact ⟨_, Or.inr (Or.inr (Or.inl rfl)), (h.r.evLt k hk).2⟩
    · exact ⟨_, Or.inr (Or.inr (Or.inr (Or.inl rfl))), h.f.tag k hk⟩
    · exact ⟨_, Or.inr (Or.inr (Or.inr (Or.inr rfl))), h.a.tag j hj⟩ }
theorem ref_new : RefNew RefG := {
  good := by
    intro r room w h1 h6 h50
    refine Calls.mono (Fresh_good r room w h1 h6 h50) ?_
    rintro e w' ⟨rb, avs, rfl, hr, hav, hal, hb, hrb⟩
    have hat : ∀ i, i < r → ∃ b, avs.getD i .nilFunc = .slice (some ⟨b, 0, none⟩) r r ∧ w.heap.size ≤ b ∧ ∃ kl : List Int, kl.length = r ∧ SliceT 3 w' (avs.getD i .nilFunc) (ints kl) := fun i hi => by
      have hi' : i < avs.length := by omega
      have hm : avs.getD i .nilFunc ∈ avs := by
        rw [List.getD_eq_getElem?_getD, List.getElem?_eq_getElem hi']; exact List.getElem_mem hi'
      obtain ⟨b, kl, g1, g2, g3, g4⟩ := hav _ hm
      exact ⟨b, g1, g2, kl, g3, g4⟩
    obtain ⟨ab, hab⟩ : ∃ ab : Nat → Nat, ∀ i, i < r → avs.getD i .nilFunc = .slice (some ⟨ab i, 0, none⟩) r r ∧ w.heap.size ≤ ab i ∧ ∃ kl : List Int, kl.length = r ∧ SliceT 3 w' (avs.getD i .nilFunc) (ints kl) :=
      ⟨fun i => if h : i < r then (hat i h).choose else 0, fun i hi => by
        simp only [hi, dite_true]
        exact (hat i hi).choose_spec⟩
    refine ⟨w.heap.size, fun k => k = w.heap.size ∨ k = rb ∨ (Value.slice none 0 0).ownBlock = some k ∨ (Value.slice none 0 0).ownBlock = some k ∨ ∃ j, j < (List.replicate r ([] : List Bool)).length ∧ ab j = k, rfl, ⟨rb, .slice none 0 0, .slice none 0 0, fun i => avs.getD i .nilFunc, room, ab, hr, FrAt.nil w', fun i hi => ?_, ⟨by simp, fun f hf => absurd hf (by simp), fun f hf => absurd hf (by simp)⟩, fun k => Iff.rfl⟩, fun k hk => ?_, hb⟩
    · have hi' : i < r := by simpa using hi
      obtain ⟨g1, _, g3⟩ := hab i hi'
      simp only [List.length_replicate]
      exact ⟨g1, g3⟩
    · rcases hk with rfl | rfl | hk | hk | ⟨j, hj, rfl⟩
      · exact Nat.le_refl _
      · exact hrb
      · cases hk
      · cases hk
      · exact (hab j (by simpa using hj)).2.1 }

theorem cnt_moreOf (known : List Bool) (n : Nat) : cnt known ≤ cnt (moreOf known n) := by
  unfold moreOf cnt
  rw [List.filter_append, List.filter_append, List.length_append, List.length_append]
  omega
theorem cnt_delK (a b : List Bool) : cnt a ≤ cnt (delK a b) := by
  unfold delK
  split
  · omega
  · exact Nat.le_refl _
theorem knget (kn : List (List Bool)) (k : Nat) (hk : k < kn.length) : kn.getD k [] = kn[k] := by simp [hk]
theorem getDs (kn : List (List Bool)) (k : Nat) (hk : k < kn.length) (a : List Bool) (j : Nat) : (kn.set k a).getD j [] = if k = j then a else kn.getD j [] := by
  rw [List.getD_eq_getElem?_getD, List.getElem?_set]
  by_cases e : k = j
  · subst e; simp [hk]
  · rw [if_neg e, if_neg e, List.getD_eq_getElem?_getD]

theorem ref_ok : RefOK RefG := {
  up := by
    rintro w c R s i ⟨rb, evv, fv, av, room, ab, h⟩
    exact Up_any w c rb evv fv av room s.es _ _ s.kn h.r i
  does := by
    rintro w c R s i t ⟨rb, evv, fv, av, room, ab, h⟩ ht
    have hn5 := h.r.n500
    have hf5 := h.i.f500
    refine Calls.mono (RefDo_any w c rb evv fv av room s.es (s.es.length + (s.fs.length - 1)) (by omega) s.kn h.r i t ht) ?_
    rintro e w' ⟨r, evv', es', kn', rfl, hd, hr, hc, hev⟩
    have hno : ∀ {b : Nat} {t : TypeId}, Tagged w b t → t = 4 ∨ t = 3 ∨ t = 201 → ¬ (b = c ∨ b = rb ∨ evv.ownBlock = some b) := by
      rintro b t hb ht (e | e | e)
      · exact Tagged.ne hb h.r.tc (by rcases ht with rfl | rfl | rfl <;> decide) e
      · exact Tagged.ne hb h.r.trb (by rcases ht with rfl | rfl | rfl <;> decide) e
      · exact Tagged.ne hb (h.r.evLt b e).2 (by rcases ht with rfl | rfl | rfl <;> decide) rfl
    have hi : IntsKept w w' := IntsKept.of_chg hc (fun b hb => hno hb (Or.inr (Or.inl rfl)))
    have hF := h.f.chg hc (fun g hg => hno (h.f.tag g hg) (Or.inr (Or.inr rfl))) (fun b hb => hno hb (Or.inl rfl)) hi
    have hkl : kn'.length = s.kn.length ∧ s.es.length ≤ es'.length ∧ ∀ j, cnt (s.kn.getD j []) ≤ cnt (kn'.getD j []) := by
      rcases hd with ⟨_, _, rfl, rfl⟩ | ⟨_, _, _, _, rfl, rfl⟩ | ⟨_, _, _, _, _, rfl, rfl⟩ | ⟨c', e', hi', _, _, _, _, _, _, _, _, rfl, rfl⟩
      · exact ⟨rfl, Nat.le_refl _, fun _ => Nat.le_refl _⟩
      · exact ⟨rfl, Nat.le_refl _, fun _ => Nat.le_refl _⟩
      · exact ⟨rfl, Nat.le_refl _, fun _ => Nat.le_refl _⟩
      · refine ⟨by simp, by simp, fun j => ?_⟩
        rw [getDs _ _ (by omega)]
        by_cases e9 : i.toNat = j
        · rw [if_pos e9, ← e9]; exact cnt_moreOf _ _
        · rw [if_neg e9]; exact Nat.le_refl _
    have hm : s.es.length + (s.fs.length - 1) + (es'.length - s.es.length) = es'.length + (s.fs.length - 1) := by omega
    rw [hm] at hr
    refine ⟨r, es', kn', rfl, hd, fun k => k = c ∨ k = rb ∨ evv'.ownBlock = some k ∨ fv.ownBlock = some k ∨ ∃ j, j < kn'.length ∧ ab j = k, ⟨rb, evv', fv, av, room, ab, hr, hF, ?_, ⟨hf5, fun f hf => ?_, fun f hf h0 => Nat.le_trans (h.i.cnt f hf h0) (hkl.2.2 _)⟩, fun k => Iff.rfl⟩, fun k hk => ?_, hc.mono (fun x _ hx => (h.own x).2 ?_), hi⟩
    · show AckAt w' av kn'.length ab
      rw [hkl.1]; exact h.a.ints hi
    · obtain ⟨q1, q2, q3, q4⟩ := h.i.src f hf
      exact ⟨by rw [hkl.1]; exact q1, by rw [hkl.1]; exact q2, q3, Nat.le_trans q4 hkl.2.1⟩
    · rcases hk with hk | hk | hk | hk | ⟨j, hj, hk⟩
      · exact Or.inl ((h.own k).2 (Or.inl hk))
      · exact Or.inl ((h.own k).2 (Or.inr (Or.inl hk)))
      · rcases hev with he | ⟨g, he, hg⟩
        · exact Or.inl ((h.own k).2 (Or.inr (Or.inr (Or.inl (he.symm.trans hk)))))
        · rw [he] at hk; cases hk; exact Or.inr hg
      · exact Or.inl ((h.own k).2 (Or.inr (Or.inr (Or.inr (Or.inl hk)))))
      · exact Or.inl ((h.own k).2 (Or.inr (Or.inr (Or.inr (Or.inr ⟨j, by rw [← hkl.1]; exact hj, hk⟩)))))
    · rcases hx with hx | hx | hx
      · exact Or.inl hx
      · exact Or.inr (Or.inl hx)
      · exact Or.inr (Or.inr (Or.inl hx))
  asks := by
    rintro w c R s i t ⟨rb, evv, fv, av, room, ab, h⟩ ht
    exact RefAsk_any w c rb evv fv av room s.es _ _ s.kn h.r i t ht
  cells := by
    rintro w c R s ⟨rb, evv, fv, av, room, ab, h⟩
    obtain ⟨cap, f1, hcap⟩ := h.r.f1
    refine ⟨h.r.n6, rb, cap, f1, hcap, fun i hi => ?_⟩
    obtain ⟨⟨kv, a0, b0⟩, _⟩ := h.r.reps i hi
    have := h.r.kn _ (List.getElem_mem hi)
    have := h.r.n500
    exact ⟨kv, a0, b0, by omega⟩
  sends := by
    rintro w c R s i j s' ⟨rb, evv, fv, av, room, ab, h⟩ ⟨t1, t2, t3⟩
    obtain ⟨es', kn', fs'⟩ := s'
    simp only at t1 t2 t3
    subst t1 t2
    have same : ∀ (n r : Int), sendR s i j = (n, r) → r ≠ 0 → fs' = s.fs → (Ending.returned (.tuple #[.int .i64 n, .int .i64 r]) : Ending) = .returned (.tuple #[.int .i64 (sendR s i j).1, .int .i64 (sendR s i j).2]) ∧ ∃ R', RefG w c R' ⟨s.es, s.kn, fs'⟩ ∧ (∀ k, R' k → R k ∨ w.heap.size ≤ k) ∧ Chg R w w ∧ IntsKept w w := fun n r e1 _ e3 => ⟨by rw [e1], R, by rw [e3]; exact ⟨rb, evv, fv, av, room, ab, h⟩, fun k hk => Or.inl hk, Chg.refl _ _, IntsKept.of_below (Below.refl _ _)⟩
    by_cases hb : (0 ≤ i ∧ i < s.kn.length) ∧ (0 ≤ j ∧ j < s.kn.length)
    · by_cases hij : i = j
      · have e1 : sendR s i j = (0, 1) := by unfold sendR; rw [if_pos hb, if_pos hij]
        rw [e1, if_neg (by decide)] at t3
        refine Calls.mono (RefSend_bad w c rb evv fv av room s.es _ _ s.kn h.r s.fs h.f h.i.f500 i j hb.1 hb.2 (Or.inl hij)) ?_
        rw [if_pos hij]
        rintro e w' ⟨rfl, rfl⟩
        exact same 0 1 e1 (by decide) t3
      · by_cases h5 : 500 ≤ s.fs.length
        · have e1 : sendR s i j = (0, 7) := by unfold sendR; rw [if_pos hb, if_neg hij, if_pos h5]
          rw [e1, if_neg (by decide)] at t3
          refine Calls.mono (RefSend_bad w c rb evv fv av room s.es _ _ s.kn h.r s.fs h.f h.i.f500 i j hb.1 hb.2 (Or.inr h5)) ?_
          rw [if_neg hij]
          rintro e w' ⟨rfl, rfl⟩
          exact same 0 7 e1 (by decide) t3
        · obtain ⟨k, rfl⟩ := Int.eq_ofNat_of_zero_le hb.1.1
          obtain ⟨k', rfl⟩ := Int.eq_ofNat_of_zero_le hb.2.1
          have hk : k < s.kn.length := by omega
          have hk' : k' < s.kn.length := by omega
          have e1 : sendR s (k : Int) (k' : Int) = ((s.fs.length : Int) + 1, 0) := by unfold sendR; rw [if_pos hb, if_neg hij, if_neg h5]
          rw [e1, if_pos rfl] at t3
          obtain ⟨b, rfl⟩ := t3
          refine Calls.mono (RefSend_ok w c rb evv fv av room s.es _ _ s.kn h.r s.fs h.f k k' hk hk' (by omega) (by omega) (fun f hf h0 hs => by have := h.i.cnt f hf h0; rw [hs, knget _ _ hk] at this; exact this) ⟨_, _, _, (h.a k hk).1⟩ b) ?_
          rintro e w' ⟨rfl, fv', hr, hF, hc, hn⟩
          have hno : ∀ {b : Nat}, Tagged w b 3 → ¬ (b = c ∨ fv.ownBlock = some b) := by
            rintro b hb (e | e)
            · exact Tagged.ne hb h.r.tc (by decide) e
            · exact Tagged.ne hb (h.f.tag b e) (by decide) rfl
          have hi : IntsKept w w' := IntsKept.of_chg hc (fun b hb => hno hb)
          have hf5 := h.i.f500
          have hn5 := h.r.n500
          refine ⟨by rw [e1], fun g => g = c ∨ g = rb ∨ evv.ownBlock = some g ∨ fv'.ownBlock = some g ∨ ∃ j, j < s.kn.length ∧ ab j = g, ⟨rb, evv, fv', av, room, ab, hr.most_mono (by simp only [List.length_append, List.length_singleton]; omega) (by simp only [List.length_append, List.length_singleton]; omega), by show FrAt w' fv' (s.fs ++ [(⟨((k : Int)).toNat, ((k' : Int)).toNat, 0, s.kn.getD ((k : Int)).toNat [], b⟩ : FrD)]); simp only [Int.toNat_natCast]; rw [knget _ _ hk]; exact hF, h.a.ints hi, ⟨by simp; omega, fun f hf => ?_, fun f hf h0 => ?_⟩, fun g => Iff.rfl⟩, fun g hg => ?_, hc.mono (fun x _ hx => (h.own x).2 (hx.elim Or.inl (fun hx => Or.inr (Or.inr (Or.inr (Or.inl hx)))))), hi⟩
          · rcases List.mem_append.1 hf with h1 | h1
            · obtain ⟨q1, q2, q3, q4⟩ := h.i.src f h1
              exact ⟨q1, q2, by simp; omega, q4⟩
            · have e9 : f = _ := List.mem_singleton.1 h1
              subst e9
              refine ⟨hk, hk', by simp, ?_⟩
              simp only [Int.toNat_natCast]
              rw [knget _ _ hk]
              exact h.r.kn _ (List.getElem_mem hk)
          · rcases List.mem_append.1 hf with h1 | h1
            · exact h.i.cnt f h1 h0
            · have e9 : f = _ := List.mem_singleton.1 h1
              subst e9
              exact Nat.le_refl _
          · rcases hg with hg | hg | hg | hg | hg
            · exact Or.inl ((h.own g).2 (Or.inl hg))
            · exact Or.inl ((h.own g).2 (Or.inr (Or.inl hg)))
            · exact Or.inl ((h.own g).2 (Or.inr (Or.inr (Or.inl hg))))
            · exact (hn g hg).imp (fun h9 => (h.own g).2 (Or.inr (Or.inr (Or.inr (Or.inl h9))))) id
            · exact Or.inl ((h.own g).2 (Or.inr (Or.inr (Or.inr (Or.inr hg)))))
    · have e1 : sendR s i j = (0, 2) := by unfold sendR; rw [if_neg hb]
      rw [e1, if_neg (by decide)] at t3
      refine Calls.mono (RefSend_no w c rb evv fv av room s.es _ _ s.kn h.r i j hb) ?_
      rintro e w' ⟨rfl, rfl⟩
      exact same 0 2 e1 (by decide) t3
  dels := by
    rintro w c R s f s' ⟨rb, evv, fv, av, room, ab, h⟩ ⟨t1, t2⟩
    obtain ⟨es', kn', fs'⟩ := s'
    simp only at t1
    subst t1
    have hf5 := h.i.f500
    have hn5 := h.r.n500
    by_cases hf : 1 ≤ f ∧ f ≤ s.fs.length
    · obtain ⟨k, rfl⟩ : ∃ k : Nat, f = (k : Int) + 1 := ⟨(f - 1).toNat, by omega⟩
      have hk : k < s.fs.length := by omega
      have hno : frNo s ((k : Int) + 1) = some s.fs[k] := by
        unfold frNo
        rw [if_pos (by omega), show ((k : Int) + 1).toNat - 1 = k by omega, List.getElem?_eq_getElem hk]
      rw [hno] at t2
      dsimp only at t2
      obtain ⟨q1, q2, q3, q4⟩ := h.i.src _ (List.getElem_mem hk)
      by_cases ha : 0 < s.fs[k].ack
      · rw [if_pos (Or.inl ha)] at t2
        obtain ⟨rfl, rfl⟩ := t2
        have e1 : delR s ((k : Int) + 1) = (0, 0) := by unfold delR; rw [hno]; exact if_pos ha
        obtain ⟨a1, kl, a2, a3⟩ := h.a _ q2
        refine Calls.mono (RefDel_ack w c rb evv fv av room s.es _ _ s.kn h.r s.fs h.f k hk q2 q1 hf5 (s.fs[k].ack - 1) (by omega) (by omega) (ab s.fs[k].dst) a1 kl a2 (by rw [← a1]; exact a3)) ?_
        rintro e w' ⟨rfl, hr, hF, hc, hi⟩
        exact ⟨by rw [e1], R, ⟨rb, evv, fv, av, room, ab, hr, hF, h.a.ints hi, h.i, h.own⟩, fun k hk => Or.inl hk, hc.mono (fun x _ hx => (h.own x).2 (hx.elim (fun hx => Or.inr (Or.inr (Or.inr (Or.inr ⟨_, q2, hx.symm⟩)))) (fun hx => Or.inr (Or.inr (Or.inr (Or.inl hx)))))), hi⟩
      · by_cases h5 : 500 ≤ s.fs.length
        · rw [if_pos (Or.inr h5)] at t2
          obtain ⟨rfl, rfl⟩ := t2
          have e1 : delR s ((k : Int) + 1) = (0, 7) := by unfold delR; rw [hno]; exact (if_neg ha).trans (if_pos h5)
          refine Calls.mono (RefDel_full w c rb evv fv av room s.es _ _ s.kn h.r s.fs h.f k hk q2 (by omega) (by omega)) ?_
          rintro e w' ⟨rfl, hb⟩
          exact ⟨by rw [e1], R, ref_frame.below ⟨rb, evv, fv, av, room, ab, h⟩ hb, fun k hk => Or.inl hk, Chg.of_below hb, IntsKept.of_below hb⟩
        · rw [if_neg (by omega)] at t2
          obtain ⟨rfl, b, rfl⟩ := t2
          have e1 : delR s ((k : Int) + 1) = ((s.fs.length : Int) + 1, 0) := by unfold delR; rw [hno]; exact (if_neg ha).trans (if_neg h5)
          refine Calls.mono (RefDel_ok w c rb evv fv av room s.es _ _ (by omega) s.kn h.r s.fs h.f k hk q2 q1 (by omega) (by omega) q4 b) ?_
          rintro e w' ⟨rfl, fv', hr, hF, hc, hn⟩
          have hkd : s.kn.getD s.fs[k].dst [] = s.kn[s.fs[k].dst] := knget _ _ q2
          have hno2 : ∀ {b : Nat}, Tagged w b 3 → ¬ (b = c ∨ b = rb ∨ fv.ownBlock = some b) := by
            rintro b hb (e | e | e)
            · exact Tagged.ne hb h.r.tc (by decide) e
            · exact Tagged.ne hb h.r.trb (by decide) e
            · exact Tagged.ne hb (h.f.tag b e) (by decide) rfl
          have hi : IntsKept w w' := IntsKept.of_chg hc (fun b hb => hno2 hb)
          have hkn : s.kn.set s.fs[k].dst (delK (s.kn.getD s.fs[k].dst []) s.fs[k].known) = s.kn.set s.fs[k].dst (if cnt s.kn[s.fs[k].dst] < cnt (bothL s.kn[s.fs[k].dst] s.fs[k].known) then bothL s.kn[s.fs[k].dst] s.fs[k].known else s.kn[s.fs[k].dst]) := by rw [hkd]; rfl
          have hlen : (s.kn.set s.fs[k].dst (delK (s.kn.getD s.fs[k].dst []) s.fs[k].known)).length = s.kn.length := by simp
          refine ⟨by rw [e1], fun g => g = c ∨ g = rb ∨ evv.ownBlock = some g ∨ fv'.ownBlock = some g ∨ ∃ j, j < (s.kn.set s.fs[k].dst (delK (s.kn.getD s.fs[k].dst []) s.fs[k].known)).length ∧ ab j = g, ⟨rb, evv, fv', av, room, ab, ?_, hF, ?_, ⟨by simp; omega, fun f hf => ?_, fun f hf h0 => ?_⟩, fun g => Iff.rfl⟩, fun g hg => ?_, hc.mono (fun x _ hx => (h.own x).2 ?_), hi⟩
          · show RefAt w' c rb evv fv' av room s.es s.es.length (s.es.length + ((s.fs ++ [(⟨s.fs[k].dst, s.fs[k].src, k + 1, [], b⟩ : FrD)]).length - 1)) (s.kn.set s.fs[k].dst (delK (s.kn.getD s.fs[k].dst []) s.fs[k].known))
            rw [hkn]
            exact hr.most_mono (by simp only [List.length_append, List.length_singleton]; omega) (by simp only [List.length_append, List.length_singleton]; omega)
          · show AckAt w' av (s.kn.set s.fs[k].dst (delK (s.kn.getD s.fs[k].dst []) s.fs[k].known)).length ab
            rw [hlen]
            exact h.a.ints hi
          · show f.src < (s.kn.set s.fs[k].dst (delK (s.kn.getD s.fs[k].dst []) s.fs[k].known)).length ∧ f.dst < (s.kn.set s.fs[k].dst (delK (s.kn.getD s.fs[k].dst []) s.fs[k].known)).length ∧ f.ack ≤ (s.fs ++ [(⟨s.fs[k].dst, s.fs[k].src, k + 1, [], b⟩ : FrD)]).length ∧ f.known.length ≤ s.es.length
            rw [hlen, List.length_append, List.length_singleton]
            rcases List.mem_append.1 hf with h1 | h1
            · obtain ⟨p1, p2, p3, p4⟩ := h.i.src f h1
              exact ⟨p1, p2, by omega, p4⟩
            · have e9 : f = _ := List.mem_singleton.1 h1
              subst e9
              exact ⟨q2, q1, by show k + 1 ≤ _; omega, by simp⟩
          · show cnt f.known ≤ cnt ((s.kn.set s.fs[k].dst (delK (s.kn.getD s.fs[k].dst []) s.fs[k].known)).getD f.src [])
            rcases List.mem_append.1 hf with h1 | h1
            · refine Nat.le_trans (h.i.cnt f h1 h0) ?_
              rw [getDs _ _ q2]
              by_cases e9 : s.fs[k].dst = f.src
              · rw [if_pos e9, ← e9]; exact cnt_delK _ _
              · rw [if_neg e9]; exact Nat.le_refl _
            · have e9 : f = _ := List.mem_singleton.1 h1
              subst e9
              exact absurd h0 (Nat.succ_ne_zero _)
          · rw [hlen] at hg
            rcases hg with hg | hg | hg | hg | hg
            · exact Or.inl ((h.own g).2 (Or.inl hg))
            · exact Or.inl ((h.own g).2 (Or.inr (Or.inl hg)))
            · exact Or.inl ((h.own g).2 (Or.inr (Or.inr (Or.inl hg))))
            · exact (hn g hg).imp (fun h9 => (h.own g).2 (Or.inr (Or.inr (Or.inr (Or.inl h9))))) id
            · exact Or.inl ((h.own g).2 (Or.inr (Or.inr (Or.inr (Or.inr hg)))))
          · rcases hx with hx | hx | hx
            · exact Or.inl hx
            · exact Or.inr (Or.inl hx)
            · exact Or.inr (Or.inr (Or.inr (Or.inl hx)))
    · have hno : frNo s f = none := by unfold frNo; rw [if_neg hf]
      rw [hno] at t2
      obtain ⟨rfl, rfl⟩ := t2
      refine Calls.mono (RefDel_bad w c fv s.fs h.r.f4 h.f hf5 f hf) ?_
      rintro e w' ⟨rfl, rfl⟩
      exact ⟨by unfold delR; rw [hno], R, ⟨rb, evv, fv, av, room, ab, h⟩, fun k hk => Or.inl hk, Chg.refl _ _, IntsKept.of_below (Below.refl _ _)⟩
  bound := by
    rintro w c R s f ⟨rb, evv, fv, av, room, ab, h⟩
    refine Calls.mono (Bound_any w c fv s.fs h.r.f4 h.f h.i.f500 f) ?_
    rintro e w' ⟨n, rfl, hn, hz, rfl⟩
    refine ⟨n, rfl, hn, ?_, rfl⟩
    unfold noFr at hz
    rw [hz]
    unfold frNo
    by_cases hf : 1 ≤ f ∧ f ≤ s.fs.length
    · rw [if_pos hf, List.getElem?_eq_getElem (by omega)]
      simp [hf]
    · rw [if_neg hf]
      simp [hf] }

theorem Meets_any (w : World) (hG : Glob w) (v : Value) (l : List StepD) (hS : ScriptV w v l) (hlen : l.length ≤ 1099511627776) (hok : ∀ o ∈ l, o.ok) :
    Calls Tryz.prog 4 #[v] w fun e w' => e = .returned (.bool true) ∧ Below w.heap.size w w' := Meets_of (LawJ ProgF RefG) (law_ok prog_ok ref_ok ref_new prog_frame ref_frame) w hG v l hS hlen hok
end Go.Proofs.YtoiiaankpnhppaaGreatDoor
namespace Go.Proofs.YtoiiaankpnhppaaGreatDoor
open Go.ChangeShapes Go.WideShapes Go.Deep

theorem g0 : Tryz.prog.globalNamed "internal/bytealg.MaxLen" = some 0 := by kernel_rfl
theorem g1 : Tryz.prog.globalNamed "strconv.ErrSyntax" = some 1 := by kernel_rfl
theorem g2 : Tryz.prog.globalNamed "strconv.ErrRange" = some 2 := by kernel_rfl
theorem g3 : Tryz.prog.globalNamed "internal/strconv.uint64pow10" = some 3 := by kernel_rfl
theorem glob_len {W : World} (hS : W.ShapedOpen Tryz.prog) : ∃ m, W.cell? ⟨0, 0, none⟩ = some (.int .i64 m) :=
  cell_of_shapedOpen_int (zero := #[.int .i64 0]) (t := 3) hS (of_decide_eq_true (by kernel_rfl)) (by kernel_rfl) rfl (by kernel_rfl) (by kernel_rfl) Tryz.underlying3
theorem laid_pow {W : World} (hL : laidMetH Tryz.prog Rows.meetsUptoRow.laid W) : laidMetH Tryz.prog [("internal/strconv.uint64pow10", Lib.tabData .u64 Lib.pow10Tab)] W := by
  have hp := laidMetH.filter (fun x => x.1 == "internal/strconv.uint64pow10") hL
  have e1 : (Rows.meetsUptoRow.laid.filter fun x => x.1 == "internal/strconv.uint64pow10") = [("internal/strconv.uint64pow10", Lib.tabData .u64 Lib.pow10Tab)] := by rfl
  rw [e1] at hp
  exact hp

theorem open_itf {H : Type} {enc : TypeId × Value → H} {P : Program} {w : World} {base : Nat} {sp : Nat → Bool} {held : Bool} {fuel : Nat} {t : TypeId} {ms : Array (String × TypeId)} {cs : List Value} {x : DataW H × List MemPlace}
    (ht : P.underlying t = some (.interface ms)) (h : DataW.trod enc P w base sp held fuel t cs = some x) : ∃ v, cs = [v] ∧ (v = .nilIface ∨ ∃ u y, v = .iface u y) := by
  cases fuel with
  | zero => simp [DataW.trod] at h
  | succ n =>
    cases cs with
    | nil => simp [DataW.trod, ht] at h
    | cons c r =>
      cases r with
      | nil => cases c <;> simp [DataW.trod, ht] at h ⊢
      | cons _ _ => simp [DataW.trod, ht] at h

theorem laid_itf {W : World} {name : String} {d : DataW Unit} {g : Nat} {t : TypeId} {ms : Array (String × TypeId)} (hg : Tryz.prog.globalNamed name = some g) (hty : (Tryz.prog.globals[g]?).map (·.type) = some t) (ht : Tryz.prog.underlying t = some (.interface ms))
    (h : laidMet Tryz.prog [(name, d)] W) : ∃ ev, W.cell? ⟨g, 0, none⟩ = some ev ∧ (ev = .nilIface ∨ ∃ te pe, ev = .iface te pe) := by
  obtain ⟨ps, ⟨g', t', cs, fuel, p, q, hg', ht', hvar, hd, _, _⟩, _⟩ := h
  obtain rfl := Option.some.inj (hg.symm.trans hg')
  obtain rfl := Option.some.inj (hty.symm.trans ht')
  obtain ⟨v, e, hv⟩ := open_itf ht hd
  refine ⟨v, ?_, hv⟩
  rw [World.var?_cell hg hvar 0, ← Array.getElem?_toList, e]
  rfl

theorem ty1 : (Tryz.prog.globals[1]?).map (·.type) = some 221 := by kernel_rfl
theorem ty2 : (Tryz.prog.globals[2]?).map (·.type) = some 221 := by kernel_rfl
theorem ty3 : (Tryz.prog.globals[3]?).map (·.type) = some 310 := by kernel_rfl
theorem cellsTab : Tryz.prog.cellsOf 310 = 20 := by kernel_rfl
theorem cellsU64 : Tryz.prog.cellsOf 284 = 1 := by kernel_rfl

theorem laid_syn {W : World} (hL : laidMetH Tryz.prog Rows.meetsUptoRow.laid W) : ∃ ev, W.cell? ⟨1, 0, none⟩ = some ev ∧ (ev = .nilIface ∨ ∃ te pe, ev = .iface te pe) := by
  have hp := laidMetH.filter (fun x => x.1 == "strconv.ErrSyntax") hL
  obtain ⟨d, e1, e2⟩ : ∃ d, (Rows.meetsUptoRow.laid.filter fun x => x.1 == "strconv.ErrSyntax") = [("strconv.ErrSyntax", d)] ∧ d.handleName?.isNone = true := ⟨_, rfl, rfl⟩
  rw [e1, MakeChecks.laidMetH_plain _ _ _ (by simp [e2])] at hp
  exact laid_itf g1 ty1 Tryz.underlying221 hp
theorem laid_rng {W : World} (hL : laidMetH Tryz.prog Rows.meetsUptoRow.laid W) : ∃ ev, W.cell? ⟨2, 0, none⟩ = some ev ∧ (ev = .nilIface ∨ ∃ te pe, ev = .iface te pe) := by
  have hp := laidMetH.filter (fun x => x.1 == "strconv.ErrRange") hL
  obtain ⟨d, e1, e2⟩ : ∃ d, (Rows.meetsUptoRow.laid.filter fun x => x.1 == "strconv.ErrRange") = [("strconv.ErrRange", d)] ∧ d.handleName?.isNone = true := ⟨_, rfl, rfl⟩
  rw [e1, MakeChecks.laidMetH_plain _ _ _ (by simp [e2])] at hp
  exact laid_itf g2 ty2 Tryz.underlying221 hp
theorem glob_tab {W : World} (hL : laidMetH Tryz.prog Rows.meetsUptoRow.laid W) : Lib.TabIs Tryz.prog W "internal/strconv.uint64pow10" .u64 Lib.pow10Tab := by
  have hp := laid_pow hL
  rw [MakeChecks.laidMetH_plain _ _ _ (by kernel_rfl)] at hp
  exact Lib.tabIs_of_head g3 ty3 Tryz.underlying310 Tryz.underlying284 cellsU64 cellsTab hp

theorem glob_of {W : World} (hS : W.ShapedOpen Tryz.prog) (hL : laidMetH Tryz.prog Rows.meetsUptoRow.laid W) : Glob W :=
  ⟨glob_len hS, laid_syn hL, laid_rng hL, glob_tab hL, World.block_lt_of_cell? W ⟨3, 0, none⟩ ((glob_tab hL).cell g3 0 (by decide))⟩
end Go.Proofs.YtoiiaankpnhppaaGreatDoor
namespace Go.Proofs.YtoiiaankpnhppaaGreatDoor
open Go.ChangeShapes Go.WideShapes Go.ChangeAt Go.RowKit Go.Deep

theorem own : ownKnob Tryz.prog.godebug = none := by kernel_rfl
theorem laidOut : laidOutB Tryz.prog = true := by kernel_rfl

set_option maxRecDepth 100000 in
theorem contract (H : Type) (enc : TypeId × Value → H) (W : World) (args : Array Value) (base : Nat) (ds gs : List (DataW H)) (before : List MemPlace)
    (hval : ∀ (j : Nat) t v, Tryz.f4.params[j]? = some t → args[j]? = some v → Value.okWide Tryz.prog W .any base t v) (hW : DataW.Whole enc Tryz.prog Tryz.f4.params.toList Rows.meetsSpec.vars false W args.toList ds gs before) (hB : Rows.uptoSmall H (ds ++ gs) = true)
    (hL : laidMetH Tryz.prog Rows.meetsUptoRow.laid W) (hS : W.ShapedOpen Tryz.prog) :
    Calls Tryz.prog 4 args W fun e W' => ∃ v, e = .returned v ∧ Rows.meetsSpec.post enc Tryz.prog Tryz.f4 false true false false W args v W' := by
  have hW' := hW
  obtain ⟨p, q, hA0, hV, rfl, hfz, hnd⟩ := hW
  have hA : DataW.TrodAll enc Tryz.prog W 0 (fun _ => true) true Tryz.f4.params.toList args.toList ds p := hA0
  rw [Tryz.params4] at hA hval
  obtain ⟨v0, vs0, d0, ds0, p0, q0, hargs, rfl, rfl, h0, r0⟩ := trodAll_cons hA
  obtain ⟨rfl, rfl, rfl⟩ := trodAll_nil r0
  obtain rfl : args = #[v0] := by cases args; simp_all
  obtain ⟨rfl, rfl⟩ := trodVars_none hV
  clear hA0
  simp only [List.append_nil] at hW' hB
  have hb1 : Rows.uptoBulk d0 ≤ 1048576 := by
    have h1 := of_decide_eq_true hB
    have h2 := (bulk_all [d0]).2 d0 (List.mem_singleton.2 rfl)
    omega
  have h0k := h0
  obtain ⟨fuel, hf⟩ := h0
  have hcs : v0.cells.toList = [v0] := by
    obtain ⟨a, len, cap, rfl⟩ := okWide_slice Tryz.underlying22 (hval 0 22 v0 rfl rfl)
    rfl
  rw [hcs] at hf
  obtain ⟨l, hv, hok⟩ := open_script hf
  have hlen : l.length ≤ 1099511627776 := by
    cases l with
    | nil => exact Nat.zero_le _
    | cons o r => exact Nat.le_trans (hok o (List.mem_cons_self ..) hb1).2 (by decide)
  refine (Meets_any W (glob_of hS hL) v0 l hv hlen (fun o ho => (hok o ho hb1).1)).mono fun e W' ⟨he, hg⟩ => ?_
  subst he
  have hlt : ∀ x ∈ p0, x.block < W.heap.size := fun x hx => by simpa using hW'.lt x hx
  exact ⟨_, rfl, _, _, _, [], _, [], hW', trodAll_mk1 (shut_bool Tryz.underlying4 _), trodAll_mk1 (Below.trod laidOut (by kernel_rfl) (of_decide_eq_true (by kernel_rfl)) h0k hg hlt), rfl, hg.frame _, fun h => by cases h⟩

noncomputable def start (os : Os) : World := World.laidAll Tryz.prog os Rows.meetsUptoRow.laid
theorem start_laid (os : Os) : laidMetH Tryz.prog Rows.meetsUptoRow.laid ((start os).forCall (fun _ _ => 0) ⟨#[], #[.slice none 0 0], []⟩).memory := by
  rw [MakeChecks.laidMetH_plain _ _ _ (by kernel_rfl)]
  exact laidMet_laidAll _ (by kernel_rfl) (by kernel_rfl)
theorem start_shaped (os : Os) : ((start os).forCall (fun _ _ => 0) ⟨#[], #[.slice none 0 0], []⟩).Shaped Tryz.prog := World.shaped_of_ZipB (by kernel_rfl) (by kernel_rfl)
theorem start_reads (os : Os) {H : Type} (enc : TypeId × Value → H) : ∃ places, DataW.whole enc Tryz.prog ((start os).forCall (fun _ _ => 0) ⟨#[], #[.slice none 0 0], []⟩).memory Tryz.f4.params.toList Rows.meetsSpec.vars false #[Value.slice none 0 0].toList 8 = some ([.nil], [], places) :=
  ⟨[], by kernel_rfl⟩
theorem start_ok (os : Os) : Input.okWideB Tryz.prog ((start os).forCall (fun _ _ => 0) ⟨#[], #[.slice none 0 0], []⟩) 4 ⟨#[], #[.slice none 0 0], []⟩ = true := by kernel_rfl
theorem start_small (os : Os) {H : Type} (enc : TypeId × Value → H) : (Rows.OpenSpec.upto Rows.meetsSpec).bare.sizedB enc Tryz.prog Tryz.f4 false ((start os).forCall (fun _ _ => 0) ⟨#[], #[.slice none 0 0], []⟩).memory #[.slice none 0 0] 8 = true := by kernel_rfl

set_option maxRecDepth 100000 in
theorem witness (os : Os) {H : Type} (enc : TypeId × Value → H) :
    ∃ (w : World) (tape : Tape) (i : Input), w.os = os ∧ (w.forCall tape i).Shaped Tryz.checked.prog ∧ i.vars = [] ∧ Input.okWide Tryz.checked.prog (w.forCall tape i) .any w.heap.size 4 i ∧
      (Rows.OpenSpec.upto Rows.meetsSpec).preRow enc Tryz.checked.prog Tryz.f4 Rows.meetsUptoRow.domain false Rows.meetsUptoRow.laid (w.forCall tape i).memory i.args ∧
      ({} : Assume).holds Tryz.checked.prog (lone (Frame.enter Tryz.checked.prog 4 i.args .normal) [] (w.forCall tape i)) := by
  obtain ⟨places, hx⟩ := start_reads os enc
  refine ⟨start os, fun _ _ => 0, ⟨#[], #[.slice none 0 0], []⟩, World.laidAll_os _ _ _, start_shaped os, (Input.okWide_of_okWideB (base := 0) (start_ok os)).1, (Input.okWide_of_okWideB (start_ok os)).2,
    OpenSpec.preRow_of_cond 8 hx (by kernel_rfl) (fun k hk => by cases hk; kernel_rfl) (start_small os enc) (start_laid os), ?_⟩
  simp only [Assume.holds]
  exact ⟨by simp, by simp, fun _ => Modest.zero, by simp, by simp⟩

set_option maxRecDepth 100000 in
theorem lifted (os : Os) (started : os.Started) (H : Type) (enc : TypeId × Value → H) (F : Stop.Interp) :
    ReturnsInHanded {} Tryz.checked os 4 .any ((Rows.OpenSpec.upto Rows.meetsSpec).preRow enc Tryz.prog Tryz.f4 Rows.meetsUptoRow.domain false Rows.meetsUptoRow.laid) (((Rows.OpenSpec.upto Rows.meetsSpec).at F).post enc Tryz.prog Tryz.f4 false true false false) := by
  refine returnsInHanded_of_row (C := Tryz.checked) (s := Rows.OpenSpec.upto Rows.meetsSpec) own started (by kernel_rfl) Tryz.func4 (witness os enc) ?_
  intro W base args ds gs before hval hW _ hcond _ hL hS _
  exact contract H enc W args base ds gs before hval hW (hcond _ rfl) hL hS

theorem m1 : Tryz.pinned.checked.prog.funcNamed Rows.meetsUptoRow.func = some 4 := by kernel_rfl
theorem m2 : joinedFacts Tryz.pinned.checked.prog 4 Tryz.f4 (Rows.OpenSpec.upto Rows.meetsSpec).bare Rows.meetsUptoRow = true := by kernel_rfl
theorem m3 : Tryz.f4.isInstance Tryz.pinned.checked.prog Rows.meetsUptoRow.origin Rows.meetsUptoRow.targs := of_decide_eq_true (by kernel_rfl)
theorem m4 : Tryz.f4.isWrapper Tryz.pinned.checked.prog Rows.meetsUptoRow.wrapper Rows.meetsUptoRow.mainSum := by
  unfold Func.isWrapper; first | (rw [if_pos (by decide +kernel)]; kernel_rfl) | (rw [if_neg (by decide +kernel)]; exact ⟨rfl, rfl⟩)
theorem meets_upto : Rows.MeetsUptoSaid :=
  OpenClaim.holds_of_cond 4 Tryz.f4 rfl rfl rfl rfl rfl rfl rfl ⟨rfl, rfl, rfl, rfl, rfl⟩ rfl rfl rfl rfl rfl m1 Tryz.func4 m2 m3 m4
    (fun os started H enc _ F => by rw [OpenClaim.pre_eq_preRow]; exact lifted os started H enc F)

theorem plain (f : FuncId) (fn : Func) (hf : Tryz.pinned.checked.prog.funcNamed Rows.meetsUptoRow.func = some f) (hfn : Tryz.pinned.checked.prog.funcs[f]? = some fn) :
    true = Tryz.pinned.checked.prog.looks [] ∧ ∀ (j : Nat) t, fn.params[j]? = some t → Tryz.pinned.checked.prog.wantsStandIn t = false := by
  obtain rfl : f = 4 := Option.some.inj ((show Tryz.prog.funcNamed Rows.meetsUptoRow.func = some 4 by kernel_rfl).symm.trans hf) |>.symm
  obtain rfl : fn = Tryz.f4 := (Option.some.inj (Tryz.func4.symm.trans hfn)).symm
  refine ⟨by kernel_rfl, fun j t ht => ?_⟩
  rw [Tryz.params4] at ht
  obtain rfl : t = 22 := by simpa using Array.mem_of_getElem? ht
  exact (show Tryz.prog.wantsStandIn 22 = false by kernel_rfl)

theorem meets_upto_card : Rows.MeetsUptoCardSaid :=
  Claim7.holds_tied_plain_at .later [] _ _ _ _ meets_upto (fun _ h => by cases h) (by kernel_rfl) (fun _ h => by cases h) meetsUpto_row_tie rfl ⟨rfl, rfl⟩ (by kernel_rfl) rfl plain (by kernel_rfl)
end Go.Proofs.YtoiiaankpnhppaaGreatDoor

