import Derived.Test.YtoiiaankpnhppaaGreatDoorPart20
import Derived.Test.YtoiiaankpnhppaaGreatDoorPart22
set_option linter.unusedVariables false
set_option linter.unusedSimpArgs false
namespace Go.Proofs.YtoiiaankpnhppaaGreatDoor
open Go.RowKit Go.Maps Go.WideMaps

def maxK (K1 K2 : Nat → Nat) : Nat → Nat := fun x => max (K1 x) (K2 x)
open Classical in
noncomputable def joinC (K1 : Nat → Nat) (C1 : Nat → Option Thk.Ch) (K2 : Nat → Nat) (C2 : Nat → Option Thk.Ch) : Nat → Option Thk.Ch := fun d =>
  if (C1 d = none ∧ nth d ≤ K1 (who d)) ∨ (C2 d = none ∧ nth d ≤ K2 (who d)) then none else (C1 d).or (C2 d)

theorem join_math {K1 K2 : Nat → Nat} {C1 C2 : Nat → Option Thk.Ch} {s1 s2 : StD} {It : Nat → Option Value}
    (same : ∀ d c c', C1 d = some c → C2 d = some c' → c = c')
    (e1 : s1.S = fun k => nth k ≤ K1 (who k)) (i1 : s1.It = itOf C1) (e2 : ∀ k, 1 ≤ nth k → (s2.S k ↔ nth k ≤ K2 (who k))) (i2 : s2.It = itOf C2) (h1 : ∀ k, C1 k ≠ none → 1 ≤ nth k) (h2 : ∀ k, C2 k ≠ none → 1 ≤ nth k)
    (ok : ∀ k, It k ≠ none → 1 ≤ nth k)
    (p1 : ∀ k v, It k = some v → (∃ s ∈ [s1, s2], s.It k = some v) ∧ ¬ goneAt [s1, s2] k) (p2 : ∀ k, (∃ s ∈ [s1, s2], s.It k ≠ none) → ¬ goneAt [s1, s2] k → It k ≠ none) :
    It = itOf (joinC K1 C1 K2 C2) ∧ ∀ k, 1 ≤ nth k → ((∃ s ∈ [s1, s2], s.S k) ↔ nth k ≤ maxK K1 K2 (who k)) := by
  have hex : ∀ (Q : StD → Prop), (∃ s ∈ [s1, s2], Q s) ↔ Q s1 ∨ Q s2 := fun Q => by simp
  have hgone : ∀ k, 1 ≤ nth k → (goneAt [s1, s2] k ↔ (C1 k = none ∧ nth k ≤ K1 (who k)) ∨ (C2 k = none ∧ nth k ≤ K2 (who k))) := fun k hk => by
    unfold goneAt
    rw [hex, e2 k hk]
    simp only [e1, i1, i2, itOf, Option.map_eq_none_iff]
  have hsome : ∀ k v, (∃ s ∈ [s1, s2], s.It k = some v) ↔ itOf C1 k = some v ∨ itOf C2 k = some v := fun k v => by rw [hex, i1, i2]
  constructor
  · funext k
    by_cases hk : 1 ≤ nth k
    · by_cases hg : goneAt [s1, s2] k
      · have : itOf (joinC K1 C1 K2 C2) k = none := by unfold itOf joinC; rw [if_pos ((hgone k hk).1 hg)]; (first | done | rfl)
        rw [this]
        cases hv : It k with
        | none => rfl
        | some v => exact absurd hg (p1 k v hv).2
      · have hj : joinC K1 C1 K2 C2 k = (C1 k).or (C2 k) := by unfold joinC; rw [if_neg (fun h => hg ((hgone k hk).2 h))]
        unfold itOf
        rw [hj]
        cases hv : It k with
        | some v =>
          rcases (hsome k v).1 (p1 k v hv).1 with h | h
          · obtain ⟨c, hc, rfl⟩ := itOf_v h
            rw [hc]; (first | done | rfl)
          · obtain ⟨c, hc, rfl⟩ := itOf_v h
            cases h1c : C1 k with
            | none => rw [hc]; (first | done | rfl)
            | some c1 => rw [same k c1 c h1c hc]; (first | done | rfl)
        | none =>
          have hno : ¬ ∃ s ∈ [s1, s2], s.It k ≠ none := fun h => absurd hv (p2 k h hg)
          rw [hex, i1, i2] at hno
          have a1 : C1 k = none := by
            cases h : C1 k with
            | none => rfl
            | some c => exact absurd (Or.inl (by unfold itOf; rw [h]; simp)) hno
          have a2 : C2 k = none := by
            cases h : C2 k with
            | none => rfl
            | some c => exact absurd (Or.inr (by unfold itOf; rw [h]; simp)) hno
          rw [a1, a2]; (first | done | rfl)
    · have a1 : C1 k = none := by
        cases h : C1 k with
        | none => rfl
        | some c => exact absurd (h1 k (by rw [h]; simp)) hk
      have a2 : C2 k = none := by
        cases h : C2 k with
        | none => rfl
        | some c => exact absurd (h2 k (by rw [h]; simp)) hk
      have hv : It k = none := by
        cases hv : It k with
        | none => rfl
        | some v => exact absurd (ok k (by rw [hv]; simp)) hk
      rw [hv]
      unfold itOf joinC
      rw [a1, a2]
      split <;> rfl
  · intro k hk
    rw [hex, e2 k hk]
    simp only [e1, maxK]
    omega

theorem joinC_path {K1 K2 : Nat → Nat} {C1 C2 : Nat → Option Thk.Ch} {P : Thk.Ch → Prop} (h1 : ∀ k c, C1 k = some c → P c) (h2 : ∀ k c, C2 k = some c → P c) (k : Nat) (c : Thk.Ch) (h : joinC K1 C1 K2 C2 k = some c) : P c := by
  unfold joinC at h
  split at h
  · cases h
  · cases hc : C1 k with
    | none => rw [hc] at h; exact h2 k c h
    | some c1 => rw [hc] at h; cases h; exact h1 k _ hc

set_option maxHeartbeats 2000000 in
theorem receive_join {w wz : World} {rb a : Nat} {K K2 : Nat → Nat} {io co lo : Option Nat} {C C2 : Nat → Option Thk.Ch} {gi gc gl : Nat} {S2 : Nat → Prop} (hR : RepP w rb a io co lo K C) (hb : Below w.heap.size w wz)
    (hg : StoreS wz gi gc gl S2 (itOf C2)) (hS2 : ∀ d, 1 ≤ nth d → (S2 d ↔ nth d ≤ K2 (who d))) (hk2 : ∀ x, K2 x ≤ 500) (hcp : ∀ k c, C2 k = some c → c.path.length ≤ 1048576) (same : ∀ d c c', C d = some c → C2 d = some c' → c = c') :
    Calls Tryz.prog 74 #[.slice (some ⟨wz.heap.size, 0, none⟩) 2 2] (wz.alloc (.cells #[.map io, .map co, .map lo, .map (some gi), .map (some gc), .map (some gl)] 106)).drew
      fun e w9 => ∃ ib cb lb, e = .returned (.agg #[.map (some ib), .map (some cb), .map (some lb)]) ∧ w9.cell? ⟨rb, 1, none⟩ = some (.map io) ∧ w9.cell? ⟨rb, 2, none⟩ = some (.map co) ∧ w9.cell? ⟨rb, 3, none⟩ = some (.map lo) ∧ (∀ i, w9.frozen? ⟨rb, i, none⟩ = false) ∧
        RepP (((w9.setCell ⟨rb, 1, none⟩ (.map (some ib))).setCell ⟨rb, 2, none⟩ (.map (some cb))).setCell ⟨rb, 3, none⟩ (.map (some lb))) rb a (some ib) (some cb) (some lb) (maxK K K2) (joinC K C K2 C2) ∧ (wz.heap.size ≤ ib ∧ wz.heap.size ≤ cb ∧ wz.heap.size ≤ lb) ∧ Below wz.heap.size wz w9 ∧ Chg (fun k => k = rb) w (((w9.setCell ⟨rb, 1, none⟩ (.map (some ib))).setCell ⟨rb, 2, none⟩ (.map (some cb))).setCell ⟨rb, 3, none⟩ (.map (some lb))) := by
  have hbz : Below wz.heap.size wz (wz.alloc (.cells #[.map io, .map co, .map lo, .map (some gi), .map (some gc), .map (some gl)] 106)).drew := ((Below.refl _ wz).alloc (Nat.le_refl _) _).drew
  have kS : Blk (wz.alloc (.cells #[.map io, .map co, .map lo, .map (some gi), .map (some gc), .map (some gl)] 106)).drew wz.heap.size #[.map io, .map co, .map lo, .map (some gi), .map (some gc), .map (some gl)] 106 := Blk.new wz _ _
  generalize (wz.alloc (.cells #[.map io, .map co, .map lo, .map (some gi), .map (some gc), .map (some gl)] 106)).drew = wy at *
  have hbw : Below w.heap.size w wy := hb.trans (hbz.mono hb.size)
  obtain ⟨s1, hs1⟩ : ∃ s : StD, s = ⟨io, co, lo, fun k => nth k ≤ K (who k), itOf C⟩ := ⟨_, rfl⟩
  obtain ⟨s2, hs2⟩ : ∃ s : StD, s = ⟨some gi, some gc, some gl, S2, itOf C2⟩ := ⟨_, rfl⟩
  have hRy := hR.below hbw
  have hSl : SliceS wy wz.heap.size 0 [s1, s2] := by
    refine ⟨kS.lt, ?_, ?_, ?_, ?_⟩
    · intro j hj
      match j, hj with
      | 0, _ => rw [kS.cell]; simp [hs1]
      | 1, _ => rw [kS.cell]; simp [hs2]
    · intro j hj
      match j, hj with
      | 0, _ => rw [kS.cell]; simp [hs1]
      | 1, _ => rw [kS.cell]; simp [hs2]
    · intro j hj
      match j, hj with
      | 0, _ => rw [kS.cell]; simp [hs1]
      | 1, _ => rw [kS.cell]; simp [hs2]
    · intro s hs
      simp only [List.mem_cons, List.mem_nil_iff, or_false] at hs
      rcases hs with rfl | rfl
      · rw [hs1]; exact ⟨hRy.st, fun k v h => itOf_item h⟩
      · rw [hs2]; exact ⟨(hg.below hbz).toR, fun k v h => itOf_item h⟩
  refine Calls.mono (Join_any wy wz.heap.size 0 2 [s1, s2] hSl (by simp) (by simp)) ?_
  rintro e w9 ⟨ib, cb, lb, It, rfl, hst, p1, p2, hnew, hb9⟩
  have hmath := join_math (K1 := K) (K2 := K2) (C1 := C) (C2 := C2) (s1 := s1) (s2 := s2) same (by rw [hs1]) (by rw [hs1]) (by rw [hs2]; exact hS2) (by rw [hs2]) (fun k hk => (hR.st.ok k (itOf_none.2 hk)).1.2.1) (fun k hk => (hg.ok k (itOf_none.2 hk)).1.2.1) (fun k hk => (hst.ok k hk).1.2.1) p1 p2
  have hR9 := hRy.below hb9
  have hy := hbw.size
  have hyz := hbz.size
  have hrb : rb < w.heap.size := hR.blk.lt
  refine ⟨ib, cb, lb, rfl, (hR9.blk.cell 1).trans rfl, (hR9.blk.cell 2).trans rfl, (hR9.blk.cell 3).trans rfl, hR9.blk.frozen, ?_, by omega, hbz.trans (hb9.mono hbz.size), ?_⟩
  · have hch : Chg (fun k => k = rb) w9 (((w9.setCell ⟨rb, 1, none⟩ (.map (some ib))).setCell ⟨rb, 2, none⟩ (.map (some cb))).setCell ⟨rb, 3, none⟩ (.map (some lb))) := (((Chg.refl (fun k => k = rb) w9).setCell (p := ⟨rb, 1, none⟩) rfl _).setCell (p := ⟨rb, 2, none⟩) rfl _).setCell (p := ⟨rb, 3, none⟩) rfl _
    have hst2 := hst.chg hch (by omega) (by omega) (by omega)
    refine ⟨?_, ?_, fun k c hc => joinC_path (P := fun c => c.path.length ≤ 1048576) hR.ok hcp k c hc, fun x => ?_, hR.a5⟩
    · have := hR9.blk
      unfold Blk at this ⊢
      simp [World.setCell, Array.getElem?_modify, this]
    · rw [← hmath.1]
      have h3 : StoreS _ ib cb lb (fun k => nth k ≤ maxK K K2 (who k)) It := ⟨hst2.ctx.iff (fun k hk => (hmath.2 k hk).symm), hst2.its, hst2.ne, fun k hk => by have := hst2.ok k hk; exact ⟨this.1, (hmath.2 k this.1.2.1).1 this.2⟩⟩
      exact h3.toR
    · have h1 := hR.k500 x
      have h2 := hk2 x
      unfold maxK; omega
  · have h1 : Chg (fun k => k = rb) w w9 := Chg.of_below (hbw.trans (hb9.mono hbw.size))
    exact ((h1.setCell (p := ⟨rb, 1, none⟩) rfl _).setCell (p := ⟨rb, 2, none⟩) rfl _).setCell (p := ⟨rb, 3, none⟩) rfl _

set_option maxHeartbeats 8000000 in
set_option maxRecDepth 100000 in
theorem Receive_any (w : World) (rb a : Nat) (K K2 : Nat → Nat) (io co lo : Option Nat) (C C2 : Nat → Option Thk.Ch) (gi gc gl : Nat) (S2 : Nat → Prop) (fr : Int) (hR : RepP w rb a io co lo K C)
    (hg : StoreS w gi gc gl S2 (itOf C2)) (hS2 : ∀ d, 1 ≤ nth d → (S2 d ↔ nth d ≤ K2 (who d))) (hk2 : ∀ x, K2 x ≤ 500) (hcp : ∀ k c, C2 k = some c → c.path.length ≤ 1048576) (same : ∀ d c c', C d = some c → C2 d = some c' → c = c') :
    Calls Tryz.prog 80 #[.pointer (some ⟨rb, 0, none⟩), .agg #[.int .i64 fr, .bool false, .map (some gi), .map (some gc), .map (some gl)]] w fun e w' => e = .returned (.agg #[.int .i64 (a : Int), .bool true, .map none, .map none, .map none]) ∧
      ∃ io' co' lo', RepP w' rb a (some io') (some co') (some lo') (maxK K K2) (joinC K C K2 C2) ∧ (w.heap.size ≤ io' ∧ w.heap.size ≤ co' ∧ w.heap.size ≤ lo') ∧ Chg (fun k => k = rb) w w' := by
  have hrl := hR.blk.lt
  have kf := (Blk.new w #[.int .i64 fr, .bool false, .map (some gi), .map (some gc), .map (some gl)] 108).alloc (.cells #[.int .i64 0, .bool false, .map none, .map none, .map none] 108)
  have kr := Blk.new (w.alloc (.cells #[.int .i64 fr, .bool false, .map (some gi), .map (some gc), .map (some gl)] 108)) #[.int .i64 0, .bool false, .map none, .map none, .map none] 108
  rw [World.size_alloc] at kr
  have hb0 : Below w.heap.size w ((w.alloc (.cells #[.int .i64 fr, .bool false, .map (some gi), .map (some gc), .map (some gl)] 108)).alloc (.cells #[.int .i64 0, .bool false, .map none, .map none, .map none] 108)) := ((Below.refl _ w).alloc (Nat.le_refl _) _).alloc (by simp) _
  go_enter Tryz.func80, Tryz.ntmps80
  go_wp2_with fail
  generalize ((w.alloc (.cells #[.int .i64 fr, .bool false, .map (some gi), .map (some gc), .map (some gl)] 108)).alloc (.cells #[.int .i64 0, .bool false, .map none, .map none, .map none] 108)) = wz at *
  have hRz := hR.below hb0
  have q0 := (hRz.blk.cell 0).trans rfl
  have q1 := (hRz.blk.cell 1).trans rfl
  have q2 := (hRz.blk.cell 2).trans rfl
  have q3 := (hRz.blk.cell 3).trans rfl
  have z2 := (kf.cell 2).trans rfl
  have z3 := (kf.cell 3).trans rfl
  have z4 := (kf.cell 4).trans rfl
  have HJ : Hid (_) := receive_join hR hb0 (hg.below hb0) hS2 hk2 hcp same
  have HK : Hid (Blk wz (w.heap.size + 1) #[.int .i64 0, .bool false, .map none, .map none, .map none] 108) := kr
  have hlz : w.heap.size + 1 < wz.heap.size := kr.lt
  clear hR hg hS2 hcp same kf kr hRz
  go_cut [3] from 5 to 15 (fun v3 wx => v3 = .pointer (some ⟨w.heap.size, 0, none⟩) ∧ Blk wx (w.heap.size + 1) #[.int .i64 0, .bool false, .map none, .map none, .map none] 108 ∧ ∃ io' co' lo', RepP wx rb a (some io') (some co') (some lo') (maxK K K2) (joinC K C K2 C2) ∧ (wz.heap.size ≤ io' ∧ wz.heap.size ≤ co' ∧ wz.heap.size ≤ lo') ∧ Chg (fun k => k = rb) w wx)
  case first =>
    go_region_with (first | (go_at_call 74; refine Calls.mono HJ.out ?_; rintro e w9 ⟨ib, cb, lb, rfl, hq1, hq2, hq3, hqf, hfin⟩))
    all_goals
      go_wp2_with fail
      go_meet
      refine ⟨rfl, ?_, ib, cb, lb, hfin.1, hfin.2.1, hfin.2.2.2⟩
      exact (HK.out.below hfin.2.2.1).chg (M := fun k => k = rb) ((((Chg.refl (fun k => k = rb) w9).setCell (p := ⟨rb, 1, none⟩) rfl _).setCell (p := ⟨rb, 2, none⟩) rfl _).setCell (p := ⟨rb, 3, none⟩) rfl _) (by omega)
  case rest =>
  obtain ⟨rfl, kr5, io', co', lo', hR5, hn5, hc5⟩ := hcut
  have q0 := (hR5.blk.cell 0).trans rfl
  have r0 := (kr5.cell 0).trans rfl
  have r1 := (kr5.cell 1).trans rfl
  have r2 := (kr5.cell 2).trans rfl
  have r3 := (kr5.cell 3).trans rfl
  have r4 := (kr5.cell 4).trans rfl
  have f0 := kr5.frozen
  have HF : Hid (RepP wc rb a (some io') (some co') (some lo') (maxK K K2) (joinC K C K2 C2) ∧ (wz.heap.size ≤ io' ∧ wz.heap.size ≤ co' ∧ wz.heap.size ≤ lo') ∧ Chg (fun k => k = rb) w wc) := ⟨hR5, hn5, hc5⟩
  clear HJ HK q1 q2 q3 z2 z3 z4 hR5 hn5 hc5
  go_wp2_with fail
  have kz := blk5_all (u0 := .int .i64 (a : Int)) (u1 := .bool true) (u2 := .map none) (u3 := .map none) (u4 := .map none) kr5
  have hcz : Chg (fun k => k = w.heap.size + 1) wc (((((wc.setCell ⟨w.heap.size + 1, 0, none⟩ (.int .i64 (a : Int))).setCell ⟨w.heap.size + 1, 1, none⟩ (.bool true)).setCell ⟨w.heap.size + 1, 2, none⟩ (.map none)).setCell ⟨w.heap.size + 1, 3, none⟩ (.map none)).setCell ⟨w.heap.size + 1, 4, none⟩ (.map none)) :=
    ((((Chg.refl (fun k => k = w.heap.size + 1) wc).setCell (p := ⟨w.heap.size + 1, 0, none⟩) rfl (.int .i64 (a : Int))).setCell (p := ⟨w.heap.size + 1, 1, none⟩) rfl (.bool true)).setCell (p := ⟨w.heap.size + 1, 2, none⟩) rfl (.map none)).setCell (p := ⟨w.heap.size + 1, 3, none⟩) rfl (.map none) |>.setCell (p := ⟨w.heap.size + 1, 4, none⟩) rfl (.map none)
  clear r0 r1 r2 r3 r4 f0 q0 kr5
  generalize (((((wc.setCell ⟨w.heap.size + 1, 0, none⟩ (.int .i64 (a : Int))).setCell ⟨w.heap.size + 1, 1, none⟩ (.bool true)).setCell ⟨w.heap.size + 1, 2, none⟩ (.map none)).setCell ⟨w.heap.size + 1, 3, none⟩ (.map none)).setCell ⟨w.heap.size + 1, 4, none⟩ (.map none)) = wf at *
  obtain ⟨hR5, hn5, hc5⟩ := HF.out
  have hRf := hR5.chg hcz (by omega) (fun b hb => by rcases hb with h | h | h <;> cases h <;> omega)
  have hcf : Chg (fun k => k = rb) w wf := hc5.trans' hcz (fun x hx h => by omega)
  have d0 := (kz.cell 0).trans rfl
  have d1 := (kz.cell 1).trans rfl
  have d2 := (kz.cell 2).trans rfl
  have d3 := (kz.cell 3).trans rfl
  have d4 := (kz.cell 4).trans rfl
  exact bodyPost_ret (v := .agg #[.int .i64 (a : Int), .bool true, .map none, .map none, .map none]) (by simp [results, Tryz.results80, go_sem, d0, d1, d2, d3, d4]) rfl ⟨rfl, io', co', lo', hRf, by omega, hcf⟩

set_option maxHeartbeats 8000000 in
set_option maxRecDepth 100000 in
theorem rSend_any (w : World) (rb a : Nat) (K : Nat → Nat) (io co lo : Option Nat) (C : Nat → Option Thk.Ch) (hR : RepP w rb a io co lo K C) :
    Calls Tryz.prog 57 #[.pointer (some ⟨rb, 0, none⟩)] w fun e w' => e = .returned (.agg #[.int .i64 (a : Int), .bool false, .map io, .map co, .map lo]) ∧ Below w.heap.size w w' := by
  have hrl := hR.blk.lt
  have kr := Blk.new w #[.int .i64 0, .bool false, .map none, .map none, .map none] 108
  have hb0 : Below w.heap.size w (w.alloc (.cells #[.int .i64 0, .bool false, .map none, .map none, .map none] 108)) := (Below.refl _ w).alloc (Nat.le_refl _) _
  have kq := hR.blk.alloc (.cells #[.int .i64 0, .bool false, .map none, .map none, .map none] 108)
  clear hR
  go_enter Tryz.func57, Tryz.ntmps57
  go_wp2_with fail
  generalize (w.alloc (.cells #[.int .i64 0, .bool false, .map none, .map none, .map none] 108)) = wz at *
  have q0 := (kq.cell 0).trans rfl
  have q1 := (kq.cell 1).trans rfl
  have q2 := (kq.cell 2).trans rfl
  have q3 := (kq.cell 3).trans rfl
  have r0 := (kr.cell 0).trans rfl
  have r1 := (kr.cell 1).trans rfl
  have r2 := (kr.cell 2).trans rfl
  have r3 := (kr.cell 3).trans rfl
  have r4 := (kr.cell 4).trans rfl
  have f0 := kr.frozen
  go_region
  all_goals
    go_wp2_with fail
    have kz := blk5_all (u0 := .int .i64 (a : Int)) (u1 := .bool false) (u2 := .map io) (u3 := .map co) (u4 := .map lo) kr
    have hbz := bl_w (i := 4) (u := .map lo) (bl_w (i := 3) (u := .map co) (bl_w (i := 2) (u := .map io) (bl_w (i := 1) (u := .bool false) (bl_w (i := 0) (u := .int .i64 (a : Int)) hb0))))
    clear r0 r1 r2 r3 r4 f0 q0 q1 q2 q3 kr kq
    generalize (((((wz.setCell ⟨w.heap.size, 0, none⟩ (.int .i64 (a : Int))).setCell ⟨w.heap.size, 1, none⟩ (.bool false)).setCell ⟨w.heap.size, 2, none⟩ (.map io)).setCell ⟨w.heap.size, 3, none⟩ (.map co)).setCell ⟨w.heap.size, 4, none⟩ (.map lo)) = wf at *
    have d0 := (kz.cell 0).trans rfl
    have d1 := (kz.cell 1).trans rfl
    have d2 := (kz.cell 2).trans rfl
    have d3 := (kz.cell 3).trans rfl
    have d4 := (kz.cell 4).trans rfl
    exact bodyPost_ret (v := .agg #[.int .i64 (a : Int), .bool false, .map io, .map co, .map lo]) (by simp [results, Tryz.results57, go_sem, d0, d1, d2, d3, d4]) rfl ⟨rfl, hbz.drew⟩
end Go.Proofs.YtoiiaankpnhppaaGreatDoor

