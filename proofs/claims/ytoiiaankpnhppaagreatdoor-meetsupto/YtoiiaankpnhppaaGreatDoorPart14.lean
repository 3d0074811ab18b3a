import Derived.Deep.RegionHeld3
import Derived.Test.YtoiiaankpnhppaaGreatDoorPart13
set_option linter.unusedVariables false
set_option linter.unusedSimpArgs false
namespace Go.Proofs.YtoiiaankpnhppaaGreatDoor
open Go.RowKit Go.Maps Go.WideMaps

set_option maxHeartbeats 8000000 in
set_option maxRecDepth 100000 in
theorem Receive_any (w : World) (rb a : Nat) (K K2 : Nat → Nat) (io co lo : Option Nat) (C C2 : Nat → Option Thk.Ch) (gi gc gl : Nat) (S2 : Nat → Prop) (fr : Int) (hR : RepP w rb a io co lo K C)
    (hg : StoreS w gi gc gl S2 (itOf C2)) (hS2 : ∀ d, 1 ≤ nth d → (S2 d ↔ nth d ≤ K2 (who d))) (hk2 : ∀ x, K2 x ≤ 500) (hcp : ∀ k c, C2 k = some c → c.path.length ≤ 1048576) (same : ∀ d c c', C d = some c → C2 d = some c' → c = c') :
    Calls Tryz.prog 80 #[.pointer (some ⟨rb, 0, none⟩), .agg #[.int .i64 fr, .bool false, .map (some gi), .map (some gc), .map (some gl)]] w fun e w' => e = .returned (.agg #[.int .i64 (a : Int), .bool true, .map none, .map none, .map none]) ∧
      ∃ io' co' lo', RepP w' rb a (some io') (some co') (some lo') (maxK K K2) (joinC K C K2 C2) ∧ (w.heap.size ≤ io' ∧ w.heap.size ≤ co' ∧ w.heap.size ≤ lo') ∧ Chg (fun k => k = rb) w w' := by
  have hrl := hR.blk.lt
  have kf := (Blk.new w #[.int .i64 fr, .bool false, .map (some gi), .map (some gc), .map (some gl)] 108).alloc (.cells #[.int .i64 0, .bool false, .map none, .map none, .map none] 108)
  have kr := Blk.new (w.alloc (.cells #[.int .i64 fr, .bool false, .map (some gi), .map (some gc), .map (some gl)] 108)) #[.int .i64 0, .bool false, .map none, .map none, .map none] 108
  rw [World.size_alloc] at kr
  have hb0 : Below w.heap.size w ((w.alloc (.cells #[.int .i64 fr, .bool false, .map (some gi), .map (some gc), .map (some gl)] 108)).alloc (.cells #[.int .i64 0, .bool false, .map none, .map none, .map none] 108)) := ((Below.refl _ w).alloc (Nat.le_refl _) _).alloc (by simp) _
  go_enter Tryz.func80, Tryz.ntmps80
  go_wp2_with fail
  generalize ((w.alloc (.cells #[.int .i64 fr, .bool false, .map (some gi), .map (some gc), .map (some gl)] 108)).alloc (.cells #[.int .i64 0, .bool false, .map none, .map none, .map none] 108)) = wz at *
  have hRz := hR.below hb0
  have q0 := (hRz.blk.cell 0).trans rfl
  have q1 := (hRz.blk.cell 1).trans rfl
  have q2 := (hRz.blk.cell 2).trans rfl
  have q3 := (hRz.blk.cell 3).trans rfl
  have z2 := (kf.cell 2).trans rfl
  have z3 := (kf.cell 3).trans rfl
  have z4 := (kf.cell 4).trans rfl
  have HJ : Hid (_) := receive_join hR hb0 (hg.below hb0) hS2 hk2 hcp same
  have HK : Hid (Blk wz (w.heap.size + 1) #[.int .i64 0, .bool false, .map none, .map none, .map none] 108) := kr
  have hlz : w.heap.size + 1 < wz.heap.size := kr.lt
  clear hR hg hS2 hcp same kf kr hRz
  go_cut [3] from 5 to 15 (fun v3 wx => v3 = .pointer (some ⟨w.heap.size, 0, none⟩) ∧ Blk wx (w.heap.size + 1) #[.int .i64 0, .bool false, .map none, .map none, .map none] 108 ∧ ∃ io' co' lo', RepP wx rb a (some io') (some co') (some lo') (maxK K K2) (joinC K C K2 C2) ∧ (wz.heap.size ≤ io' ∧ wz.heap.size ≤ co' ∧ wz.heap.size ≤ lo') ∧ Chg (fun k => k = rb) w wx)
  case first =>
    go_region_with (first | (go_at_call 74; refine Calls.mono HJ.out ?_; rintro e w9 ⟨ib, cb, lb, rfl, hq1, hq2, hq3, hqf, hfin⟩))
    all_goals
      go_wp2_with fail
      go_meet
      refine ⟨rfl, ?_, ib, cb, lb, hfin.1, hfin.2.1, hfin.2.2.2⟩
      exact (HK.out.below hfin.2.2.1).chg (M := fun k => k = rb) ((((Chg.refl (fun k => k = rb) w9).setCell (p := ⟨rb, 1, none⟩) rfl _).setCell (p := ⟨rb, 2, none⟩) rfl _).setCell (p := ⟨rb, 3, none⟩) rfl _) (by omega)
  case rest =>
  obtain ⟨rfl, kr5, io', co', lo', hR5, hn5, hc5⟩ := hcut
  have q0 := (hR5.blk.cell 0).trans rfl
  have r0 := (kr5.cell 0).trans rfl
  have r1 := (kr5.cell 1).trans rfl
  have r2 := (kr5.cell 2).trans rfl
  have r3 := (kr5.cell 3).trans rfl
  have r4 := (kr5.cell 4).trans rfl
  have f0 := kr5.frozen
  have HF : Hid (RepP wc rb a (some io') (some co') (some lo') (maxK K K2) (joinC K C K2 C2) ∧ (wz.heap.size ≤ io' ∧ wz.heap.size ≤ co' ∧ wz.heap.size ≤ lo') ∧ Chg (fun k => k = rb) w wc) := ⟨hR5, hn5, hc5⟩
  clear HJ HK q1 q2 q3 z2 z3 z4 hR5 hn5 hc5
  go_wp2_with fail
  have kz := blk5_all (u0 := .int .i64 (a : Int)) (u1 := .bool true) (u2 := .map none) (u3 := .map none) (u4 := .map none) kr5
  have hcz : Chg (fun k => k = w.heap.size + 1) wc (((((wc.setCell ⟨w.heap.size + 1, 0, none⟩ (.int .i64 (a : Int))).setCell ⟨w.heap.size + 1, 1, none⟩ (.bool true)).setCell ⟨w.heap.size + 1, 2, none⟩ (.map none)).setCell ⟨w.heap.size + 1, 3, none⟩ (.map none)).setCell ⟨w.heap.size + 1, 4, none⟩ (.map none)) :=
    ((((Chg.refl (fun k => k = w.heap.size + 1) wc).setCell (p := ⟨w.heap.size + 1, 0, none⟩) rfl (.int .i64 (a : Int))).setCell (p := ⟨w.heap.size + 1, 1, none⟩) rfl (.bool true)).setCell (p := ⟨w.heap.size + 1, 2, none⟩) rfl (.map none)).setCell (p := ⟨w.heap.size + 1, 3, none⟩) rfl (.map none) |>.setCell (p := ⟨w.heap.size + 1, 4, none⟩) rfl (.map none)
  clear r0 r1 r2 r3 r4 f0 q0 kr5
  generalize (((((wc.setCell ⟨w.heap.size + 1, 0, none⟩ (.int .i64 (a : Int))).setCell ⟨w.heap.size + 1, 1, none⟩ (.bool true)).setCell ⟨w.heap.size + 1, 2, none⟩ (.map none)).setCell ⟨w.heap.size + 1, 3, none⟩ (.map none)).setCell ⟨w.heap.size + 1, 4, none⟩ (.map none)) = wf at *
  obtain ⟨hR5, hn5, hc5⟩ := HF.out
  have hRf := hR5.chg hcz (by omega) (fun b hb => by rcases hb with h | h | h <;> cases h <;> omega)
  have hcf : Chg (fun k => k = rb) w wf := hc5.trans' hcz (fun x hx h => by omega)
  have d0 := (kz.cell 0).trans rfl
  have d1 := (kz.cell 1).trans rfl
  have d2 := (kz.cell 2).trans rfl
  have d3 := (kz.cell 3).trans rfl
  have d4 := (kz.cell 4).trans rfl
  exact bodyPost_ret (v := .agg #[.int .i64 (a : Int), .bool true, .map none, .map none, .map none]) (by simp [results, Tryz.results80, go_sem, d0, d1, d2, d3, d4]) rfl ⟨rfl, io', co', lo', hRf, by omega, hcf⟩

set_option maxHeartbeats 8000000 in
set_option maxRecDepth 100000 in
theorem rSend_any (w : World) (rb a : Nat) (K : Nat → Nat) (io co lo : Option Nat) (C : Nat → Option Thk.Ch) (hR : RepP w rb a io co lo K C) :
    Calls Tryz.prog 57 #[.pointer (some ⟨rb, 0, none⟩)] w fun e w' => e = .returned (.agg #[.int .i64 (a : Int), .bool false, .map io, .map co, .map lo]) ∧ Below w.heap.size w w' := by
  have hrl := hR.blk.lt
  have kr := Blk.new w #[.int .i64 0, .bool false, .map none, .map none, .map none] 108
  have hb0 : Below w.heap.size w (w.alloc (.cells #[.int .i64 0, .bool false, .map none, .map none, .map none] 108)) := (Below.refl _ w).alloc (Nat.le_refl _) _
  have kq := hR.blk.alloc (.cells #[.int .i64 0, .bool false, .map none, .map none, .map none] 108)
  clear hR
  go_enter Tryz.func57, Tryz.ntmps57
  go_wp2_with fail
  generalize (w.alloc (.cells #[.int .i64 0, .bool false, .map none, .map none, .map none] 108)) = wz at *
  have q0 := (kq.cell 0).trans rfl
  have q1 := (kq.cell 1).trans rfl
  have q2 := (kq.cell 2).trans rfl
  have q3 := (kq.cell 3).trans rfl
  have r0 := (kr.cell 0).trans rfl
  have r1 := (kr.cell 1).trans rfl
  have r2 := (kr.cell 2).trans rfl
  have r3 := (kr.cell 3).trans rfl
  have r4 := (kr.cell 4).trans rfl
  have f0 := kr.frozen
  go_region
  all_goals
    go_wp2_with fail
    have kz := blk5_all (u0 := .int .i64 (a : Int)) (u1 := .bool false) (u2 := .map io) (u3 := .map co) (u4 := .map lo) kr
    have hbz := bl_w (i := 4) (u := .map lo) (bl_w (i := 3) (u := .map co) (bl_w (i := 2) (u := .map io) (bl_w (i := 1) (u := .bool false) (bl_w (i := 0) (u := .int .i64 (a : Int)) hb0))))
    clear r0 r1 r2 r3 r4 f0 q0 q1 q2 q3 kr kq
    generalize (((((wz.setCell ⟨w.heap.size, 0, none⟩ (.int .i64 (a : Int))).setCell ⟨w.heap.size, 1, none⟩ (.bool false)).setCell ⟨w.heap.size, 2, none⟩ (.map io)).setCell ⟨w.heap.size, 3, none⟩ (.map co)).setCell ⟨w.heap.size, 4, none⟩ (.map lo)) = wf at *
    have d0 := (kz.cell 0).trans rfl
    have d1 := (kz.cell 1).trans rfl
    have d2 := (kz.cell 2).trans rfl
    have d3 := (kz.cell 3).trans rfl
    have d4 := (kz.cell 4).trans rfl
    exact bodyPost_ret (v := .agg #[.int .i64 (a : Int), .bool false, .map io, .map co, .map lo]) (by simp [results, Tryz.results57, go_sem, d0, d1, d2, d3, d4]) rfl ⟨rfl, hbz.drew⟩
end Go.Proofs.YtoiiaankpnhppaaGreatDoor
namespace Go.Proofs.YtoiiaankpnhppaaGreatDoor
open Go.RowKit Go.Maps Go.WideMaps Go.MuLone Go.Deep

theorem map_noTag {w : World} {b : Nat} {t k : TypeId} {N : Nat} {m : Value → Option Value} (h : MapO Tryz.prog k w (.map (some b)) N m) (ht : Tagged w b t) : False := by
  obtain ⟨h1, _⟩ | ⟨b', h1, D, ⟨es, clock, h2, _⟩, _⟩ := h
  · cases h1
  · cases h1
    obtain ⟨cur, h3⟩ := ht
    rw [h2] at h3
    cases h3
theorem blk_tag {w : World} {b : Nat} {cs : Array Value} {t t' : TypeId} (h : Blk w b cs t) (ht : Tagged w b t') : t' = t := by
  obtain ⟨cur, h3⟩ := ht
  exact (blk_types h h3).2.symm
section
variable {w w' : World} {x q cap : Nat} {fv : Value} {st : Int} {ds : List RepD} {bs : List (Nat × ByteArray)}
theorem CluP.repTag (h : CluP w x q cap fv st ds bs) (j : Nat) (hj : j < ds.length) {k : Nat} (ho : ds[j].own k) {t : TypeId} (ht : Tagged w k t) : t = 112 := by
  have hr := h.rep j hj
  rcases ho with rfl | ho | ho | ho
  · exact blk_tag hr.blk ht
  · obtain ⟨N, hm⟩ := hr.st.its
    rw [ho] at hm
    exact (map_noTag hm ht).elim
  · obtain ⟨N, hm⟩ := hr.ctx.cs
    rw [ho] at hm
    exact (map_noTag hm ht).elim
  · obtain ⟨N, hm⟩ := hr.ctx.ls
    rw [ho] at hm
    exact (map_noTag hm ht).elim
theorem CluP.more {w6 : World} (h : CluP w x q cap fv st ds bs) (hc : Chg (fun k => fv.ownBlock = some k) w w6) {dn : Nat} {s : ByteArray} {g c : Nat} (hb : bs.length + 1 ≤ 500)
    (ho : w6.ownsRow 0 92 2 (.slice (some ⟨g, 0, none⟩) (bs.length + 1) c) (bs.length + 1) (frV bs ++ [.int .i64 (dn : Int), .string s])) :
    CluP (w6.setCell ⟨x, 3, none⟩ (.slice (some ⟨g, 0, none⟩) (bs.length + 1) c)) x q cap (.slice (some ⟨g, 0, none⟩) (bs.length + 1) c) st ds (bs ++ [(dn, s)]) := by
  have hno : ∀ {k : Nat} {t : TypeId}, Tagged w k t → t ≠ 92 → ¬ fv.ownBlock = some k := fun ht hne hk => Tagged.ne ht (h.frT _ hk) hne rfl
  have hx : ¬ fv.ownBlock = some x := hno ⟨_, h.blk⟩ (by decide)
  obtain ⟨cs, r1, r2⟩ := h.row
  have hq : ¬ fv.ownBlock = some q := hno ⟨_, r1⟩ (by decide)
  have hb6 := h.blk.chg hc hx
  have hcx : Chg (fun k => k = x) w6 (w6.setCell ⟨x, 3, none⟩ (.slice (some ⟨g, 0, none⟩) (bs.length + 1) c)) := (Chg.refl (fun k => k = x) w6).setCell (p := ⟨x, 3, none⟩) rfl _
  have hgx : g ≠ x := fun e => by
    subst e
    obtain ⟨_, ⟨h1, _⟩ | ⟨g', cp, cur, hv, _, hh, _⟩⟩ := ho
    · cases h1
    · simp only [Value.slice.injEq, Option.some.injEq, Addr.mk.injEq, true_and, and_true] at hv
      obtain ⟨rfl, rfl⟩ := hv
      exact absurd (blk_types hb6 hh).2 (by decide)
  refine ⟨?_, ⟨cs, (r1.chg hc hq).chg hcx (Ne.symm h.xq), r2⟩, ?_, fun j hj => ?_, h.apart, h.xr, h.qr, h.len, h.x4, by simpa using hb⟩
  · unfold Blk at hb6 ⊢
    simp [World.setCell, Array.getElem?_modify, hb6]
  · rw [frV_snoc, List.length_append, List.length_singleton]
    exact ownsRow_setCell_other ho (a := ⟨x, 3, none⟩) (fun e => hgx (by simpa [Value.ownBlock] using e)) _
  · have hro : ∀ k, ds[j].own k → ¬ fv.ownBlock = some k := fun k hk hf => absurd (h.repTag j hj hk (h.frT k hf)) (by decide)
    exact ((h.rep j hj).chg hc (hro _ (Or.inl rfl)) (fun b hb => hro b (Or.inr hb))).chg hcx (fun e => h.xr j hj (Or.inl e.symm)) (fun b hb e => h.xr j hj (by subst e; exact Or.inr hb))
theorem CluP.fvS (h : CluP w x q cap fv st ds bs) : ∃ ao c, fv = .slice ao bs.length c ∧ bs.length ≤ c := by
  obtain ⟨_, ⟨h1, h2⟩ | ⟨g, cap, cur, h1, _, _, h3, _⟩⟩ := h.fr
  · exact ⟨none, 0, by rw [h1, h2], by omega⟩
  · exact ⟨_, cap, h1, h3⟩
end

set_option maxHeartbeats 1000000 in
theorem allSent_any (w : World) (x q cap : Nat) (fv : Value) (st : Int) (ds : List RepD) (bs : List (Nat × ByteArray)) (hC : CluP w x q cap fv st ds bs) :
    Calls Tryz.prog 55 #[.pointer (some ⟨x, 0, none⟩)] w fun e w' => e = .returned (.bool (decide (500 ≤ bs.length))) ∧ w' = w := by
  obtain ⟨ao, c, rfl, _⟩ := hC.fvS
  have c3 : w.cell? ⟨x, 3, none⟩ = some (.slice ao bs.length c) := (hC.blk.cell 3).trans rfl
  have hb := hC.b500
  clear hC
  generalize bs.length = n at *
  by_cases h : 500 ≤ n
  · have e1 : decide (500 ≤ n) = true := decide_eq_true h
    rw [e1]
    clear e1
    go_enter Tryz.func55, Tryz.ntmps55
    go_wp2
    go_ret
    exact ⟨by first | rfl | (simp; omega), rfl⟩
  · have e1 : decide (500 ≤ n) = false := decide_eq_false h
    rw [e1]
    clear e1
    go_enter Tryz.func55, Tryz.ntmps55
    go_wp2
    go_ret
    exact ⟨by first | rfl | (simp; omega), rfl⟩

set_option maxHeartbeats 1000000 in
theorem isSent_any (w : World) (x q cap : Nat) (fv : Value) (st : Int) (ds : List RepD) (bs : List (Nat × ByteArray)) (hC : CluP w x q cap fv st ds bs) (f : Int) :
    Calls Tryz.prog 43 #[.pointer (some ⟨x, 0, none⟩), .int .i64 f] w fun e w' => e = .returned (.bool (decide (1 ≤ f ∧ f ≤ bs.length))) ∧ w' = w := by
  obtain ⟨ao, c, rfl, _⟩ := hC.fvS
  have c3 : w.cell? ⟨x, 3, none⟩ = some (.slice ao bs.length c) := (hC.blk.cell 3).trans rfl
  have hb := hC.b500
  clear hC
  generalize bs.length = n at *
  by_cases h1 : 1 ≤ f
  · by_cases h : f ≤ (n : Int)
    · have e1 : decide (1 ≤ f ∧ f ≤ (n : Int)) = true := decide_eq_true ⟨h1, h⟩
      rw [e1]
      clear e1
      go_enter Tryz.func43, Tryz.ntmps43
      go_wp2
      go_ret
      exact ⟨by first | rfl | (simp; omega), rfl⟩
    · have e1 : decide (1 ≤ f ∧ f ≤ (n : Int)) = false := decide_eq_false (fun h2 => h h2.2)
      rw [e1]
      clear e1
      go_enter Tryz.func43, Tryz.ntmps43
      go_wp2
      go_ret
      exact ⟨by first | rfl | (simp; omega), rfl⟩
  · have e1 : decide (1 ≤ f ∧ f ≤ (n : Int)) = false := decide_eq_false (fun h2 => h1 h2.1)
    rw [e1]
    clear e1
    go_enter Tryz.func43, Tryz.ntmps43
    go_wp2
    go_ret
    exact ⟨by first | rfl | (simp; omega), rfl⟩

theorem Tryz.infoSent : (Tryz.prog.info? 92).map (fun i => (i.zero, i.size, i.bytes)) = some (some (.agg #[.int .i64 0, .string ⟨#[]⟩]), 2, 24) := by kernel_rfl

set_option maxHeartbeats 8000000 in
set_option maxRecDepth 100000 in
theorem send_any (w : World) (x q cap : Nat) (fv : Value) (st : Int) (ds : List RepD) (bs : List (Nat × ByteArray)) (hC : CluP w x q cap fv st ds bs) (hb : bs.length + 1 ≤ 500) (dn : Nat) (a : Int) (ak : Bool) (io co lo : Option Nat) (P : ByteArray → Prop)
    (hB : ∀ wx, Below w.heap.size w wx → Calls Tryz.prog 99 #[.agg #[.int .i64 a, .bool ak, .map io, .map co, .map lo]] wx fun e w' => ∃ s, e = .returned (.string s) ∧ P s ∧ Below wx.heap.size wx w') :
    Calls Tryz.prog 56 #[.pointer (some ⟨x, 0, none⟩), .int .i64 (dn : Int), .agg #[.int .i64 a, .bool ak, .map io, .map co, .map lo]] w fun e w' => ∃ s fv', e = .returned (.int .i64 ((bs.length + 1 : Nat) : Int)) ∧ P s ∧ CluP w' x q cap fv' st ds (bs ++ [(dn, s)]) ∧
      Chg (fun k => k = x ∨ fv.ownBlock = some k) w w' ∧ (∀ k, fv'.ownBlock = some k → fv.ownBlock = some k ∨ w.heap.size ≤ k) := by
  have HC : Hid (CluP w x q cap fv st ds bs) := hC
  obtain ⟨iR, hiR, hzR0, hzR1, hzR2⟩ := info_parts Tryz.infoSent
  obtain ⟨W0, hW0⟩ : ∃ W0, W0 = w.alloc (.cells #[.int .i64 a, .bool ak, .map io, .map co, .map lo] 108) := ⟨_, rfl⟩
  have hb0 : Below w.heap.size w W0 := by rw [hW0]; exact (Below.refl _ w).alloc (Nat.le_refl _) _
  have kf : Blk W0 w.heap.size #[.int .i64 a, .bool ak, .map io, .map co, .map lo] 108 := by rw [hW0]; exact Blk.new w _ _
  have HB : Hid (∀ wx, wx.heap = W0.heap → wx.os = W0.os → wx.tape = W0.tape → wx.output = W0.output → Calls Tryz.prog 99 #[.agg #[.int .i64 a, .bool ak, .map io, .map co, .map lo]] wx fun e w' => ∃ s, e = .returned (.string s) ∧ (P s ∧ Below w.heap.size w w') ∧ w'.ownsRow 0 92 2 fv bs.length (frV bs) ∧ w'.cell? ⟨x, 3, none⟩ = some fv ∧ (∀ o, (w'.alloc o).cell? ⟨x, 3, none⟩ = some fv) ∧ (∀ j, w'.frozen? ⟨x, j, none⟩ = false) ∧ w'.cell? ⟨w.heap.size, 0, none⟩ = some (.int .i64 a) ∧ w'.cell? ⟨w.heap.size, 1, none⟩ = some (.bool ak) ∧ w'.cell? ⟨w.heap.size, 2, none⟩ = some (.map io) ∧ w'.cell? ⟨w.heap.size, 3, none⟩ = some (.map co) ∧ w'.cell? ⟨w.heap.size, 4, none⟩ = some (.map lo)) := fun wx hx ho ht hp => by
    have hbx : Below w.heap.size w wx := ⟨ho.trans hb0.os, ht.trans hb0.tape, hp.trans hb0.output, by rw [hx]; exact hb0.size, fun k hk => by rw [hx]; exact hb0.block k hk⟩
    refine Calls.mono (hB wx hbx) ?_
    rintro e w' ⟨s, rfl, hP, hb2⟩
    have hbw : Below w.heap.size w w' := hbx.trans (hb2.mono hbx.size)
    have hC' := hC.below hbw
    have kx : Blk wx w.heap.size #[.int .i64 a, .bool ak, .map io, .map co, .map lo] 108 := by unfold Blk; rw [hx]; exact kf
    have k' := kx.below hb2
    exact ⟨s, rfl, ⟨hP, hbw⟩, hC'.fr, (hC'.blk.cell 3).trans rfl, fun o => ((hC'.blk.alloc o).cell 3).trans rfl, hC'.blk.frozen, (k'.cell 0).trans rfl, (k'.cell 1).trans rfl, (k'.cell 2).trans rfl, (k'.cell 3).trans rfl, (k'.cell 4).trans rfl⟩
  have hC0 := hC.below hb0
  have c3 : W0.cell? ⟨x, 3, none⟩ = some fv := (hC0.blk.cell 3).trans rfl
  have d0 := (kf.cell 0).trans rfl
  have d1 := (kf.cell 1).trans rfl
  have d2 := (kf.cell 2).trans rfl
  have d3 := (kf.cell 3).trans rfl
  have d4 := (kf.cell 4).trans rfl
  have Hne : Hid (fv.ownBlock ≠ some x) := fun e => Tagged.ne (hC.frT x e) ⟨_, hC.blk⟩ (by decide) rfl
  have hxl : Hid (x < w.heap.size) := hC.blk.lt
  have m1 : Hid (bs.length + 1 ≤ maxLen) := by unfold Hid maxLen; omega
  have m2 : Hid ((bs.length + 1) * 24 ≤ 140737488355328) := by unfold Hid; omega
  have hone : Hid (∀ (s : ByteArray), ∀ u ∈ [Value.int .i64 (dn : Int), .string s], u.oneCell' = true) := by intro s u hu; simp at hu; rcases hu with rfl | rfl <;> rfl
  have HW0 : Hid (w.alloc (.cells #[.int .i64 a, .bool ak, .map io, .map co, .map lo] 108) = W0) := hW0.symm
  clear hC hC0 hB hW0 hb0 kf
  go_enter Tryz.func56, Tryz.ntmps56
  go_wp2_with fail
  rw [HW0.out]
  go_cut [] from 7 to 20 (fun wx => ∃ s w6 g6 c6, wx = w6.setCell ⟨x, 3, none⟩ (.slice (some ⟨g6, 0, none⟩) (bs.length + 1) c6) ∧ P s ∧ Chg (fun k => fv.ownBlock = some k) w w6 ∧ w6.ownsRow 0 92 2 (.slice (some ⟨g6, 0, none⟩) (bs.length + 1) c6) (bs.length + 1) (frV bs ++ [.int .i64 (dn : Int), .string s]) ∧ (fv.ownBlock = some g6 ∨ w.heap.size ≤ g6))
  case first =>
    go_region_law (first | (go_simp; refine Calls.mono (HB.out _ rfl rfl rfl rfl) ?_; rintro e w5 ⟨s5, rfl, hP5, hrow5, e3, e3A, ef, f0, f1, f2, f3, f4⟩) | (refine step_append_row rfl (.tmp 11) (.tmp 16) 72 rfl 92 iR (.agg #[.int .i64 0, .string ⟨#[]⟩]) 2 24 Tryz.underlying72 hiR hzR0 hzR1 hzR2 rfl (by decide) fv bs.length (frV bs) rfl ?_ _ 1 1 [.int .i64 (dn : Int), .string s5] rfl rfl ?_ (hone.out _) m1.out m2.out (Nat.succ_pos _) ?_; (exact hrow5.alloc _); (intro j u hj; match j, hj with | 0, hj => (cases hj; simp [Addr.add]) | 1, hj => (cases hj; simp [Addr.add])); intro g6 c6 w6 hown6 hg6 hnew6; have hC6 : Chg (fun k => fv.ownBlock = some k) w5 w6 := Chg.grown (Chg.of_below (by go_grown)) hg6 (fun k hk => Or.inl hk); have k3 := (World.cell?_of_block (w := w5) (a := ⟨x, 3, none⟩) (hC6.block x (Nat.lt_of_lt_of_le hxl.out hP5.2.size) Hne.out)).trans e3; have kf6 : ∀ j, w6.frozen? ⟨x, j, none⟩ = false := fun j => (World.frozen?_of_block (w := w5) (a := ⟨x, j, none⟩) (hC6.block x (Nat.lt_of_lt_of_le hxl.out hP5.2.size) Hne.out)).trans (ef j)))
    all_goals
      go_wp2_with fail
      go_meet
      refine ⟨s5, w6, g6, c6, rfl, hP5.1, (Chg.of_below hP5.2).trans hC6, hown6, ?_⟩
      rcases hnew6 with h | h
      · exact Or.inl h
      · refine Or.inr (Nat.le_trans hP5.2.size ?_)
        simp at h
        omega
  case rest =>
  obtain ⟨s, w6, g6, c6, rfl, hP, hC6, hown6, hnew6⟩ := hcut
  have hM := HC.out.more hC6 hb hown6
  have HM : Hid (_) := hM
  have r3 := (hM.blk.cell 3).trans rfl
  have HX : Hid (P s ∧ Chg (fun k => k = x ∨ fv.ownBlock = some k) w (w6.setCell ⟨x, 3, none⟩ (.slice (some ⟨g6, 0, none⟩) (bs.length + 1) c6)) ∧ (fv.ownBlock = some g6 ∨ w.heap.size ≤ g6)) := ⟨hP, Chg.setCell (M := fun k => k = x ∨ fv.ownBlock = some k) (p := ⟨x, 3, none⟩) (hC6.wide (fun k hk => Or.inr hk)) (Or.inl rfl) _, hnew6⟩
  clear hP hC6 hown6 hnew6 HB c3 d0 d1 d2 d3 d4 hone m1 m2 hM
  generalize w6.setCell ⟨x, 3, none⟩ (.slice (some ⟨g6, 0, none⟩) (bs.length + 1) c6) = w7 at *
  go_wp2_with fail
  go_ret
  exact ⟨s, _, by first | rfl | go_num, HX.out.1, HM.out, HX.out.2.1, fun k hk => by cases hk; exact HX.out.2.2⟩

set_option maxHeartbeats 1000000 in
theorem CloneB_any (s : ByteArray) (w : World) (hs : s.size ≤ 1000000000) : Calls Tryz.prog 118 #[.string s] w fun e w' => e = .returned (.string s) ∧ Below w.heap.size w w' := by
  have Hc : Hid (_) := Tryz.stringslite_Clone s w (by omega)
  go_enter Tryz.func118, Tryz.ntmps118
  go_wp2_with fail
  refine Calls.mono Hc.out ?_
  rintro e w1 ⟨rfl, hb⟩
  go_wp2
  go_ret
  exact ⟨rfl, hb⟩
end Go.Proofs.YtoiiaankpnhppaaGreatDoor
namespace Go.Proofs.YtoiiaankpnhppaaGreatDoor

structure FrD where
  src : Nat
  dst : Nat
  ack : Nat
  known : List Bool
  bytes : ByteArray
def bothL (a b : List Bool) : List Bool := (List.range (max a.length b.length)).map fun k => a.getD k false || b.getD k false
theorem getD_len {known : List Bool} {j : Nat} (hj : known.length ≤ j) : known.getD j false = false := by rw [List.getD_eq_getElem?_getD, List.getElem?_eq_none hj]; rfl
theorem bothL_getD (a b : List Bool) (i : Nat) : (bothL a b).getD i false = (a.getD i false || b.getD i false) := by
  unfold bothL
  by_cases h : i < max a.length b.length
  · rw [List.getD_eq_getElem?_getD, List.getElem?_map, List.getElem?_range h]
    rfl
  · rw [getD_len (by simp; omega), getD_len (known := a) (by omega), getD_len (known := b) (by omega)]; rfl
theorem bothL_len (a b : List Bool) : (bothL a b).length = max a.length b.length := by unfold bothL; simp
end Go.Proofs.YtoiiaankpnhppaaGreatDoor
namespace Go.Proofs.YtoiiaankpnhppaaGreatDoor
open Go.RowKit

def DoOut (es : List Ev) (knowns : List (List Bool)) (i : Int) (s : Thk.Bs) (r : Int) (es' : List Ev) (kn' : List (List Bool)) : Prop :=
  (¬ (0 ≤ i ∧ i < knowns.length) ∧ r = 2 ∧ es' = es ∧ kn' = knowns) ∨
  (∃ k : Nat, (0 ≤ i ∧ i < knowns.length) ∧ Thk.read s = .inl k ∧ r = (k : Int) ∧ es' = es ∧ kn' = knowns) ∨
  (∃ c : Thk.Ch, (0 ≤ i ∧ i < knowns.length) ∧ Thk.read s = .inr c ∧ 500 ≤ es.length ∧ r = 7 ∧ es' = es ∧ kn' = knowns) ∨
  ∃ (c : Thk.Ch) (e : Ev), (0 ≤ i ∧ i < knowns.length) ∧ Thk.read s = .inr c ∧ es.length < 500 ∧ toL e.p = c.path ∧ e.a = c.act ∧ toL e.v = c.val ∧ e.n = c.n ∧ e.saw = knowns.getD i.toNat [] ∧
    r = 0 ∧ es' = es ++ [e] ∧ kn' = knowns.set i.toNat (moreOf (knowns.getD i.toNat []) es.length)
section
variable {es : List Ev} {knowns : List (List Bool)} {i : Int} {s : Thk.Bs}
theorem DoOut.rep (h : ¬ (0 ≤ i ∧ i < knowns.length)) : DoOut es knowns i s 2 es knowns := Or.inl ⟨h, rfl, rfl, rfl⟩
theorem DoOut.bad (k : Nat) (h : 0 ≤ i ∧ i < knowns.length) (hr : Thk.read s = .inl k) : DoOut es knowns i s k es knowns := Or.inr (Or.inl ⟨k, h, hr, rfl, rfl, rfl⟩)
theorem DoOut.full (c : Thk.Ch) (h : 0 ≤ i ∧ i < knowns.length) (hr : Thk.read s = .inr c) (hl : 500 ≤ es.length) : DoOut es knowns i s 7 es knowns := Or.inr (Or.inr (Or.inl ⟨c, h, hr, hl, rfl, rfl, rfl⟩))
theorem DoOut.done (c : Thk.Ch) (e : Ev) (h : 0 ≤ i ∧ i < knowns.length) (hr : Thk.read s = .inr c) (hl : es.length < 500) (h1 : toL e.p = c.path) (h2 : e.a = c.act) (h3 : toL e.v = c.val) (h4 : e.n = c.n) (h5 : e.saw = knowns.getD i.toNat []) :
    DoOut es knowns i s 0 (es ++ [e]) (knowns.set i.toNat (moreOf (knowns.getD i.toNat []) es.length)) := Or.inr (Or.inr (Or.inr ⟨c, e, h, hr, hl, h1, h2, h3, h4, h5, rfl, rfl, rfl⟩))
end

set_option maxHeartbeats 4000000 in
set_option maxRecDepth 100000 in
theorem RefDo_any (w : World) (c rb : Nat) (evv fv : Value) (av : Nat → Value) (room : Nat) (es : List Ev) (most : Nat) (hmost : most + 1 ≤ 1000) (knowns : List (List Bool)) (h : RefAt w c rb evv fv av room es es.length most knowns) (i : Int) (s : ByteArray) (hs : s.size ≤ 1048576) :
    Calls Tryz.prog 92 #[.pointer (some ⟨c, 0, none⟩), .int .i64 i, .string s] w fun e w' =>
      ∃ (r : Int) (evv' : Value) (es' : List Ev) (knowns' : List (List Bool)), e = .returned (.int .i64 r) ∧ DoOut es knowns i (toL s) r es' knowns' ∧ RefAt w' c rb evv' fv av room es' es'.length (most + (es'.length - es.length)) knowns' ∧
        Chg (fun x => x = c ∨ x = rb ∨ evv.ownBlock = some x) w w' ∧ (evv'.ownBlock = evv.ownBlock ∨ ∃ g, evv'.ownBlock = some g ∧ w.heap.size ≤ g) := by
  have H : Hid (RefAt w c rb evv fv av room es es.length most knowns) := h
  clear h
  by_cases hi : 0 ≤ i ∧ i < knowns.length
  · obtain ⟨k, rfl⟩ := Int.eq_ofNat_of_zero_le hi.1
    have hk : k < knowns.length := by omega
    go_enter Tryz.func92, Tryz.ntmps92
    go_wp2_with fail
    refine (Up_any w c rb evv fv av room es _ _ knowns H.out (k : Int)).mono ?_
    rintro e w1 ⟨rfl, hw1⟩
    subst hw1
    rw [if_pos hi]
    go_wp2_with fail
    refine (Read_any s _ hs).mono ?_
    rintro e w2 ⟨he, hb2⟩
    have H2 : Hid (RefAt w2 c rb evv fv av room es es.length most knowns) := H.out.below hb2
    cases hr : Thk.read (toL s) with
    | inl m =>
      rw [hr] at he
      have he' : e = .returned (.tuple #[zeroEv, .int .i64 (m : Int)]) := he
      subst he'
      have hm0 : Hid (0 < m ∧ m ≤ 6) := Thk.read_err _ _ hr
      have hm1 := hm0.out.1
      have hm2 := hm0.out.2
      have hmb : ((m : Int) != 0) = true := by rw [bne_iff_ne]; omega
      have Hr : Hid (_) := hr
      clear hr he
      go_wp2
      go_ret
      refine ⟨m, evv, es, knowns, rfl, .bad m hi Hr.out, ?_, ?_, Or.inl rfl⟩
      · rw [Nat.sub_self, Nat.add_zero]; exact H2.out.below ((Below.refl _ _).alloc (Nat.le_refl _) _)
      · exact Chg.of_below (hb2.trans (((Below.refl _ _).alloc (Nat.le_refl _) _).mono hb2.size))
    | inr ch =>
      rw [hr] at he
      obtain ⟨p, v, rfl, hp, hv⟩ := he
      have Hr : Hid (_) := hr
      have Hok : Hid (_) := Thk.read_ok _ _ hr
      have Hp : Hid (_) := hp
      have Hv : Hid (_) := hv
      clear hr hp hv
      have f3 := H2.out.f3
      obtain ⟨cap, f1, hcap⟩ := H2.out.f1
      have hn5 := H2.out.n500
      have h6 := H2.out.n6
      have hcl := H2.out.tc.lt
      have hrl := H2.out.trb.lt
      have f3A : ∀ o, (w2.alloc o).cell? ⟨c, 3, none⟩ = some (.int .i64 (es.length : Int)) := fun o => (((Below.refl _ w2).alloc (Nat.le_refl _) o).cell (p := ⟨c, 3, none⟩) hcl).trans f3
      have f1A : ∀ o, (w2.alloc o).cell? ⟨c, 1, none⟩ = some (.slice (some ⟨rb, 0, none⟩) knowns.length cap) := fun o => (((Below.refl _ w2).alloc (Nat.le_refl _) o).cell (p := ⟨c, 1, none⟩) hcl).trans f1
      by_cases hfull : 500 ≤ es.length
      · go_wp2
        go_ret
        refine ⟨7, evv, es, knowns, rfl, .full ch hi Hr.out hfull, ?_, ?_, Or.inl rfl⟩
        · rw [Nat.sub_self, Nat.add_zero]; exact H2.out.below ((Below.refl _ _).alloc (Nat.le_refl _) _)
        · exact Chg.of_below (hb2.trans (((Below.refl _ _).alloc (Nat.le_refl _) _).mono hb2.size))
      · go_upto_region 10 with fail
        have hb3 : Hid (Below w2.heap.size w2 (w2.alloc (.cells #[.string p, .int .u8 (ch.act.toNat : Int), .string v, .int .i64 ch.n, .slice none 0 0] 207))) := (Below.refl _ _).alloc (Nat.le_refl _) _
        have H3 : Hid (RefAt (w2.alloc (.cells #[.string p, .int .u8 (ch.act.toNat : Int), .string v, .int .i64 ch.n, .slice none 0 0] 207)) c rb evv fv av room es es.length most knowns) := H2.out.below hb3.out
        have hE : Hid (Blk5 w2.heap.size (.string p) (.int .u8 (ch.act.toNat : Int)) (.string v) (.int .i64 ch.n) (.slice none 0 0) (w2.alloc (.cells #[.string p, .int .u8 (ch.act.toNat : Int), .string v, .int .i64 ch.n, .slice none 0 0] 207))) := blk5 (Below.refl (w2.heap.size + 1) _) (by omega)
        have hTe : Hid (Tagged (w2.alloc (.cells #[.string p, .int .u8 (ch.act.toNat : Int), .string v, .int .i64 ch.n, .slice none 0 0] 207)) w2.heap.size 207) := ⟨_, heap_alloc_new w2 _⟩
        have hlt3 : w2.heap.size < (w2.alloc (.cells #[.string p, .int .u8 (ch.act.toNat : Int), .string v, .int .i64 ch.n, .slice none 0 0] 207)).heap.size := by simp
        have hw23 : Hid (Chg (fun x => x = c ∨ x = rb ∨ evv.ownBlock = some x) w1 (w2.alloc (.cells #[.string p, .int .u8 (ch.act.toNat : Int), .string v, .int .i64 ch.n, .slice none 0 0] 207))) := Chg.of_below (hb2.trans (hb3.out.mono hb2.size))
        have hevlt : Hid (∀ g, evv.ownBlock = some g → g < w2.heap.size) := fun g hg => (H2.out.evLt g hg).1
        have hw1s : Hid (w1.heap.size ≤ (w2.alloc (.cells #[.string p, .int .u8 (ch.act.toNat : Int), .string v, .int .i64 ch.n, .slice none 0 0] 207)).heap.size) := hw23.out.size
        have hw1e : Hid (w1.heap.size ≤ w2.heap.size) := hb2.size
        clear f3 f1 f3A f1A hcl hrl H2 hb3 hb2
        generalize w2.alloc (.cells #[.string p, .int .u8 (ch.act.toNat : Int), .string v, .int .i64 ch.n, .slice none 0 0] 207) = W3 at *
        generalize w2.heap.size = e0 at *
        obtain ⟨⟨kv, a0, b0⟩, _⟩ := H3.out.reps k hk
        have Hkn : Hid (knowns.getD k [] = knowns[k]) := by unfold Hid; simp [List.getElem?_eq_getElem hk]
        have hkl := H3.out.kn _ (List.getElem_mem hk)
        generalize hkn : knowns[k] = kn at *
        obtain ⟨i4, hi4, hz40, hz41, hz42⟩ := info_parts Tryz.info4
        have hbl : (bools kn).length = kn.length := by simp [bools]
        have hfz := hE.out.f
        have hrl3 := H3.out.trb.lt
        have hcl3 := H3.out.tc.lt
        have a0A : ∀ o, (W3.alloc o).cell? ⟨rb, k * 13, none⟩ = some kv := fun o => (((Below.refl _ W3).alloc (Nat.le_refl _) o).cell (p := ⟨rb, k * 13, none⟩) hrl3).trans a0
        have e4A : ∀ o, (W3.alloc o).cell? ⟨e0, 4, none⟩ = some (.slice none 0 0) := fun o => (((Below.refl _ W3).alloc (Nat.le_refl _) o).cell (p := ⟨e0, 4, none⟩) hlt3).trans hE.out.c4
        have fzA : ∀ o j, (W3.alloc o).frozen? ⟨e0, j, none⟩ = false := fun o j => (((Below.refl _ W3).alloc (Nat.le_refl _) o).frozen (p := ⟨e0, j, none⟩) hlt3).trans (hfz j)
        go_cut [] from 37 to 43 (fun wx => ∃ so sc, Blk5 e0 (.string p) (.int .u8 (ch.act.toNat : Int)) (.string v) (.int .i64 ch.n) (.slice so kn.length sc) wx ∧ Chg (fun x => x = e0) W3 wx ∧ SliceT 4 wx (.slice so kn.length sc) (bools kn))
        case first =>
          rcases b0 with ⟨rfl, hnil⟩ | ⟨pb, po, pc, rfl, hpc, hpt, hpcells⟩
          · have hkn0 : kn = [] := by simpa [bools] using hnil
            subst hkn0
            have e4 := hE.out.c4
            go_wp2_with (at_builtin; refine wpList_append_own_none rfl (.tmp 37) (.tmp 41) 145 rfl W3.heap.size 4 i4 1 Tryz.underlying145 hi4 (.slice (some ⟨_, 0, none⟩) 0 0) 0 [] rfl (own_lit0 _ _ rfl (Nat.le_refl _)) rfl ?_)
            go_meet
            rw [← World.setCell_alloc_past _ e0 4 _ hlt3]
            have hbA : Below W3.heap.size W3 (W3.alloc (.cells #[] 4)) := (Below.refl _ _).alloc (Nat.le_refl _) _
            obtain ⟨z1, z2⟩ := setA hE.out hTe.out hbA (.slice (some ⟨W3.heap.size, 0, none⟩) 0 0)
            exact ⟨_, _, z1, z2, SliceT.chgT (s := 207) (own_sliceT (own_lit0 (e := 4) (base := 0) W3 _ rfl (Nat.zero_le _))) ((Chg.refl (fun x => x = e0) _).setCell (p := ⟨e0, 4, none⟩) rfl _) (hTe.out.below hbA) (by decide)⟩
          · have hsrc : Hid (∀ wx, Below W3.heap.size W3 wx → ∀ j u, (bools kn)[j]? = some u → wx.cell? ((⟨pb, po, none⟩ : Addr).add j) = some u) := by
              intro wx hwx j u hj
              have hjl : j < (bools kn).length := by
                rcases Nat.lt_or_ge j (bools kn).length with h | h
                · exact h
                · rw [List.getElem?_eq_none h] at hj; cases hj
              have he : (⟨pb, po, none⟩ : Addr).add j = ⟨pb, po + j, none⟩ := by unfold Addr.add; split <;> simp_all
              rw [he, hwx.cell (p := ⟨pb, po + j, none⟩) hpt.lt, hpcells j hjl]
              rw [List.getElem?_eq_getElem hjl] at hj; exact hj
            have hone : Hid (∀ u ∈ bools kn, u.oneCell' = true) := by intro u hu; simp [bools] at hu; rcases hu with ⟨_, rfl⟩ | ⟨_, rfl⟩ <;> rfl
            clear hpcells
            rw [hbl] at *
            go_wp2_with (at_builtin; go_loud (refine wpList_append_own _ rfl (.tmp 37) (.tmp 41) 145 rfl W3.heap.size 4 i4 (.bool false) 1 1 Tryz.underlying145 hi4 hz40 hz41 hz42 rfl (by decide) (.slice (some ⟨_, 0, none⟩) 0 0) 0 [] rfl (own_lit0 _ _ rfl (Nat.le_refl _)) ⟨pb, po, none⟩ kn.length pc (bools kn) rfl (by simp [bools]) (hsrc.out _ ((Below.refl _ _).alloc (Nat.le_refl _) _)) hone.out (by unfold maxLen; omega) (by omega) (by simp) ?_; intro v5 w5 hown5 hg5 _; have hB5 : Below W3.heap.size W3 w5 := ((Below.refl _ _).alloc (Nat.le_refl _) _).grown hg5 (by simp) (fun kk hkk => by simp [Value.ownBlock] at hkk; omega); obtain ⟨so5, sc5, rfl, _⟩ := (own_sliceT hown5).shape; have c45 := (hB5.cell (p := ⟨e0, 4, none⟩) hlt3).trans hE.out.c4; have f45 := fun j => (hB5.frozen (p := ⟨e0, j, none⟩) hlt3).trans (hfz j)))
            go_meet
            have hs5 : SliceT 4 w5 (.slice so5 (bools kn).length sc5) (bools kn) := by have := own_sliceT hown5; simpa using this
            have e : (bools kn).length = kn.length := by simp [bools]
            obtain ⟨z1, z2⟩ := setA hE.out hTe.out hB5 (.slice so5 (bools kn).length sc5)
            have z3 := SliceT.chgT (s := 207) hs5 ((Chg.refl (fun x => x = e0) _).setCell (p := ⟨e0, 4, none⟩) rfl (.slice so5 (bools kn).length sc5)) (hTe.out.below hB5) (by decide)
            rw [e] at z1 z2 z3 ⊢
            exact ⟨so5, sc5, z1, z2, z3⟩
        case rest =>
        obtain ⟨so, sc, hE5, hc5, hs5⟩ := hcut
        have hne0 : ∀ g, evv.ownBlock = some g → g ≠ e0 := fun g hg => Nat.ne_of_lt (hevlt.out g hg)
        have hce : c ≠ e0 := H3.out.tc.ne hTe.out (by decide)
        have hre : rb ≠ e0 := H3.out.trb.ne hTe.out (by decide)
        have H5 : Hid (RefAt wc c rb evv fv av room es es.length most knowns) := H3.out.chg hc5 hce hre hne0 (fun b hb => hb.ne hTe.out (by decide)) (IntsKept.of_chg hc5 (fun b hb => hb.ne hTe.out (by decide)))
        have hE5s : Hid (Blk5 e0 (.string p) (.int .u8 (ch.act.toNat : Int)) (.string v) (.int .i64 ch.n) (.slice so kn.length sc) wc) := hE5
        have hs5s : Hid (SliceT 4 wc (.slice so kn.length sc) (bools kn)) := hs5
        have hw5 : Hid (Chg (fun x => x = c ∨ x = rb ∨ evv.ownBlock = some x) w1 wc) := hw23.out.trans' hc5 (fun x hx h => by subst h; have := hw1e.out; omega)
        have hw5s : Hid (w1.heap.size ≤ wc.heap.size) := hw5.out.size
        clear hE hTe hlt3 hw23 hw1s H3 a0 b0 hfz hrl3 hcl3 a0A e4A fzA hc5 hs5 hne0 hbl
        generalize wc = W5 at *
        obtain ⟨svs, hsl, hown, hsvs⟩ := H5.out.evs
        have Hsvs : Hid (∀ j (h : j < svs.length) (h' : j < es.length), SliceT 4 W5 svs[j] (bools es[j].saw)) := hsvs
        have Hown : Hid (W5.ownsRow 0 207 5 evv es.length (evCells es svs)) := hown
        have g2 := H5.out.f2
        obtain ⟨d0, d1, d2, d3, d4, df⟩ := hE5
        have htc := H5.out.tc
        have hcf := htc.frozen
        have hcl5 := htc.lt
        have Hcdisj : Hid (∀ x, evv.ownBlock = some x → x ≠ c) := fun x hx => (H5.out.evLt x hx).2.ne htc (by decide)
        obtain ⟨iE, hiE, hzE0, hzE1, hzE2⟩ := info_parts Tryz.infoEv
        have hone5 : Hid (∀ u ∈ [Value.string p, .int .u8 (ch.act.toNat : Int), .string v, .int .i64 ch.n, .slice so kn.length sc], u.oneCell' = true) := by
          intro u hu; simp at hu; rcases hu with rfl | rfl | rfl | rfl | rfl <;> rfl
        have m1 : Hid (es.length + 1 ≤ maxLen) := by unfold Hid maxLen; omega
        have m2 : Hid ((es.length + 1) * 72 ≤ 140737488355328) := by unfold Hid; omega
        clear hsvs hown htc
        go_wp2_with fail
        go_cut [] from 44 to 53 (fun wx => ∃ w6 evv', wx = w6.setCell ⟨c, 2, none⟩ evv' ∧ Chg (fun x => evv.ownBlock = some x) W5 w6 ∧ w6.ownsRow 0 207 5 evv' (es.length + 1) (evCells es svs ++ [.string p, .int .u8 (ch.act.toNat : Int), .string v, .int .i64 ch.n, .slice so kn.length sc]) ∧ (evv'.ownBlock = evv.ownBlock ∨ ∃ g, evv'.ownBlock = some g ∧ W5.heap.size ≤ g))
        case first =>
          go_region_law (refine step_append_row rfl (.tmp 48) (.tmp 50) 149 rfl 207 iE zeroEv 5 72 Tryz.underlying149 hiE hzE0 hzE1 hzE2 rfl (by decide) evv es.length (evCells es svs) rfl ?_ _ 1 1 [.string p, .int .u8 (ch.act.toNat : Int), .string v, .int .i64 ch.n, .slice so kn.length sc] rfl rfl ?_ hone5.out m1.out m2.out (Nat.succ_pos _) ?_; (exact Hown.out.alloc _); (intro j u hj; match j, hj with | 0, hj => (cases hj; simp [Addr.add]) | 1, hj => (cases hj; simp [Addr.add]) | 2, hj => (cases hj; simp [Addr.add]) | 3, hj => (cases hj; simp [Addr.add]) | 4, hj => (cases hj; simp [Addr.add])); intro g6 c6 w6 hown6 hg6 hnew6; have hC6 : Chg (fun x => evv.ownBlock = some x) W5 w6 := Chg.grown (Chg.of_below (by go_grown)) hg6 (fun k hk => Or.inl hk); have k2 := (World.cell?_of_block (w := W5) (a := ⟨c, 2, none⟩) (hC6.block c hcl5 (fun h => Hcdisj.out c h rfl))).trans g2; have kf : ∀ j, w6.frozen? ⟨c, j, none⟩ = false := fun j => (World.frozen?_of_block (w := W5) (a := ⟨c, j, none⟩) (hC6.block c hcl5 (fun h => Hcdisj.out c h rfl))).trans (hcf j))
          all_goals
            go_wp2_with fail
            go_meet
            refine ⟨_, _, rfl, hC6, hown6, ?_⟩
            rcases hnew6 with h | h
            · exact Or.inl h.symm
            · refine Or.inr ⟨g6, rfl, ?_⟩
              simp at h; omega
        case rest =>
        obtain ⟨w6, evv', rfl, hC6, hown6, hnew⟩ := hcut
        obtain ⟨g6, c6, rfl⟩ := own_some hown6 (by omega)
        have hok : EvOk ⟨p, ch.act, v, ch.n, kn⟩ := by
          have ho := Hok.out
          have h1 : p.size = ch.path.length := by rw [← toL_length, Hp.out]
          have h2 : v.size = ch.val.length := by rw [← toL_length, Hv.out]
          exact ⟨by simp only []; omega, by simp only []; omega, ho.2.2.1, ho.2.2.2.1, by simp only []; omega⟩
        have H7 : Hid (RefAt (w6.setCell ⟨c, 2, none⟩ (.slice (some ⟨g6, 0, none⟩) (es.length + 1) c6)) c rb (.slice (some ⟨g6, 0, none⟩) (es.length + 1) c6) fv av room (es ++ [⟨p, ch.act, v, ch.n, kn⟩]) es.length most knowns) := H5.out.more hC6 ⟨p, ch.act, v, ch.n, kn⟩ hok (.slice so kn.length sc) hs5s.out svs hsl Hsvs.out (by omega) hown6
        have hw7 : Hid (Chg (fun x => x = c ∨ x = rb ∨ evv.ownBlock = some x) w1 (w6.setCell ⟨c, 2, none⟩ (.slice (some ⟨g6, 0, none⟩) (es.length + 1) c6))) := (hw5.out.trans' hC6 (fun x _ hx => Or.inr (Or.inr hx))).setCell (p := ⟨c, 2, none⟩) (Or.inl rfl) _
        have hnew7 : Hid ((Value.slice (some ⟨g6, 0, none⟩) (es.length + 1) c6).ownBlock = evv.ownBlock ∨ ∃ g, (Value.slice (some ⟨g6, 0, none⟩) (es.length + 1) c6).ownBlock = some g ∧ w1.heap.size ≤ g) := by
          rcases hnew with h | ⟨g, h1, h2⟩
          · exact Or.inl h
          · exact Or.inr ⟨g, h1, Nat.le_trans hw5s.out h2⟩
        clear hC6 hown6 hnew hok H5 hE5s hs5s hw5 hw5s Hsvs Hown g2 d0 d1 d2 d3 d4 df hcf hcl5 Hcdisj hone5 m1 m2 hiE hzE0 hzE1 hzE2
        generalize w6.setCell ⟨c, 2, none⟩ (.slice (some ⟨g6, 0, none⟩) (es.length + 1) c6) = W7 at *
        have q2 := H7.out.f2
        obtain ⟨⟨kv, a0, b0⟩, _⟩ := H7.out.reps k hk
        rw [hkn] at b0
        have hrl := H7.out.trb.lt
        have hcl := H7.out.tc.lt
        have a0B : ∀ wx, Below W7.heap.size W7 wx → wx.cell? ⟨rb, k * 13, none⟩ = some kv := fun wx hx => (hx.cell (p := ⟨rb, k * 13, none⟩) hrl).trans a0
        have HaB : Hid (_) := a0B
        have Hb0 : Hid (SliceT 4 W7 kv (bools kn)) := b0
        obtain ⟨ko, kc, rfl, hkc⟩ := b0.shape
        clear a0B
        have hcsl : (bools kn).length = kn.length := by simp [bools]
        have hsrc : Hid (∀ wx, Below W7.heap.size W7 wx → 0 < (bools kn).length → ∃ ad, ko = some ad ∧ ∀ j u, (bools kn)[j]? = some u → wx.cell? (ad.add j) = some u) := by
          intro wx hwx hpos
          rcases Hb0.out with ⟨h1, h2⟩ | ⟨pb, po, pc, h1, hpc, hpt, hpcells⟩
          · rw [h2] at hpos; simp at hpos
          · simp only [Value.slice.injEq] at h1
            refine ⟨⟨pb, po, none⟩, h1.1, fun j u hj => ?_⟩
            have hjl : j < (bools kn).length := by
              rcases Nat.lt_or_ge j (bools kn).length with h | h
              · exact h
              · rw [List.getElem?_eq_none h] at hj; cases hj
            have he : (⟨pb, po, none⟩ : Addr).add j = ⟨pb, po + j, none⟩ := by unfold Addr.add; split <;> simp_all
            rw [he, hwx.cell (p := ⟨pb, po + j, none⟩) hpt.lt, hpcells j hjl]
            rw [List.getElem?_eq_getElem hjl] at hj; exact hj
        have hone : Hid (∀ u ∈ bools kn, u.oneCell' = true) := by intro u hu; simp [bools] at hu; rcases hu with ⟨_, rfl⟩ | ⟨_, rfl⟩ <;> rfl
        have hmin : Hid ((bools kn).length = Nat.min kn.length (es.length + 1)) := hcsl.trans (Nat.min_eq_left (by omega)).symm
        have hsz4 : Hid ((Tryz.prog.info? 4).map (·.size) = some 1) := by unfold Hid; rw [hi4]; simp [hz41]
        have hb4 : Hid (i4.bytes * (es.length + 1) ≤ 281474976710656) := by unfold Hid; rw [hz42]; omega
        have hm4 : Hid (es.length + 1 ≤ maxLen) := by unfold Hid maxLen; omega
        have hfit : Hid (0 + (bools kn).length ≤ (List.replicate (es.length + 1) (Value.bool false)).length) := by unfold Hid; simp; omega
        go_upto_region 13 with (at_make; (refine wpList_make_full _ rfl (.tmp 58) (.tmp 58) 145 rfl W7.heap.size 4 i4 (.bool false) 1 Tryz.underlying145 hi4 hz40 hz41 .i64 .i64 _ _ (es.length + 1) rfl rfl (by first | rfl | omega) (by first | rfl | omega) hb4.out hm4.out (Nat.le_refl _) ?_; intro w8 hown8 hg8; have hB8 : Below W7.heap.size W7 w8 := (Below.refl _ _).grown hg8 (Nat.le_refl _) (fun kk hkk => by cases hkk); have a08 := HaB.out _ hB8; have hh8 : Hid (w8.heap[W7.heap.size]? = some (.cells (List.replicate (es.length + 1) (Value.bool false)).toArray 4 (0, 0))) := (by have := own_full hown8; rw [made_bool, Nat.mul_one] at this; exact this)))
        go_wp2_with (refine wpList_copy_splice rfl (.tmp 60) (.tmp 64) 145 145 rfl 4 Tryz.underlying145 hsz4.out _ _ _ _ _ _ rfl rfl W7.heap.size 0 (List.replicate (es.length + 1) (Value.bool false)) 4 hh8.out (bools kn) hmin.out (fun hp => ⟨rfl, hsrc.out _ hB8 hp⟩) hfit.out hone.out W7.heap.size W7 hB8 (Nat.le_refl _) ?_; intro w9 hg9 hB9; have hms := more_slice hkl hg9.out; have hc9 := hms.2; have hT9 : Hid (Tagged w9 W7.heap.size 4) := ⟨_, hg9.out⟩; have hf9 := hT9.out.frozen)
        have hB10 : Below W7.heap.size W7 (w9.setCell ⟨W7.heap.size, es.length, none⟩ (.bool true)) := hB9.setCell (p := ⟨W7.heap.size, es.length, none⟩) (Nat.le_refl _) _
        have H10 := H7.out.below hB10
        have HW := write_any _ c rb _ fv av room _ _ _ knowns H10 k hk _ (moreOf kn es.length) hms.1 (by rw [moreOf_length _ _ hkl]; simp) hmost true
        have hw10 : Hid (Chg (fun x => x = c ∨ x = rb ∨ evv.ownBlock = some x) w1 (w9.setCell ⟨W7.heap.size, es.length, none⟩ (.bool true))) := hw7.out.below hB10
        clear hms hc9 hf9 hB9 hg9 H10 hh8 hB8 a08 a0 q2 hg8 hown8
        generalize w9.setCell ⟨W7.heap.size, es.length, none⟩ (.bool true) = W10 at *
        refine Calls.mono HW ?_
        clear HW
        rintro e w11 ⟨rfl, H11, hc11⟩
        have r3 := H11.f3
        have rf := H11.tc.frozen
        have hA : Hid (RefAt (w11.setCell ⟨c, 3, none⟩ (.int .i64 ((es.length + 1 : Nat) : Int))) c rb (.slice (some ⟨g6, 0, none⟩) (es.length + 1) c6) fv av room (es ++ [⟨p, ch.act, v, ch.n, kn⟩]) (es.length + 1) (most + 1) (knowns.set k (moreOf kn es.length))) := H11.accept (es.length + 1) (by omega)
        have hW11 : Hid (Chg (fun x => x = c ∨ x = rb ∨ evv.ownBlock = some x) w1 w11) := hw10.out.trans' hc11 (fun x _ h => Or.inr (Or.inl h))
        clear hc11 H11 hw10 hB10
        go_wp2
        go_ret
        refine ⟨0, _, es ++ [⟨p, ch.act, v, ch.n, kn⟩], knowns.set k (moreOf kn es.length), rfl, ?_, ?_, ?_, hnew7.out⟩
        · have hd := DoOut.done (es := es) (knowns := knowns) (i := (k : Int)) (s := toL s) ch ⟨p, ch.act, v, ch.n, kn⟩ hi Hr.out (by omega) Hp.out rfl Hv.out rfl (by simp only [Int.toNat_natCast]; exact Hkn.out.symm)
          simp only [Int.toNat_natCast] at hd
          rw [Hkn.out] at hd
          exact hd
        · have h1 : (es ++ [(⟨p, ch.act, v, ch.n, kn⟩ : Ev)]).length = es.length + 1 := by simp
          rw [h1, show es.length + 1 - es.length = 1 by omega]; exact hA.out
        · exact hW11.out.setCell (p := ⟨c, 3, none⟩) (Or.inl rfl) _
  · go_enter Tryz.func92, Tryz.ntmps92
    go_wp2_with fail
    refine (Up_any w c rb evv fv av room es _ _ knowns H.out i).mono ?_
    rintro e w1 ⟨rfl, hw1⟩
    subst hw1
    rw [if_neg hi]
    go_wp2
    go_ret
    exact ⟨2, evv, es, knowns, rfl, .rep hi, by rw [Nat.sub_self, Nat.add_zero]; exact H.out, Chg.refl _ _, Or.inl rfl⟩


def knowsR (kn : List (List Bool)) (i : Int) : Int × Int := if 0 ≤ i ∧ i < kn.length then ((cnt (kn.getD i.toNat []) : Int), 0) else (0, 2)

structure St where
  es : List Ev
  kn : List (List Bool)
  fs : List FrD
def sendR (s : St) (i j : Int) : Int × Int :=
  if (0 ≤ i ∧ i < s.kn.length) ∧ (0 ≤ j ∧ j < s.kn.length) then (if i = j then (0, 1) else if 500 ≤ s.fs.length then (0, 7) else ((s.fs.length : Int) + 1, 0)) else (0, 2)
def SendTo (s : St) (i j : Int) (s' : St) : Prop := s'.es = s.es ∧ s'.kn = s.kn ∧ (if (sendR s i j).2 = 0 then ∃ b, s'.fs = s.fs ++ [⟨i.toNat, j.toNat, 0, s.kn.getD i.toNat [], b⟩] else s'.fs = s.fs)
def frNo (s : St) (f : Int) : Option FrD := if 1 ≤ f ∧ f ≤ s.fs.length then s.fs[f.toNat - 1]? else none
def delR (s : St) (f : Int) : Int × Int :=
  match frNo s f with
  | none => (0, 9)
  | some g => if 0 < g.ack then (0, 0) else if 500 ≤ s.fs.length then (0, 7) else ((s.fs.length : Int) + 1, 0)
def delK (a b : List Bool) : List Bool := if cnt a < cnt (bothL a b) then bothL a b else a
def DelTo (s : St) (f : Int) (s' : St) : Prop :=
  s'.es = s.es ∧
  match frNo s f with
  | none => s'.kn = s.kn ∧ s'.fs = s.fs
  | some g => if 0 < g.ack ∨ 500 ≤ s.fs.length then s'.kn = s.kn ∧ s'.fs = s.fs else s'.kn = s.kn.set g.dst (delK (s.kn.getD g.dst []) g.known) ∧ ∃ b, s'.fs = s.fs ++ [⟨g.dst, g.src, f.toNat, [], b⟩]
def frameR (s : St) (f : Int) : ByteArray × Int :=
  match frNo s f with
  | none => (⟨#[]⟩, 9)
  | some g => (g.bytes, 0)

abbrev Stt : Type := World → Nat → (Nat → Prop) → St → Prop

structure ProgOK (F : Stt) : Prop where
  bad : ∀ w (r room : Int), Glob w → (r < 1 ∨ 6 < r ∨ room < 0 ∨ 50 < room) →
    Calls Tryz.prog 27 #[.int .i64 r, .int .i64 room] w fun e w' => e = .returned (.tuple #[.pointer none, .int .i64 1]) ∧ Below w.heap.size w w'
  good : ∀ w (r room : Nat), Glob w → 1 ≤ r → r ≤ 6 → room ≤ 50 →
    Calls Tryz.prog 27 #[.int .i64 (r : Int), .int .i64 (room : Int)] w fun e w' => ∃ x S, e = .returned (.tuple #[.pointer (some ⟨x, 0, none⟩), .int .i64 0]) ∧ F w' x S ⟨[], List.replicate r [], []⟩ ∧ (∀ k, S k → w.heap.size ≤ k) ∧ Below w.heap.size w w'
  does : ∀ w x S s i t r es' kn', Glob w → F w x S s → t.size ≤ 1048576 → DoOut s.es s.kn i (toL t) r es' kn' →
    Calls Tryz.prog 19 #[.pointer (some ⟨x, 0, none⟩), .int .i64 i, .string t] w fun e w' => e = .returned (.int .i64 r) ∧ ∃ S', F w' x S' ⟨es', kn', s.fs⟩ ∧ (∀ k, S' k → S k ∨ w.heap.size ≤ k) ∧ Chg S w w'
  asks : ∀ w x S s i t, Glob w → F w x S s → t.size ≤ 1048576 →
    Calls Tryz.prog 20 #[.pointer (some ⟨x, 0, none⟩), .int .i64 i, .string t] w fun e w' => ∃ u, e = .returned (.tuple #[.string u, .int .i64 (askR s.es s.kn i (toL t)).2]) ∧ toL u = (askR s.es s.kn i (toL t)).1 ∧ ∃ S', F w' x S' s ∧ (∀ k, S' k → S k ∨ w.heap.size ≤ k) ∧ Chg S w w'
  knows : ∀ w x S s i, Glob w → F w x S s →
    Calls Tryz.prog 18 #[.pointer (some ⟨x, 0, none⟩), .int .i64 i] w fun e w' => e = .returned (.tuple #[.int .i64 (knowsR s.kn i).1, .int .i64 (knowsR s.kn i).2]) ∧ ∃ S', F w' x S' s ∧ (∀ k, S' k → S k ∨ w.heap.size ≤ k) ∧ Chg S w w'
  sends : ∀ w x S s i j, Glob w → F w x S s →
    Calls Tryz.prog 29 #[.pointer (some ⟨x, 0, none⟩), .int .i64 i, .int .i64 j] w fun e w' => e = .returned (.tuple #[.int .i64 (sendR s i j).1, .int .i64 (sendR s i j).2]) ∧ ∃ S' s', SendTo s i j s' ∧ F w' x S' s' ∧ (∀ k, S' k → S k ∨ w.heap.size ≤ k) ∧ Chg S w w'
  frame : ∀ w x S s f, Glob w → F w x S s →
    Calls Tryz.prog 86 #[.pointer (some ⟨x, 0, none⟩), .int .i64 f] w fun e w' => e = .returned (.tuple #[.string (frameR s f).1, .int .i64 (frameR s f).2]) ∧ ∃ S', F w' x S' s ∧ (∀ k, S' k → S k ∨ w.heap.size ≤ k) ∧ Chg S w w'
  dels : ∀ w x S s f, Glob w → F w x S s →
    Calls Tryz.prog 23 #[.pointer (some ⟨x, 0, none⟩), .int .i64 f] w fun e w' => e = .returned (.tuple #[.int .i64 (delR s f).1, .int .i64 (delR s f).2]) ∧ ∃ S' s', DelTo s f s' ∧ F w' x S' s' ∧ (∀ k, S' k → S k ∨ w.heap.size ≤ k) ∧ Chg S w w'
  fsz : ∀ w x S s f g, F w x S s → frNo s f = some g → g.bytes.size ≤ 1000000000
  flen : ∀ w x S s, F w x S s → s.fs.length ≤ 1000000

structure RefOK (G : Stt) : Prop where
  up : ∀ w c R s i, G w c R s → Calls Tryz.prog 83 #[.pointer (some ⟨c, 0, none⟩), .int .i64 i] w fun e w' => e = .returned (.int .i64 (if 0 ≤ i ∧ i < s.kn.length then 0 else 2)) ∧ w' = w
  does : ∀ w c R s i t, G w c R s → t.size ≤ 1048576 →
    Calls Tryz.prog 92 #[.pointer (some ⟨c, 0, none⟩), .int .i64 i, .string t] w fun e w' => ∃ r es' kn', e = .returned (.int .i64 r) ∧ DoOut s.es s.kn i (toL t) r es' kn' ∧ ∃ R', G w' c R' ⟨es', kn', s.fs⟩ ∧ (∀ k, R' k → R k ∨ w.heap.size ≤ k) ∧ Chg R w w' ∧ IntsKept w w'
  asks : ∀ w c R s i t, G w c R s → t.size ≤ 1048576 →
    Calls Tryz.prog 84 #[.pointer (some ⟨c, 0, none⟩), .int .i64 i, .string t] w fun e w' => ∃ u, e = .returned (.tuple #[.string u, .int .i64 (askR s.es s.kn i (toL t)).2]) ∧ toL u = (askR s.es s.kn i (toL t)).1 ∧ Below w.heap.size w w'
  cells : ∀ w c R s, G w c R s → s.kn.length ≤ 6 ∧ ∃ rb cap, w.cell? ⟨c, 1, none⟩ = some (.slice (some ⟨rb, 0, none⟩) s.kn.length cap) ∧ s.kn.length ≤ cap ∧ ∀ i (h : i < s.kn.length), ∃ kv, w.cell? ⟨rb, i * 13, none⟩ = some kv ∧ SliceT 4 w kv (bools s.kn[i]) ∧ s.kn[i].length ≤ 1048576
  sends : ∀ w c R s i j s', G w c R s → SendTo s i j s' →
    Calls Tryz.prog 88 #[.pointer (some ⟨c, 0, none⟩), .int .i64 i, .int .i64 j] w fun e w' => e = .returned (.tuple #[.int .i64 (sendR s i j).1, .int .i64 (sendR s i j).2]) ∧ ∃ R', G w' c R' s' ∧ (∀ k, R' k → R k ∨ w.heap.size ≤ k) ∧ Chg R w w' ∧ IntsKept w w'
  dels : ∀ w c R s f s', G w c R s → DelTo s f s' →
    Calls Tryz.prog 89 #[.pointer (some ⟨c, 0, none⟩), .int .i64 f] w fun e w' => e = .returned (.tuple #[.int .i64 (delR s f).1, .int .i64 (delR s f).2]) ∧ ∃ R', G w' c R' s' ∧ (∀ k, R' k → R k ∨ w.heap.size ≤ k) ∧ Chg R w w' ∧ IntsKept w w'
  bound : ∀ w c R s f, G w c R s → Calls Tryz.prog 87 #[.pointer (some ⟨c, 0, none⟩), .int .i64 f] w fun e w' => ∃ n : Nat, e = .returned (.int .i64 (n : Int)) ∧ n ≤ 1000000 ∧ (n = 0 ↔ frNo s f = none) ∧ w' = w

theorem chgS_below {B : Nat} {S : Nat → Prop} {a c : World} (h : Chg S a c) (hS : ∀ k, S k → B ≤ k) (hs : B ≤ a.heap.size) : Below B a c :=
  ⟨h.os, h.tape, h.output, h.size, fun k hk => h.block k (by omega) (fun hk2 => by have := hS k hk2; omega)⟩

def hE1 : Ev := ⟨⟨#[115, 120]⟩, 43, ⟨#[97]⟩, 0, []⟩
def hE2 : Ev := ⟨⟨#[115, 120]⟩, 43, ⟨#[98]⟩, 0, [true]⟩
def hE3 : Ev := ⟨⟨#[115, 120]⟩, 45, ⟨#[97]⟩, 0, [true, true]⟩
theorem hd1 : DoOut [] (List.replicate 2 []) 0 (toL ⟨#[115, 120, 43, 97]⟩) 0 [hE1] [[true], []] :=
  DoOut.done (es := []) (knowns := List.replicate 2 []) (i := 0) ⟨[115, 120], 43, [97], 0⟩ hE1 (by decide) (by kernel_rfl) (by decide) rfl rfl rfl rfl rfl
theorem hd2 : DoOut [hE1] [[true], []] 0 (toL ⟨#[115, 120, 43, 98]⟩) 0 [hE1, hE2] [[true, true], []] :=
  DoOut.done (es := [hE1]) (knowns := [[true], []]) (i := 0) ⟨[115, 120], 43, [98], 0⟩ hE2 (by decide) (by kernel_rfl) (by decide) rfl rfl rfl rfl rfl
theorem hd3 : DoOut [hE1, hE2] [[true, true], []] 0 (toL ⟨#[115, 120, 45, 97]⟩) 0 [hE1, hE2, hE3] [[true, true, true], []] :=
  DoOut.done (es := [hE1, hE2]) (knowns := [[true, true], []]) (i := 0) ⟨[115, 120], 45, [97], 0⟩ hE3 (by decide) (by kernel_rfl) (by decide) rfl rfl rfl rfl rfl
theorem hask : askR [hE1, hE2, hE3] [[true, true, true], []] 0 (toL ⟨#[115, 120]⟩) = ([98], 0) := by decide +kernel
theorem hask1 : askR [hE1, hE2, hE3] [[true, true, true], [true, true, true]] 1 (toL ⟨#[115, 120]⟩) = ([98], 0) := by decide +kernel
theorem hkn : knowsR [[true, true, true], []] 0 = (3, 0) := by decide +kernel
theorem hsend : sendR ⟨[hE1, hE2, hE3], [[true, true, true], []], []⟩ 0 1 = (1, 0) := by decide +kernel

structure HdAt (F : Stt) (w : World) (x : Nat) (s : St) (wx : World) : Prop where
  f : ∃ S, F wx x S s ∧ ∀ k, S k → w.heap.size ≤ k
  bel : Below w.heap.size w wx
  glob : Glob wx
theorem HdAt.next {F : Stt} {w wx wy : World} {x : Nat} {s s' : St} {S S' : Nat → Prop} (h : HdAt F w x s wx) (hS : ∀ k, S k → w.heap.size ≤ k) (hG : Glob w) (hf : F wy x S' s') (hs : ∀ k, S' k → S k ∨ wx.heap.size ≤ k) (hc : Chg S wx wy) : HdAt F w x s' wy :=
  have hb : Below w.heap.size w wy := h.bel.trans (chgS_below hc hS h.bel.size)
  ⟨⟨S', hf, fun k hk => (hs k hk).elim (hS k) (fun h2 => Nat.le_trans h.bel.size h2)⟩, hb, hG.mono hb⟩

set_option maxHeartbeats 8000000 in
set_option maxRecDepth 100000 in
theorem heads_any {F : Stt} (hF : ProgOK F) (w : World) (hG : Glob w) :
    Calls Tryz.prog 25 #[.bool true] w fun e w' => e = .returned (.bool true) ∧ Below w.heap.size w w' := by
  have HN : Hid (Calls Tryz.prog 27 #[.int .i64 2, .int .i64 10] w fun e w' => ∃ x, e = .returned (.tuple #[.pointer (some ⟨x, 0, none⟩), .int .i64 0]) ∧ HdAt F w x ⟨[], List.replicate 2 [], []⟩ w') := by
    refine Calls.mono (hF.good w 2 10 hG (by decide) (by decide) (by decide)) ?_
    rintro e w1 ⟨x, S1, rfl, f1, s1, hb1⟩
    exact ⟨x, rfl, ⟨S1, f1, s1⟩, hb1, hG.mono hb1⟩
  have HD : Hid (∀ x s wx t r es' kn', HdAt F w x s wx → t.size ≤ 1048576 → DoOut s.es s.kn 0 (toL t) r es' kn' → Calls Tryz.prog 19 #[.pointer (some ⟨x, 0, none⟩), .int .i64 0, .string t] wx fun e w' => e = .returned (.int .i64 r) ∧ HdAt F w x ⟨es', kn', s.fs⟩ w') := fun x s wx t r es' kn' h ht hd => by
    obtain ⟨S, f1, s1⟩ := h.f
    refine Calls.mono (hF.does wx x S s 0 t r es' kn' h.glob f1 ht hd) ?_
    rintro e w2 ⟨rfl, S2, f2, s2, hc2⟩
    exact ⟨rfl, h.next s1 hG f2 s2 hc2⟩
  have HA : Hid (∀ x s wx i t u, HdAt F w x s wx → t.size ≤ 1048576 → askR s.es s.kn i (toL t) = (toL u, 0) → Calls Tryz.prog 20 #[.pointer (some ⟨x, 0, none⟩), .int .i64 i, .string t] wx fun e w' => e = .returned (.tuple #[.string u, .int .i64 0]) ∧ HdAt F w x s w') := fun x s wx i t u h ht ha => by
    obtain ⟨S, f1, s1⟩ := h.f
    refine Calls.mono (hF.asks wx x S s i t h.glob f1 ht) ?_
    rw [ha]
    rintro e w2 ⟨u', rfl, hu, S2, f2, s2, hc2⟩
    have : u' = u := toL_inj hu
    subst this
    exact ⟨rfl, h.next s1 hG f2 s2 hc2⟩
  have HK : Hid (∀ x s wx, HdAt F w x s wx → knowsR s.kn 0 = (3, 0) → Calls Tryz.prog 18 #[.pointer (some ⟨x, 0, none⟩), .int .i64 0] wx fun e w' => e = .returned (.tuple #[.int .i64 3, .int .i64 0]) ∧ HdAt F w x s w') := fun x s wx h hk => by
    obtain ⟨S, f1, s1⟩ := h.f
    refine Calls.mono (hF.knows wx x S s 0 h.glob f1) ?_
    rw [hk]
    rintro e w2 ⟨rfl, S2, f2, s2, hc2⟩
    exact ⟨rfl, h.next s1 hG f2 s2 hc2⟩
  have HS : Hid (∀ x wx, HdAt F w x ⟨[hE1, hE2, hE3], [[true, true, true], []], []⟩ wx → Calls Tryz.prog 29 #[.pointer (some ⟨x, 0, none⟩), .int .i64 0, .int .i64 1] wx fun e w' => e = .returned (.tuple #[.int .i64 1, .int .i64 0]) ∧ ∃ b, HdAt F w x ⟨[hE1, hE2, hE3], [[true, true, true], []], [⟨0, 1, 0, [true, true, true], b⟩]⟩ w') := fun x wx h => by
    obtain ⟨S, f1, s1⟩ := h.f
    refine Calls.mono (hF.sends wx x S _ 0 1 h.glob f1) ?_
    rw [hsend]
    rintro e w2 ⟨rfl, S2, s', ⟨t1, t2, t3⟩, f2, s2, hc2⟩
    rw [hsend, if_pos rfl] at t3
    obtain ⟨b, hb⟩ := t3
    obtain ⟨a1, a2, a3⟩ := s'
    simp only at t1 t2 hb
    subst t1 t2 hb
    exact ⟨rfl, b, h.next s1 hG f2 s2 hc2⟩
  have HL : Hid (∀ x wx b, HdAt F w x ⟨[hE1, hE2, hE3], [[true, true, true], []], [⟨0, 1, 0, [true, true, true], b⟩]⟩ wx → Calls Tryz.prog 23 #[.pointer (some ⟨x, 0, none⟩), .int .i64 1] wx fun e w' => e = .returned (.tuple #[.int .i64 2, .int .i64 0]) ∧ ∃ fs, HdAt F w x ⟨[hE1, hE2, hE3], [[true, true, true], [true, true, true]], fs⟩ w') := fun x wx b h => by
    obtain ⟨S, f1, s1⟩ := h.f
    refine Calls.mono (hF.dels wx x S _ 1 h.glob f1) ?_
    have e1 : delR ⟨[hE1, hE2, hE3], [[true, true, true], []], [⟨0, 1, 0, [true, true, true], b⟩]⟩ 1 = (2, 0) := rfl
    have e2 : frNo ⟨[hE1, hE2, hE3], [[true, true, true], []], [⟨0, 1, 0, [true, true, true], b⟩]⟩ 1 = some ⟨0, 1, 0, [true, true, true], b⟩ := rfl
    rw [e1]
    rintro e w2 ⟨rfl, S2, s', ⟨t1, t2⟩, f2, s2, hc2⟩
    rw [e2] at t2
    obtain ⟨a1, a2, a3⟩ := s'
    simp only at t1 t2
    rw [if_neg (by simp)] at t2
    obtain ⟨t2, b', t3⟩ := t2
    have e3 : ([[true, true, true], []] : List (List Bool)).set 1 (delK (([[true, true, true], []] : List (List Bool)).getD 1 []) [true, true, true]) = [[true, true, true], [true, true, true]] := by decide +kernel
    rw [e3] at t2
    subst t1 t2
    exact ⟨rfl, a3, h.next s1 hG f2 s2 hc2⟩
  clear hF hG
  go_enter Tryz.func25, Tryz.ntmps25
  go_wp2_with fail
  refine Calls.mono HN.out ?_
  rintro e w1 ⟨x, rfl, h1⟩
  go_wp2_with fail
  refine Calls.mono (HD.out x _ w1 _ _ _ _ h1 (by decide) hd1) ?_
  rintro e w2 ⟨rfl, h2⟩
  clear h1
  go_wp2_with fail
  refine Calls.mono (HD.out x _ w2 _ _ _ _ h2 (by decide) hd2) ?_
  rintro e w3 ⟨rfl, h3⟩
  clear h2
  go_wp2_with fail
  refine Calls.mono (HD.out x _ w3 _ _ _ _ h3 (by decide) hd3) ?_
  rintro e w4 ⟨rfl, h4⟩
  clear h3
  go_wp2_with fail
  refine Calls.mono (HA.out x _ w4 0 _ ⟨#[98]⟩ h4 (by decide) hask) ?_
  rintro e w5 ⟨rfl, h5⟩
  clear h4
  go_wp2_with fail
  refine Calls.mono (HK.out x _ w5 h5 hkn) ?_
  rintro e w6 ⟨rfl, h6⟩
  clear h5
  go_wp2_with fail
  refine Calls.mono (HS.out x w6 h6) ?_
  rintro e w7 ⟨rfl, b, h7⟩
  clear h6
  go_wp2_with fail
  refine Calls.mono (HL.out x w7 b h7) ?_
  rintro e w8 ⟨rfl, fs, h8⟩
  clear h7
  go_wp2_with fail
  refine Calls.mono (HA.out x _ w8 1 _ ⟨#[98]⟩ h8 (by decide) hask1) ?_
  rintro e w9 ⟨rfl, h9⟩
  have H9 : Hid (Below w.heap.size w w9) := h9.bel
  clear h8 h9 HN HD HA HK HS HL
  go_wp2
  go_ret
  exact ⟨rfl, H9.out⟩

def isRef (t : TypeId) : Prop := t = 152 ∨ t = 147 ∨ t = 207 ∨ t = 201 ∨ t = 3
structure ProgFrame (F : Stt) : Prop where
  stable : ∀ {M : Nat → Prop} {w w' : World} {x : Nat} {S : Nat → Prop} {s : St}, F w x S s → Chg M w w' → (∀ k, S k → ¬ M k) → F w' x S s
  tags : ∀ {w : World} {x : Nat} {S : Nat → Prop} {s : St} {k : Nat} {t : TypeId}, F w x S s → S k → Tagged w k t → ¬ isRef t ∧ t ≠ 4 ∧ t ≠ 141 ∧ t ≠ 54 ∧ t ≠ 93
  lt : ∀ {w : World} {x : Nat} {S : Nat → Prop} {s : St} {k : Nat}, F w x S s → S k → k < w.heap.size
structure RefFrame (G : Stt) : Prop where
  stable : ∀ {M : Nat → Prop} {w w' : World} {c : Nat} {R : Nat → Prop} {s : St}, G w c R s → Chg M w w' → (∀ k, R k → ¬ M k) → (∀ b, Tagged w b 4 → ¬ M b) → IntsKept w w' → G w' c R s
  tags : ∀ {w : World} {c : Nat} {R : Nat → Prop} {s : St} {k : Nat}, G w c R s → R k → ∃ t, isRef t ∧ Tagged w k t
theorem tag_same {w : World} {k : Nat} {t t' : TypeId} (h : Tagged w k t) (h' : Tagged w k t') : t = t' := Classical.byContradiction fun e => h.ne h' e rfl
theorem isRef_ne {t : TypeId} (h : isRef t) : t ≠ 4 ∧ t ≠ 141 ∧ t ≠ 54 ∧ t ≠ 93 := by
  rcases h with rfl | rfl | rfl | rfl | rfl <;> decide

structure PairAt (F G : Stt) (w : World) (pb x : Nat) (S : Nat → Prop) (c : Nat) (R : Nat → Prop) (s : St) : Prop where
  tag : Tagged w pb 141
  c0 : w.cell? ⟨pb, 0, none⟩ = some (.pointer (some ⟨x, 0, none⟩))
  c1 : w.cell? ⟨pb, 1, none⟩ = some (.pointer (some ⟨c, 0, none⟩))
  f : F w x S s
  r : G w c R s

variable {F G : Stt}
theorem fr_sr (hP : ProgFrame F) (hQ : RefFrame G) {w : World} {x : Nat} {S : Nat → Prop} {s s2 : St} {c : Nat} {R : Nat → Prop} (hf : F w x S s) (hg : G w c R s2) (k : Nat) (hs : S k) (hr : R k) : False := by
  obtain ⟨t, h1, h2⟩ := hQ.tags hg hr
  exact (hP.tags hf hs h2).1 h1
theorem RefFrame.lt (hQ : RefFrame G) {w : World} {c : Nat} {R : Nat → Prop} {s : St} {k : Nat} (hg : G w c R s) (hr : R k) : k < w.heap.size := by
  obtain ⟨t, _, h2⟩ := hQ.tags hg hr
  exact h2.lt
theorem RefFrame.below (hQ : RefFrame G) {w w' : World} {c : Nat} {R : Nat → Prop} {s : St} (hg : G w c R s) (hb : Below w.heap.size w w') : G w' c R s := hQ.stable hg (Chg.of_below (M := fun _ => False) hb) (fun _ _ h => h) (fun _ _ h => h) (IntsKept.of_below hb)
theorem ProgFrame.below (hP : ProgFrame F) {w w' : World} {x : Nat} {S : Nat → Prop} {s : St} (hf : F w x S s) (hb : Below w.heap.size w w') : F w' x S s := hP.stable hf (Chg.of_below (M := fun _ => False) hb) (fun _ _ h => h)
theorem PairAt.below (hP : ProgFrame F) (hQ : RefFrame G) {w w' : World} {pb x : Nat} {S : Nat → Prop} {c : Nat} {R : Nat → Prop} {s : St} (h : PairAt F G w pb x S c R s) (hb : Below w.heap.size w w') : PairAt F G w' pb x S c R s :=
  ⟨h.tag.below hb, (hb.cell (p := ⟨pb, 0, none⟩) h.tag.lt).trans h.c0, (hb.cell (p := ⟨pb, 1, none⟩) h.tag.lt).trans h.c1, hP.below h.f hb, hQ.below h.r hb⟩

structure Mid0 (F G : Stt) (S R : Nat → Prop) (w0 : World) (pb x c : Nat) (s1 s2 : St) (wx : World) : Prop where
  tag : Tagged wx pb 141
  p0 : wx.cell? ⟨pb, 0, none⟩ = some (.pointer (some ⟨x, 0, none⟩))
  p1 : wx.cell? ⟨pb, 1, none⟩ = some (.pointer (some ⟨c, 0, none⟩))
  f : ∃ S', F wx x S' s1 ∧ ∀ k, S' k → S k ∨ w0.heap.size ≤ k
  g : ∃ R', G wx c R' s2 ∧ ∀ k, R' k → R k ∨ w0.heap.size ≤ k
  chg : Chg (fun k => S k ∨ R k) w0 wx
  ints : IntsKept w0 wx
  glob : Glob wx
  s4 : (∀ k, S k → 4 ≤ k) ∧ (∀ k, R k → 4 ≤ k) ∧ 4 ≤ w0.heap.size
abbrev stepO (o : StepD) : Obj := .cells #[.int .i64 o.kind, .int .i64 o.a, .int .i64 o.n, .int .i64 o.m, .string o.s] 56
structure Mid (F G : Stt) (S R : Nat → Prop) (w0 : World) (bx : Nat) (o : StepD) (pb x c : Nat) (s1 s2 : St) (wx : World) : Prop where
  m : Mid0 F G S R w0 pb x c s1 s2 wx
  bk : Blk w0 bx #[.int .i64 o.kind, .int .i64 o.a, .int .i64 o.n, .int .i64 o.m, .string o.s] 56
  bS : ¬ S bx
  bR : ¬ R bx

section
variable {S R : Nat → Prop} {w0 : World} {bx : Nat} {o : StepD} {pb x c : Nat} {s1 s2 : St} {wx wy : World}
theorem Mid0.cell (h : Mid0 F G S R w0 pb x c s1 s2 wx) {b : Nat} (hb : b < w0.heap.size) (hS : ¬ S b) (hR : ¬ R b) (i : Nat) : wx.cell? ⟨b, i, none⟩ = w0.cell? ⟨b, i, none⟩ := World.cell?_of_block (w := w0) (h.chg.block b hb (fun h2 => h2.elim hS hR))
theorem Mid.p0 (h : Mid F G S R w0 bx o pb x c s1 s2 wx) : wx.cell? ⟨pb, 0, none⟩ = some (.pointer (some ⟨x, 0, none⟩)) := h.m.p0
theorem Mid.p1 (h : Mid F G S R w0 bx o pb x c s1 s2 wx) : wx.cell? ⟨pb, 1, none⟩ = some (.pointer (some ⟨c, 0, none⟩)) := h.m.p1
theorem Mid.b0 (h : Mid F G S R w0 bx o pb x c s1 s2 wx) : wx.cell? ⟨bx, 0, none⟩ = some (.int .i64 o.kind) := (h.m.cell h.bk.lt h.bS h.bR 0).trans ((h.bk.cell 0).trans rfl)
theorem Mid.b2 (h : Mid F G S R w0 bx o pb x c s1 s2 wx) : wx.cell? ⟨bx, 2, none⟩ = some (.int .i64 o.n) := (h.m.cell h.bk.lt h.bS h.bR 2).trans ((h.bk.cell 2).trans rfl)
theorem Mid.b3 (h : Mid F G S R w0 bx o pb x c s1 s2 wx) : wx.cell? ⟨bx, 3, none⟩ = some (.int .i64 o.m) := (h.m.cell h.bk.lt h.bS h.bR 3).trans ((h.bk.cell 3).trans rfl)
theorem Mid.b4 (h : Mid F G S R w0 bx o pb x c s1 s2 wx) : wx.cell? ⟨bx, 4, none⟩ = some (.string o.s) := (h.m.cell h.bk.lt h.bS h.bR 4).trans ((h.bk.cell 4).trans rfl)
theorem Mid0.below (hP : ProgFrame F) (hQ : RefFrame G) (h : Mid0 F G S R w0 pb x c s1 s2 wx) (hb : Below wx.heap.size wx wy) : Mid0 F G S R w0 pb x c s1 s2 wy := by
  obtain ⟨S', h1, h2⟩ := h.f
  obtain ⟨R', h3, h4⟩ := h.g
  exact ⟨h.tag.below hb, (hb.cell (p := ⟨pb, 0, none⟩) h.tag.lt).trans h.p0, (hb.cell (p := ⟨pb, 1, none⟩) h.tag.lt).trans h.p1, ⟨S', hP.below h1 hb, h2⟩, ⟨R', hQ.below h3 hb, h4⟩, h.chg.below hb, h.ints.trans (IntsKept.of_below hb), h.glob.mono hb, h.s4⟩
theorem Mid.below (hP : ProgFrame F) (hQ : RefFrame G) (h : Mid F G S R w0 bx o pb x c s1 s2 wx) (hb : Below wx.heap.size wx wy) : Mid F G S R w0 bx o pb x c s1 s2 wy := ⟨h.m.below hP hQ hb, h.bk, h.bS, h.bR⟩
theorem Mid.drew (hP : ProgFrame F) (hQ : RefFrame G) (h : Mid F G S R w0 bx o pb x c s1 s2 wx) : Mid F G S R w0 bx o pb x c s1 s2 wx.drew := h.below hP hQ (Below.refl _ _).drew
theorem Mid0.drew (hP : ProgFrame F) (hQ : RefFrame G) (h : Mid0 F G S R w0 pb x c s1 s2 wx) : Mid0 F G S R w0 pb x c s1 s2 wx.drew := h.below hP hQ (Below.refl _ _).drew
theorem Mid.drewN (hP : ProgFrame F) (hQ : RefFrame G) (h : Mid F G S R w0 bx o pb x c s1 s2 wx) (n : Nat) : Mid F G S R w0 bx o pb x c s1 s2 (wx.drewN n) := h.below hP hQ (below_drewN (Below.refl _ _) n)
theorem glob4 {wx wy : World} (h : Glob wx) (hb4 : Below 4 wx wy) : Glob wy := by
  obtain ⟨⟨m, g1⟩, ⟨e1, g2, g2'⟩, ⟨e2, g3, g3'⟩, g4, g5⟩ := h
  refine ⟨⟨m, (hb4.cell (p := ⟨0, 0, none⟩) (by decide)).trans g1⟩, ⟨e1, (hb4.cell (p := ⟨1, 0, none⟩) (by decide)).trans g2, g2'⟩, ⟨e2, (hb4.cell (p := ⟨2, 0, none⟩) (by decide)).trans g3, g3'⟩, ?_, Nat.lt_of_lt_of_le g5 hb4.size⟩
  exact var?_below (g := 3) hb4 (by kernel_rfl) (by decide) g4

theorem Mid0.prog (hP : ProgFrame F) (hQ : RefFrame G) (h : Mid0 F G S R w0 pb x c s1 s2 wx) {S1 S2 : Nat → Prop} {s1' : St} (h1 : F wx x S1 s1) (hs1 : ∀ k, S1 k → S k ∨ w0.heap.size ≤ k) (hf : F wy x S2 s1') (hs2 : ∀ k, S2 k → S1 k ∨ wx.heap.size ≤ k) (hc : Chg S1 wx wy) : Mid0 F G S R w0 pb x c s1' s2 wy := by
  obtain ⟨R', h3, h4⟩ := h.g
  have hpb : ¬ S1 pb := fun hs => (hP.tags h1 hs h.tag).2.2.1 rfl
  have hcp : ∀ i, wy.cell? ⟨pb, i, none⟩ = wx.cell? ⟨pb, i, none⟩ := fun i => World.cell?_of_block (w := wx) (hc.block pb h.tag.lt hpb)
  have hik : IntsKept wx wy := IntsKept.of_chg hc (fun b hb hs => (hP.tags h1 hs hb).1 (Or.inr (Or.inr (Or.inr (Or.inr rfl)))))
  refine ⟨h.tag.chg hc hpb, (hcp 0).trans h.p0, (hcp 1).trans h.p1, ⟨S2, hf, fun k hk => (hs2 k hk).elim (hs1 k) (fun h2 => Or.inr (Nat.le_trans h.chg.size h2))⟩, ⟨R', hQ.stable h3 hc (fun k hr hs => fr_sr hP hQ h1 h3 k hs hr) (fun b hb hs => (hP.tags h1 hs hb).2.1 rfl) hik, h4⟩, ?_, h.ints.trans hik, ?_, h.s4⟩
  · refine ⟨hc.os.trans h.chg.os, hc.tape.trans h.chg.tape, hc.output.trans h.chg.output, Nat.le_trans h.chg.size hc.size, fun k hk hn => ?_⟩
    exact (hc.block k (Nat.lt_of_lt_of_le hk h.chg.size) (fun hs => (hs1 k hs).elim (fun h2 => hn (Or.inl h2)) (fun h2 => by omega))).trans (h.chg.block k hk hn)
  · exact glob4 h.glob (chgS_below hc (fun k hk => (hs1 k hk).elim (h.s4.1 k) (fun h2 => Nat.le_trans h.s4.2.2 h2)) (Nat.le_trans h.s4.2.2 h.chg.size))
theorem Mid0.ref (hP : ProgFrame F) (hQ : RefFrame G) (h : Mid0 F G S R w0 pb x c s1 s2 wx) {R1 R2 : Nat → Prop} {s2' : St} (h1 : G wx c R1 s2) (hs1 : ∀ k, R1 k → R k ∨ w0.heap.size ≤ k) (hf : G wy c R2 s2') (hs2 : ∀ k, R2 k → R1 k ∨ wx.heap.size ≤ k) (hc : Chg R1 wx wy) (hik : IntsKept wx wy) : Mid0 F G S R w0 pb x c s1 s2' wy := by
  obtain ⟨S', h3, h4⟩ := h.f
  have hpb : ¬ R1 pb := fun hs => by
    obtain ⟨t, h5, h6⟩ := hQ.tags h1 hs
    exact (isRef_ne h5).2.1 (tag_same h6 h.tag)
  have hcp : ∀ i, wy.cell? ⟨pb, i, none⟩ = wx.cell? ⟨pb, i, none⟩ := fun i => World.cell?_of_block (w := wx) (hc.block pb h.tag.lt hpb)
  refine ⟨h.tag.chg hc hpb, (hcp 0).trans h.p0, (hcp 1).trans h.p1, ⟨S', hP.stable h3 hc (fun k hs hr => fr_sr hP hQ h3 h1 k hs hr), h4⟩, ⟨R2, hf, fun k hk => (hs2 k hk).elim (hs1 k) (fun h2 => Or.inr (Nat.le_trans h.chg.size h2))⟩, ?_, h.ints.trans hik, ?_, h.s4⟩
  · refine ⟨hc.os.trans h.chg.os, hc.tape.trans h.chg.tape, hc.output.trans h.chg.output, Nat.le_trans h.chg.size hc.size, fun k hk hn => ?_⟩
    exact (hc.block k (Nat.lt_of_lt_of_le hk h.chg.size) (fun hs => (hs1 k hs).elim (fun h2 => hn (Or.inr h2)) (fun h2 => by omega))).trans (h.chg.block k hk hn)
  · exact glob4 h.glob (chgS_below hc (fun k hk => (hs1 k hk).elim (h.s4.2.1 k) (fun h2 => Nat.le_trans h.s4.2.2 h2)) (Nat.le_trans h.s4.2.2 h.chg.size))

def Told (F G : Stt) (S R : Nat → Prop) (w : World) (pb x c : Nat) (s : St) (w' : World) : Prop :=
  ∃ S' R', PairAt F G w' pb x S' c R' s ∧ (∀ k, S' k → S k ∨ w.heap.size ≤ k) ∧ (∀ k, R' k → R k ∨ w.heap.size ≤ k) ∧ Chg (fun k => S k ∨ R k) w w' ∧ IntsKept w w'
theorem Mid0.start (hP : ProgFrame F) (hQ : RefFrame G) {w w' : World} (hG : Glob w) {s : St} (h : PairAt F G w pb x S c R s) (h4 : (∀ k, S k → 4 ≤ k) ∧ (∀ k, R k → 4 ≤ k)) (hb : Below w.heap.size w w') : Mid0 F G S R w pb x c s s w' := by
  have h2 := h.below hP hQ hb
  exact ⟨h2.tag, h2.c0, h2.c1, ⟨S, h2.f, fun k hk => Or.inl hk⟩, ⟨R, h2.r, fun k hk => Or.inl hk⟩, Chg.of_below hb, IntsKept.of_below hb, hG.mono hb, h4.1, h4.2, hG.size⟩
theorem Mid0.fin {w : World} {s : St} (h : Mid0 F G S R w pb x c s s wx) : Told F G S R w pb x c s wx := by
  obtain ⟨S', h1, h2⟩ := h.f
  obtain ⟨R', h3, h4⟩ := h.g
  exact ⟨S', R', ⟨h.tag, h.p0, h.p1, h1, h3⟩, h2, h4, h.chg, h.ints⟩
theorem Mid.start (hP : ProgFrame F) (hQ : RefFrame G) {w : World} (hG : Glob w) {s : St} (h : PairAt F G w pb x S c R s) (h4 : (∀ k, S k → 4 ≤ k) ∧ (∀ k, R k → 4 ≤ k)) (o : StepD) : Mid F G S R (w.alloc (stepO o)) w.heap.size o pb x c s s (w.alloc (stepO o)) := by
  have hb : Below w.heap.size w (w.alloc (stepO o)) := (Below.refl _ w).alloc (Nat.le_refl _) _
  exact ⟨Mid0.start hP hQ (hG.mono hb) (h.below hP hQ hb) h4 (Below.refl _ _), Blk.new w _ _, fun hk => by have := hP.lt h.f hk; omega, fun hk => by have := hQ.lt h.r hk; omega⟩
theorem Mid.fin {w : World} {s : St} (h : Mid F G S R (w.alloc (stepO o)) w.heap.size o pb x c s s wx) : Told F G S R w pb x c s wx := by
  obtain ⟨S', R', h1, h2, h3, h4, h5⟩ := h.m.fin
  have hb : Below w.heap.size w (w.alloc (stepO o)) := (Below.refl _ w).alloc (Nat.le_refl _) _
  exact ⟨S', R', h1, fun k hk => (h2 k hk).imp id (fun h5 => Nat.le_trans hb.size h5), fun k hk => (h3 k hk).imp id (fun h5 => Nat.le_trans hb.size h5), (Chg.of_below hb).trans h4, (IntsKept.of_below hb).trans h5⟩
end
end Go.Proofs.YtoiiaankpnhppaaGreatDoor
namespace Go.Proofs.YtoiiaankpnhppaaGreatDoor
open Go.RowKit

def chOf (e : Ev) : Thk.Ch := ⟨toL e.p, e.a, toL e.v, e.n⟩

theorem getD_app {l : List Bool} {r : List Bool} (i : Nat) (h : i < l.length) : (l ++ r).getD i false = l.getD i false := by
  rw [List.getD_eq_getElem?_getD, List.getD_eq_getElem?_getD, List.getElem?_append_left h]
theorem moreOf_getD (known : List Bool) (n : Nat) (h : known.length ≤ n) (i : Nat) : (moreOf known n).getD i false = (known.getD i false || decide (i = n)) := by
  unfold moreOf
  have hz : ∀ j, known.length ≤ j → known.getD j false = false := fun j hj => by rw [List.getD_eq_getElem?_getD, List.getElem?_eq_none hj]; rfl
  by_cases h1 : i < known.length
  · rw [List.append_assoc, getD_app i h1]
    have : ¬ i = n := by omega
    simp [this]
  · rw [hz i (by omega)]
    by_cases h2 : i < n
    · rw [getD_app i (by simp; omega), List.getD_eq_getElem?_getD, List.getElem?_append_right (by omega), List.getElem?_replicate, if_pos (by omega)]
      have : ¬ i = n := by omega
      simp [this]
    · by_cases h3 : i = n
      · subst h3
        rw [List.getD_eq_getElem?_getD, List.getElem?_append_right (by simp; omega)]
        have : i - (known ++ List.replicate (i - known.length) false).length = 0 := by simp; omega
        rw [this]; simp
      · rw [List.getD_eq_getElem?_getD, List.getElem?_eq_none (by simp; omega)]
        simp [h3]
theorem covAt_app {es : List Ev} {e : Ev} {known : List Bool} {k d : Nat} (hd : d < es.length) (hk : k < es.length) : covAt (es ++ [e]) known k d = covAt es known k d := by
  unfold covAt; rw [List.getElem?_append_left hd, List.getElem?_append_left hk]
theorem covTo_app {es : List Ev} {e : Ev} {known : List Bool} {k : Nat} (hk : k < es.length) : ∀ d, d ≤ es.length → covTo (es ++ [e]) known k d = covTo es known k d
  | 0, _ => rfl
  | d + 1, h => by unfold covTo; rw [covTo_app hk d (by omega), covAt_app (by omega) hk]
theorem alive_app {es : List Ev} {e : Ev} {known : List Bool} (hl : known.length ≤ es.length) {k : Nat} (hk : k < es.length) : alive (es ++ [e]) known k = alive es known k := by
  unfold alive
  rw [List.getElem?_append_left hk, List.length_append]
  have h1 : covTo (es ++ [e]) known k (es.length + 1) = covTo es known k es.length := by
    rw [covTo, covTo_app hk _ (Nat.le_refl _)]
    have : covAt (es ++ [e]) known k es.length = false := by unfold covAt; rw [getD_len hl]; split <;> simp
    rw [this]; simp
  rw [show [e].length = 1 from rfl, h1]

theorem covB_kept (dp : Thk.Bs) (da : UInt8) (dv : Thk.Bs) (ep : Thk.Bs) (ea : UInt8) (ev : Thk.Bs) : covB dp da (toL (keptVal da ⟨dv.toArray⟩)) ep ea (toL (keptVal ea ⟨ev.toArray⟩)) = covB dp da dv ep ea ev := by
  have hk : ∀ (a : UInt8) (v : Thk.Bs), a.toNat = 43 ∨ a.toNat = 45 → toL (keptVal a ⟨v.toArray⟩) = v := fun a v h => by
    unfold keptVal; rw [if_pos (by omega)]; rfl
  unfold covB
  split
  · rfl
  · split
    · rfl
    · split
      · rename_i h43
        have e1 : toL (keptVal ea ⟨ev.toArray⟩) = ev := hk ea ev (Or.inl (by omega))
        rw [e1]
        by_cases h2 : da.toNat = 43 ∨ da.toNat = 45
        · rw [hk da dv h2]
        · have h3 : ((da.toNat : Int) == 43 || (da.toNat : Int) == 45) = false := by simp; omega
          rw [h3]; rfl
      · rfl

theorem covTo_iff (es : List Ev) (known : List Bool) (k : Nat) : ∀ n, covTo es known k n = true ↔ ∃ d, k < d ∧ d < n ∧ covAt es known k d = true
  | 0 => by simp [covTo]
  | n + 1 => by
    rw [covTo, Bool.or_eq_true, covTo_iff es known k n, Bool.and_eq_true, decide_eq_true_eq]
    constructor
    · rintro (⟨d, h1, h2, h3⟩ | ⟨h1, h2⟩)
      · exact ⟨d, h1, by omega, h3⟩
      · exact ⟨n, h1, by omega, h2⟩
    · rintro ⟨d, h1, h2, h3⟩
      by_cases e : d = n
      · subst e; exact Or.inr ⟨h1, h3⟩
      · exact Or.inl ⟨d, h1, by omega, h3⟩
def covs (es : List Ev) (k d : Nat) : Bool :=
  match es[d]?, es[k]? with
  | some x, some y => x.saw.getD k false && covB (toL x.p) x.a (toL x.v) (toL y.p) y.a (toL y.v)
  | _, _ => false
theorem covAt_covs (es : List Ev) (known : List Bool) (k d : Nat) : covAt es known k d = (known.getD d false && covs es k d) := by
  unfold covAt covs
  cases es[d]? with
  | none => simp
  | some x =>
    cases es[k]? with
    | none => simp
    | some y => simp only [Bool.and_assoc]
theorem alive_iff (es : List Ev) (known : List Bool) (k : Nat) : alive es known k = true ↔ (∃ y, es[k]? = some y ∧ effB y.a = true) ∧ known.getD k false = true ∧ ∀ d, k < d → d < es.length → known.getD d false = true → covs es k d = false := by
  unfold alive
  cases he : es[k]? with
  | none => simp
  | some y =>
    simp only [Bool.and_eq_true, Bool.not_eq_true', Option.some.injEq, exists_eq_left']
    rw [and_assoc, ← Bool.not_eq_true (covTo es known k es.length), covTo_iff]
    refine and_congr_right fun _ => and_congr_right fun _ => ⟨fun h d h1 h2 h3 => ?_, fun h => ?_⟩
    · cases hc : covs es k d with
      | false => rfl
      | true => exact absurd ⟨d, h1, h2, by rw [covAt_covs, h3, hc]; rfl⟩ h
    · rintro ⟨d, h1, h2, h3⟩
      rw [covAt_covs, Bool.and_eq_true] at h3
      rw [h d h1 h2 h3.1] at h3
      cases h3.2
theorem covs_saw {es : List Ev} {k d : Nat} (h : covs es k d = true) : ∃ x, es[d]? = some x ∧ x.saw.getD k false = true := by
  unfold covs at h
  split at h
  · rename_i x y hx hy
    rw [Bool.and_eq_true] at h
    exact ⟨x, hx, h.1⟩
  · cases h

structure EvD (es : List Ev) (D : List Nat) (n : Nat) : Prop where
  len : D.length = es.length
  nd : D.Nodup
  ok : ∀ d ∈ D, who d < n ∧ 1 ≤ nth d ∧ nth d ≤ 500
structure Kn (es : List Ev) (D : List Nat) (known : List Bool) (K : Nat → Nat) (C : Nat → Option Thk.Ch) : Prop where
  len : known.length ≤ es.length
  vec : ∀ i d, D[i]? = some d → (known.getD i false = true ↔ nth d ≤ K (who d))
  all : ∀ x m, 1 ≤ m → m ≤ K x → m < 512 ∧ mkD x m ∈ D
  cl : ∀ d e i, es[d]? = some e → known.getD d false = true → e.saw.getD i false = true → known.getD i false = true
  c1 : ∀ i d, D[i]? = some d → C d = if alive es known i = true then (es[i]?).map chOf else none
  c2 : ∀ d, d ∉ D → C d = none
section
variable {es : List Ev} {D : List Nat} {n : Nat} {known : List Bool} {K : Nat → Nat} {C : Nat → Option Thk.Ch}
theorem Kn.nil : Kn [] [] [] (fun _ => 0) (fun _ => none) := ⟨Nat.le_refl _, fun i d h => by simp at h, fun x m h1 h2 => by omega, fun d e i h => by simp at h, fun i d h => by simp at h, fun d _ => rfl⟩
theorem Kn.notin (h : Kn es D known K C) {d : Nat} (hd : d ∉ D) (h1 : 1 ≤ nth d) : ¬ nth d ≤ K (who d) := fun hle => by
  have := (h.all (who d) (nth d) h1 hle).2
  rw [mk_wn] at this
  exact hd this
theorem Kn.sup (h : Kn es D known K C) {d : Nat} (hc : C d ≠ none) : ∃ i e, D[i]? = some d ∧ alive es known i = true ∧ es[i]? = some e ∧ C d = some (chOf e) := by
  by_cases hd : d ∈ D
  · obtain ⟨i, hi, rfl⟩ := List.getElem_of_mem hd
    have hi' : D[i]? = some D[i] := List.getElem?_eq_getElem hi
    have := h.c1 i _ hi'
    by_cases ha : alive es known i = true
    · rw [if_pos ha] at this
      obtain ⟨⟨y, hy, _⟩, _⟩ := (alive_iff es known i).1 ha
      rw [hy] at this
      exact ⟨i, y, hi', ha, hy, this⟩
    · rw [if_neg ha] at this
      exact absurd this hc
  · exact absurd (h.c2 d hd) hc

theorem Kn.other (h : Kn es D known K C) (hE : EvD es D n) (e : Ev) (d : Nat) (hd : d ∉ D) (h1 : 1 ≤ nth d) : Kn (es ++ [e]) (D ++ [d]) known K C := by
  have hl := h.len
  have hk0 : known.getD es.length false = false := getD_len hl
  refine ⟨by simp; omega, fun i x hx => ?_, fun x m h2 h3 => ⟨(h.all x m h2 h3).1, List.mem_append.2 (Or.inl (h.all x m h2 h3).2)⟩, fun x y i hx hk hs => ?_, fun i x hx => ?_, fun x hx => h.c2 x (fun hm => hx (List.mem_append.2 (Or.inl hm)))⟩
  · by_cases hi : i < D.length
    · rw [List.getElem?_append_left hi] at hx; exact h.vec i x hx
    · by_cases e2 : i = D.length
      · subst e2
        simp at hx
        subst hx
        rw [hE.len, hk0]
        exact ⟨fun h5 => (by cases h5), fun h3 => absurd h3 (h.notin hd h1)⟩
      · rw [List.getElem?_eq_none (by simp; omega)] at hx; cases hx
  · by_cases hi : x < es.length
    · rw [List.getElem?_append_left hi] at hx; exact h.cl x y i hx hk hs
    · rw [getD_len (by omega)] at hk; cases hk
  · by_cases hi : i < D.length
    · rw [List.getElem?_append_left hi] at hx
      have hie : i < es.length := by rw [← hE.len]; exact hi
      rw [alive_app hl hie, List.getElem?_append_left hie]
      exact h.c1 i x hx
    · by_cases e2 : i = D.length
      · subst e2
        simp at hx
        subst hx
        have ha : ¬ alive (es ++ [e]) known D.length = true := fun ha => by
          have := ((alive_iff _ _ _).1 ha).2.1
          rw [hE.len, hk0] at this; cases this
        rw [if_neg ha]
        exact h.c2 _ hd
      · rw [List.getElem?_eq_none (by simp; omega)] at hx; cases hx

theorem Kn.mine (h : Kn es D known K C) (hE : EvD es D n) (e : Ev) (c : Thk.Ch) (hc : chOf e = c) (hs : e.saw = known) (a : Nat) (hK : K a + 1 ≤ 500) (hd : mkD a (K a + 1) ∉ D) :
    Kn (es ++ [e]) (D ++ [mkD a (K a + 1)]) (moreOf known es.length) (inc K a) (stepC C c (mkD a (K a + 1))) := by
  have hl := h.len
  have hg := moreOf_getD known es.length hl
  have hnl : known.getD es.length false = false := getD_len hl
  obtain ⟨d, hdd⟩ : ∃ d, d = mkD a (K a + 1) := ⟨_, rfl⟩
  have hw : who d = a := by rw [hdd]; exact who_mk (by omega)
  have hn : nth d = K a + 1 := by rw [hdd]; exact nth_mk (by omega)
  rw [← hdd] at hd ⊢
  have hel : (es ++ [e])[es.length]? = some e := by simp
  have hlt : ∀ i x, (D ++ [d])[i]? = some x → (i < D.length ∧ D[i]? = some x) ∨ (i = D.length ∧ x = d) := fun i x hx => by
    by_cases hi : i < D.length
    · rw [List.getElem?_append_left hi] at hx; exact Or.inl ⟨hi, hx⟩
    · by_cases e2 : i = D.length
      · subst e2; simp at hx; exact Or.inr ⟨rfl, hx.symm⟩
      · rw [List.getElem?_eq_none (by simp; omega)] at hx; cases hx
  refine ⟨by rw [moreOf_length _ _ hl]; simp, fun i x hx => ?_, fun x m h2 h3 => ?_, fun x y i hx hk hsw => ?_, fun i x hx => ?_, fun x hx => ?_⟩
  · rcases hlt i x hx with ⟨hi, hx⟩ | ⟨rfl, rfl⟩
    · have : ¬ i = es.length := by rw [← hE.len]; omega
      rw [hg, Bool.or_eq_true, h.vec i x hx]
      simp only [this, decide_false, Bool.false_eq_true, or_false]
      by_cases e3 : who x = a
      · rw [e3, inc_same]
        refine ⟨fun h => by omega, fun h4 => ?_⟩
        by_cases e4 : nth x = K a + 1
        · exact absurd (List.mem_of_getElem? hx) (by rw [dot_ext (x := x) (y := d) (by rw [e3, hw]) (by rw [e4, hn])]; exact hd)
        · omega
      · rw [inc_oth e3]
    · rw [hg, hw, inc_same, hn, hE.len]
      simp
  · by_cases e3 : x = a
    · subst e3
      rw [inc_same] at h3
      by_cases e4 : m = K x + 1
      · rw [e4, ← hdd]; exact ⟨by omega, by simp⟩
      · obtain ⟨q1, q2⟩ := h.all x m h2 (by omega)
        exact ⟨q1, List.mem_append.2 (Or.inl q2)⟩
    · rw [inc_oth e3] at h3
      obtain ⟨q1, q2⟩ := h.all x m h2 h3
      exact ⟨q1, List.mem_append.2 (Or.inl q2)⟩
  · rw [hg, Bool.or_eq_true] at hk ⊢
    by_cases hi : x < es.length
    · rw [List.getElem?_append_left hi] at hx
      rcases hk with hk | hk
      · exact Or.inl (h.cl x y i hx hk hsw)
      · rw [decide_eq_true_eq] at hk; omega
    · by_cases e2 : x = es.length
      · subst e2
        rw [hel] at hx
        cases hx
        rw [hs] at hsw
        exact Or.inl hsw
      · rw [List.getElem?_eq_none (by simp; omega)] at hx; cases hx
  · rcases hlt i x hx with ⟨hi, hx⟩ | ⟨rfl, rfl⟩
    · have hxd : ¬ x = d := fun e2 => hd (e2 ▸ List.mem_of_getElem? hx)
      have hil : i < es.length := by rw [← hE.len]; exact hi
      have hei : es[i]? = some es[i] := List.getElem?_eq_getElem hil
      unfold stepC
      rw [if_neg hxd, h.c1 i x hx, List.getElem?_append_left hil, hei]
      have hne : ¬ i = es.length := by omega
      have hcv : covs (es ++ [e]) i es.length = (known.getD i false && covB (toL e.p) e.a (toL e.v) (toL es[i].p) es[i].a (toL es[i].v)) := by
        unfold covs
        rw [hel, List.getElem?_append_left hil, hei]
        simp only []
        rw [hs]
      have hco : ∀ j, j < es.length → covs (es ++ [e]) i j = covs es i j := fun j hj => by
        unfold covs; rw [List.getElem?_append_left hj, List.getElem?_append_left hil]
      have hcc : covC c.path c.act (toL (keptVal c.act ⟨c.val.toArray⟩)) (chOf es[i]) = covB (toL e.p) e.a (toL e.v) (toL es[i].p) es[i].a (toL es[i].v) := by
        subst hc
        exact covB_kept _ _ _ _ _ _
      have ha : alive (es ++ [e]) (moreOf known es.length) i = true ↔ alive es known i = true ∧ covB (toL e.p) e.a (toL e.v) (toL es[i].p) es[i].a (toL es[i].v) = false := by
        rw [alive_iff, alive_iff, List.getElem?_append_left hil, hg]
        simp only [hne, decide_false, Bool.or_false, List.length_append, List.length_singleton]
        constructor
        · rintro ⟨h1, h2, h3⟩
          refine ⟨⟨h1, h2, fun j hj hj2 hkj => ?_⟩, ?_⟩
          · rw [← hco j hj2]; exact h3 j hj (by omega) (by rw [hg, hkj]; rfl)
          · have := h3 es.length hil (by omega) (by rw [hg]; simp)
            rw [hcv, h2] at this
            simpa using this
        · rintro ⟨⟨h1, h2, h3⟩, h4⟩
          refine ⟨h1, h2, fun j hj hj2 hkj => ?_⟩
          by_cases e5 : j = es.length
          · subst e5; rw [hcv, h4]; simp
          · rw [hco j (by omega)]
            rw [hg] at hkj
            simp only [e5, decide_false, Bool.or_false] at hkj
            exact h3 j hj (by omega) hkj
      by_cases hal : alive es known i = true
      · rw [if_pos hal]
        simp only [Option.map_some, hcc]
        cases hcb : covB (toL e.p) e.a (toL e.v) (toL es[i].p) es[i].a (toL es[i].v) with
        | true => rw [if_pos rfl, if_neg (fun h5 => by rw [(ha.1 h5).2] at hcb; cases hcb)]
        | false => rw [if_neg (by simp), if_pos (ha.2 ⟨hal, hcb⟩)]
      · rw [if_neg hal, if_neg (fun h5 => hal (ha.1 h5).1)]
    · unfold stepC
      have ha : alive (es ++ [e]) (moreOf known es.length) D.length = true ↔ effB e.a = true := by
        rw [alive_iff, hE.len, hel, hg]
        simp only [List.length_append, List.length_singleton]
        constructor
        · rintro ⟨⟨y, hy, h1⟩, _⟩
          cases hy; exact h1
        · intro h1
          exact ⟨⟨e, rfl, h1⟩, by simp, fun j hj hj2 _ => by omega⟩
      have hel2 : (es ++ [e])[D.length]? = some e := by rw [hE.len]; exact hel
      rw [if_pos rfl, hel2]
      subst hc
      by_cases h5 : effB e.a = true
      · rw [if_pos (ha.2 h5)]
        exact if_pos h5
      · rw [if_neg (fun h6 => h5 (ha.1 h6))]
        exact if_neg h5
  · unfold stepC
    rw [List.mem_append, List.mem_singleton] at hx
    rw [if_neg (fun h5 => hx (Or.inr h5)), h.c2 x (fun h5 => hx (Or.inl h5))]

theorem Kn.join {k2 : List Bool} {K2 : Nat → Nat} {C2 : Nat → Option Thk.Ch} (h : Kn es D known K C) (h2 : Kn es D k2 K2 C2) : Kn es D (bothL known k2) (maxK K K2) (joinC K C K2 C2) := by
  have one : ∀ (ka kb : List Bool) i, (∀ d e i, es[d]? = some e → kb.getD d false = true → e.saw.getD i false = true → kb.getD i false = true) → ka.getD i false = true → kb.getD i false = false → ∀ kc : List Bool, (∀ j, kc.getD j false = (ka.getD j false || kb.getD j false)) → (alive es kc i = true ↔ alive es ka i = true) := by
    intro ka kb i hcl h1 h3 kc hkc
    rw [alive_iff, alive_iff, hkc, h1, h3]
    simp only [Bool.or_false, true_and]
    refine and_congr_right fun _ => ⟨fun h4 j hj hj2 hkj => h4 j hj hj2 (by rw [hkc, hkj]; rfl), fun h4 j hj hj2 hkj => ?_⟩
    rw [hkc, Bool.or_eq_true] at hkj
    rcases hkj with hkj | hkj
    · exact h4 j hj hj2 hkj
    · cases hc : covs es i j with
      | false => rfl
      | true =>
        obtain ⟨x, hx, hsx⟩ := covs_saw hc
        rw [hcl j x i hx hkj hsx] at h3; cases h3
  refine ⟨by rw [bothL_len]; have := h.len; have := h2.len; omega, fun i d hd => ?_, fun x m h3 h4 => ?_, fun d e i he hk hs => ?_, fun i d hd => ?_, fun d hd => ?_⟩
  · rw [bothL_getD, Bool.or_eq_true, h.vec i d hd, h2.vec i d hd]
    unfold maxK
    omega
  · unfold maxK at h4
    by_cases h5 : m ≤ K x
    · exact h.all x m h3 h5
    · exact h2.all x m h3 (by omega)
  · rw [bothL_getD, Bool.or_eq_true] at hk ⊢
    rcases hk with hk | hk
    · exact Or.inl (h.cl d e i he hk hs)
    · exact Or.inr (h2.cl d e i he hk hs)
  · have v1 := h.vec i d hd
    have v2 := h2.vec i d hd
    have e1 := h.c1 i d hd
    have e2 := h2.c1 i d hd
    have n1 : ∀ (ka : List Bool), ka.getD i false = false → ¬ alive es ka i = true := fun ka h3 h4 => by rw [((alive_iff es ka i).1 h4).2.1] at h3; cases h3
    unfold joinC
    cases k1 : known.getD i false with
    | true =>
      have q1 := v1.1 k1
      cases kk2 : k2.getD i false with
      | true =>
        have q2 := v2.1 kk2
        have ha : alive es (bothL known k2) i = true ↔ alive es known i = true ∧ alive es k2 i = true := by
          rw [alive_iff, alive_iff, alive_iff, bothL_getD, k1, kk2]
          simp only [Bool.or_self, true_and]
          constructor
          · rintro ⟨h3, h4⟩
            exact ⟨⟨h3, fun j hj hj2 hkj => h4 j hj hj2 (by rw [bothL_getD, hkj]; rfl)⟩, h3, fun j hj hj2 hkj => h4 j hj hj2 (by rw [bothL_getD, hkj]; simp)⟩
          · rintro ⟨⟨h3, h4⟩, _, h5⟩
            refine ⟨h3, fun j hj hj2 hkj => ?_⟩
            rw [bothL_getD, Bool.or_eq_true] at hkj
            rcases hkj with hkj | hkj
            · exact h4 j hj hj2 hkj
            · exact h5 j hj hj2 hkj
        by_cases a1 : alive es known i = true
        · by_cases a2 : alive es k2 i = true
          · rw [if_pos (ha.2 ⟨a1, a2⟩)]
            rw [if_pos a1] at e1
            rw [if_pos a2] at e2
            obtain ⟨⟨y, hy, _⟩, _⟩ := (alive_iff es known i).1 a1
            rw [hy] at e1 e2 ⊢
            rw [e1, e2, if_neg (by simp)]
            rfl
          · rw [if_neg (fun h3 => a2 (ha.1 h3).2)]
            rw [if_neg a2] at e2
            rw [if_pos (Or.inr ⟨e2, q2⟩)]
        · rw [if_neg (fun h3 => a1 (ha.1 h3).1)]
          rw [if_neg a1] at e1
          rw [if_pos (Or.inl ⟨e1, q1⟩)]
      | false =>
        have q2 : ¬ nth d ≤ K2 (who d) := fun h3 => by rw [v2.2 h3] at kk2; cases kk2
        have ha := one known k2 i h2.cl k1 kk2 (bothL known k2) (fun j => bothL_getD _ _ j)
        rw [if_neg (n1 k2 kk2)] at e2
        rw [e2]
        by_cases a1 : alive es known i = true
        · rw [if_pos (ha.2 a1)]
          rw [if_pos a1] at e1
          obtain ⟨⟨y, hy, _⟩, _⟩ := (alive_iff es known i).1 a1
          rw [hy] at e1 ⊢
          rw [e1, if_neg (by simp [q2])]
          rfl
        · rw [if_neg (fun h3 => a1 (ha.1 h3))]
          rw [if_neg a1] at e1
          rw [if_pos (Or.inl ⟨e1, q1⟩)]
    | false =>
      have q1 : ¬ nth d ≤ K (who d) := fun h3 => by rw [v1.2 h3] at k1; cases k1
      rw [if_neg (n1 known k1)] at e1
      rw [e1]
      cases kk2 : k2.getD i false with
      | true =>
        have q2 := v2.1 kk2
        have ha := one k2 known i h.cl kk2 k1 (bothL known k2) (fun j => by rw [bothL_getD, Bool.or_comm])
        by_cases a2 : alive es k2 i = true
        · rw [if_pos (ha.2 a2)]
          rw [if_pos a2] at e2
          obtain ⟨⟨y, hy, _⟩, _⟩ := (alive_iff es k2 i).1 a2
          rw [hy] at e2 ⊢
          rw [e2, if_neg (by simp [q1])]
          rfl
        · rw [if_neg (fun h3 => a2 (ha.1 h3))]
          rw [if_neg a2] at e2
          rw [if_pos (Or.inr ⟨e2, q2⟩)]
      | false =>
        rw [if_neg (n1 k2 kk2)] at e2
        rw [e2, if_neg (n1 (bothL known k2) (by rw [bothL_getD, k1, kk2]; rfl))]
        split <;> rfl
  · unfold joinC
    rw [h.c2 d hd, h2.c2 d hd]
    split <;> rfl
theorem Kn.same {k2 : List Bool} {K2 : Nat → Nat} {C2 : Nat → Option Thk.Ch} (h : Kn es D known K C) (h2 : Kn es D k2 K2 C2) : ∀ d c c', C d = some c → C2 d = some c' → c = c' := by
  intro d c c' h3 h4
  have hd : d ∈ D := Classical.byContradiction fun h5 => by rw [h.c2 d h5] at h3; cases h3
  obtain ⟨i, hi, rfl⟩ := List.getElem_of_mem hd
  have hi' : D[i]? = some D[i] := List.getElem?_eq_getElem hi
  have e1 := h.c1 i _ hi'
  have e2 := h2.c1 i _ hi'
  rw [h3] at e1
  rw [h4] at e2
  split at e1
  · split at e2
    · rw [← e1] at e2; cases e2; rfl
    · cases e2
  · cases e1
end
end Go.Proofs.YtoiiaankpnhppaaGreatDoor

