import Derived.Deep.RegionHeld3
import Derived.Test.YtoiiaankpnhppaaGreatDoorPart15
set_option linter.unusedVariables false
set_option linter.unusedSimpArgs false
namespace Go.Proofs.YtoiiaankpnhppaaGreatDoor
open Go.RowKit
variable {F G : Stt}

set_option maxHeartbeats 4000000 in
set_option maxRecDepth 100000 in
theorem turns_do (hF : ProgOK F) (hR : RefOK G) (hP : ProgFrame F) (hQ : RefFrame G) (w : World) (hG : Glob w) (pb x : Nat) (S : Nat → Prop) (c : Nat) (R : Nat → Prop) (s : St) (h : PairAt F G w pb x S c R s) (h4 : (∀ k, S k → 4 ≤ k) ∧ (∀ k, R k → 4 ≤ k))
    (o : StepD) (ho : o.ok) (hk : o.kind = 2) :
    Calls Tryz.prog 52 #[.pointer (some ⟨pb, 0, none⟩), o.val] w fun e w' => e = .returned (.bool true) ∧ ∃ s', Told F G S R w pb x c s' w' := by
  have HP : Hid (ProgFrame F) := hP
  have HQ : Hid (RefFrame G) := hQ
  have hs : o.s.size ≤ 1048576 := ho.2.2.2.2
  obtain ⟨r, es1, kn1, hd⟩ := doOut_exists s.es s.kn o.n (toL o.s)
  unfold StepD.val
  obtain ⟨W1, hW1⟩ : ∃ W1, W1 = w.alloc (stepO o) := ⟨_, rfl⟩
  have HA0 : Hid (Mid F G S R W1 w.heap.size o pb x c s s W1) := by rw [hW1]; exact Mid.start hP hQ hG h h4 o
  have HX : Hid (∀ wx, Mid F G S R W1 w.heap.size o pb x c s s wx → Calls Tryz.prog 19 #[.pointer (some ⟨x, 0, none⟩), .int .i64 o.n, .string o.s] wx _) := fun wx hx => hx.pDo hF hP hQ o.n o.s hs hd
  have HY : Hid (∀ wx, Mid F G S R W1 w.heap.size o pb x c ⟨es1, kn1, s.fs⟩ s wx → Calls Tryz.prog 92 #[.pointer (some ⟨c, 0, none⟩), .int .i64 o.n, .string o.s] wx fun e w' => e = .returned (.int .i64 r) ∧ Mid F G S R W1 w.heap.size o pb x c ⟨es1, kn1, s.fs⟩ ⟨es1, kn1, s.fs⟩ w') := fun wx hx => by
    refine Calls.mono (hx.rDo hR hP hQ o.n o.s hs) ?_
    rintro e w' ⟨r', es', kn', rfl, hd', hm⟩
    obtain ⟨rfl, rfl, rfl⟩ := doOut_det hd hd'
    exact ⟨rfl, hm⟩
  have hfin : Hid (∀ wx, Mid F G S R W1 w.heap.size o pb x c ⟨es1, kn1, s.fs⟩ ⟨es1, kn1, s.fs⟩ wx → Told F G S R w pb x c ⟨es1, kn1, s.fs⟩ wx) := fun wx hx => by rw [hW1] at hx; exact hx.fin
  have HW : Hid (w.alloc (stepO o) = W1) := hW1.symm
  obtain ⟨k, a, n, m, t⟩ := o
  simp only at *
  subst hk
  clear hF hR hP hQ hG h ho hW1 h4 hd
  go_enter Tryz.func52, Tryz.ntmps52
  go_wp2_with fail
  rw [HW.out]
  have hA := HA0.out
  clear HA0
  have q0 := hA.p0
  have q2 := hA.b2
  have q4 := hA.b4
  simp only at q2 q4
  go_region_held3 (fun w' => w'.cell? ⟨pb, 0, none⟩ = some (.pointer (some ⟨x, 0, none⟩)) ∧ w'.cell? ⟨w.heap.size, 2, none⟩ = some (.int .i64 n) ∧ w'.cell? ⟨w.heap.size, 4, none⟩ = some (.string t)) ((refine ⟨?_, ?_, ?_⟩ <;> (first | assumption | (exact Mid.p0 (by assumption)) | (exact Mid.b2 (by assumption)) | (exact Mid.b4 (by assumption))))) (first | (go_at_call 19; refine Calls.mono (HX.out _ ?_) ?_; (exact hA.drew HP.out HQ.out); rintro e w3 ⟨rfl, hA3⟩))
  clear hA q0 q2 q4 HX
  go_wp2_with fail
  have r1 := hA3.p1
  have r2 := hA3.b2
  have r4 := hA3.b4
  simp only at r2 r4
  go_region_held3 (fun w' => w'.cell? ⟨pb, 1, none⟩ = some (.pointer (some ⟨c, 0, none⟩)) ∧ w'.cell? ⟨w.heap.size, 2, none⟩ = some (.int .i64 n) ∧ w'.cell? ⟨w.heap.size, 4, none⟩ = some (.string t)) ((refine ⟨?_, ?_, ?_⟩ <;> (first | assumption | (exact Mid.p1 (by assumption)) | (exact Mid.b2 (by assumption)) | (exact Mid.b4 (by assumption))))) (first | (go_at_call 92; refine Calls.mono (HY.out _ ?_) ?_; (exact hA3.drew HP.out HQ.out); rintro e w4 ⟨rfl, hA4⟩))
  have HA4 : Hid (Told F G S R w pb x c ⟨es1, kn1, s.fs⟩ w4) := hfin.out _ hA4
  clear hA3 hA4 r1 r2 r4
  go_wp2_with (first | (go_at_call 82; refine (num_any _ _).mono ?_; rintro e w5 ⟨rfl, rfl⟩))
  go_ret
  exact ⟨rfl, _, HA4.out⟩
end Go.Proofs.YtoiiaankpnhppaaGreatDoor
namespace Go.Proofs.YtoiiaankpnhppaaGreatDoor
open Go.RowKit

set_option maxHeartbeats 4000000 in
set_option maxRecDepth 100000 in
theorem turns_idle (w : World) (pb : Nat) (o : StepD) (hk : o.kind ≤ 0) :
    Calls Tryz.prog 52 #[.pointer (some ⟨pb, 0, none⟩), o.val] w fun e w' => e = .returned (.bool true) ∧ Below w.heap.size w w' := by
  obtain ⟨k, a, n, m, s⟩ := o
  unfold StepD.val
  simp only at *
  have k2 : (k == 2) = false := beq_eq_false_iff_ne.2 (by omega)
  have k10 : (k == 10) = false := beq_eq_false_iff_ne.2 (by omega)
  have k11 : (k == 11) = false := beq_eq_false_iff_ne.2 (by omega)
  have k12 : (k == 12) = false := beq_eq_false_iff_ne.2 (by omega)
  have k13 : (k == 13) = false := beq_eq_false_iff_ne.2 (by omega)
  have Hb : Hid (∀ ob, Below w.heap.size w (w.alloc ob)) := fun ob => (Below.refl _ w).alloc (Nat.le_refl _) ob
  go_enter Tryz.func52, Tryz.ntmps52
  go_wp2_with (first | (go_at_call 82; refine (num_any _ _).mono ?_; rintro e w5 ⟨rfl, rfl⟩))
  go_ret
  exact ⟨rfl, Hb.out _⟩
variable {F G : Stt}

set_option maxHeartbeats 4000000 in
set_option maxRecDepth 100000 in
theorem frame_mid (hF : ProgOK F) (hR : RefOK G) (hP : ProgFrame F) (hQ : RefFrame G) {S R : Nat → Prop} {w0 : World} {pb x c : Nat} {s : St} {w : World} (h : Mid0 F G S R w0 pb x c s s w)
    (b : Nat) (hb : w0.cell? ⟨b, 1, none⟩ = some (.bool false)) (hnb : ¬ S b ∧ ¬ R b) (hbl : b < w0.heap.size) (f : Int) :
    Calls Tryz.prog 49 #[.pointer (some ⟨b, 0, none⟩), .pointer (some ⟨pb, 0, none⟩), .int .i64 f] w fun e w' => e = .returned (.bool true) ∧ Mid0 F G S R w0 pb x c s s w' := by
  have HX : Hid (∀ wx, Mid0 F G S R w0 pb x c s s wx → Calls Tryz.prog 86 #[.pointer (some ⟨x, 0, none⟩), .int .i64 f] wx fun e w' => e = .returned (.tuple #[.string (frameR s f).1, .int .i64 (frameR s f).2]) ∧ Mid0 F G S R w0 pb x c s s w') := fun wx hx => hx.pFrame hF hP hQ f
  have HB : Hid (∀ wx, Mid0 F G S R w0 pb x c s s wx → Calls Tryz.prog 87 #[.pointer (some ⟨c, 0, none⟩), .int .i64 f] wx fun e w' => ∃ n : Nat, e = .returned (.int .i64 (n : Int)) ∧ n ≤ 1000000 ∧ (n = 0 ↔ frNo s f = none) ∧ w' = wx) := fun wx hx => hx.rBound hR f
  have HC : Hid (∀ wx, Mid0 F G S R w0 pb x c s s wx → wx.cell? ⟨b, 1, none⟩ = some (.bool false)) := fun wx hx => (hx.cell hbl hnb.1 hnb.2 1).trans hb
  have hsz : ∀ g, frNo s f = some g → g.bytes.size ≤ 1000000000 := fun g hg => by
    obtain ⟨S', h1, _⟩ := h.f
    exact hF.fsz _ _ _ _ _ _ h1 hg
  have q0 := h.p0
  have H : Hid (_) := h
  clear hF hR hP hQ hb hnb hbl h
  go_enter Tryz.func49, Tryz.ntmps49
  go_wp2_with fail
  refine Calls.mono (HX.out _ H.out) ?_
  rintro e w2 ⟨rfl, h2⟩
  clear q0 H
  have q0 := h2.p0
  have H2 : Hid (_) := h2
  clear h2
  go_wp2_with fail
  refine Calls.mono (HX.out _ H2.out) ?_
  rintro e w3 ⟨rfl, h3⟩
  clear q0 H2 HX
  have q1 := h3.p1
  have H3 : Hid (Mid0 F G S R w0 pb x c s s w3) := h3
  have cb := HC.out _ h3
  clear h3 HC
  go_wp2_with fail
  refine Calls.mono (HB.out _ H3.out) ?_
  rintro e w4 ⟨n, rfl, hn, hz, rfl⟩
  clear HB q1
  cases hf : frNo s f with
  | none =>
    have e1 : frameR s f = (⟨#[]⟩, 9) := by unfold frameR; rw [hf]
    have e2 : n = 0 := hz.2 hf
    subst e2
    rw [e1]
    clear hz hf e1 hsz hn
    go_wp2_with (first | (go_at_call 82; refine (num_any _ _).mono ?_; rintro e w5 ⟨rfl, rfl⟩))
    go_ret
    exact ⟨rfl, H3.out⟩
  | some g =>
    have e1 : frameR s f = (g.bytes, 0) := by unfold frameR; rw [hf]
    have e2 : ¬ n = 0 := fun h5 => by rw [hz.1 h5] at hf; cases hf
    have hz1 := hsz g hf
    rw [e1]
    clear hz hf e1 hsz
    have e3 : ((n : Int) == 0) = false := beq_eq_false_iff_ne.2 (by omega)
    generalize g.bytes = bt at *
    by_cases hlen : (bt.size : Int) ≤ (n : Int)
    · go_wp2_with (first | (go_at_call 82; refine (num_any _ _).mono ?_; rintro e w5 ⟨rfl, rfl⟩))
      go_ret
      exact ⟨rfl, H3.out⟩
    · go_wp2_with (first | (go_at_call 82; refine (num_any _ _).mono ?_; rintro e w5 ⟨rfl, rfl⟩))
      go_ret
      exact ⟨rfl, H3.out⟩
theorem frame_any (hF : ProgOK F) (hR : RefOK G) (hP : ProgFrame F) (hQ : RefFrame G) (w : World) (hG : Glob w) (pb x : Nat) (S : Nat → Prop) (c : Nat) (R : Nat → Prop) (s : St) (h : PairAt F G w pb x S c R s) (h4 : (∀ k, S k → 4 ≤ k) ∧ (∀ k, R k → 4 ≤ k))
    (b : Nat) (hb : w.cell? ⟨b, 1, none⟩ = some (.bool false)) (hnb : ¬ S b ∧ ¬ R b) (hbl : b < w.heap.size) (f : Int) :
    Calls Tryz.prog 49 #[.pointer (some ⟨b, 0, none⟩), .pointer (some ⟨pb, 0, none⟩), .int .i64 f] w fun e w' => e = .returned (.bool true) ∧ Told F G S R w pb x c s w' := by
  refine Calls.mono (frame_mid hF hR hP hQ (Mid0.start hP hQ hG h h4 (Below.refl _ _)) b hb hnb hbl f) ?_
  rintro e w' ⟨rfl, h5⟩
  exact ⟨rfl, h5.fin⟩

theorem sendR_rng (s : St) (i j : Int) (h : s.fs.length ≤ 1000000) : 0 ≤ (sendR s i j).1 ∧ (sendR s i j).1 ≤ 1000001 ∧ 0 ≤ (sendR s i j).2 ∧ (sendR s i j).2 ≤ 9 := by
  unfold sendR
  split
  · split
    · simp
    · split <;> simp <;> omega
  · simp
theorem delR_rng (s : St) (f : Int) (h : s.fs.length ≤ 1000000) : 0 ≤ (delR s f).1 ∧ (delR s f).1 ≤ 1000001 ∧ 0 ≤ (delR s f).2 ∧ (delR s f).2 ≤ 9 := by
  unfold delR
  split
  · simp
  · split
    · simp
    · split <;> simp <;> omega

set_option maxHeartbeats 8000000 in
set_option maxRecDepth 100000 in
theorem frames_any (hF : ProgOK F) (hR : RefOK G) (hP : ProgFrame F) (hQ : RefFrame G) (w : World) (hG : Glob w) (pb x : Nat) (S : Nat → Prop) (c : Nat) (R : Nat → Prop) (s : St) (h : PairAt F G w pb x S c R s) (h4 : (∀ k, S k → 4 ≤ k) ∧ (∀ k, R k → 4 ≤ k))
    (b : Nat) (hb : w.cell? ⟨b, 1, none⟩ = some (.bool false)) (hnb : ¬ S b ∧ ¬ R b) (hbl : b < w.heap.size) (o : StepD) (ho : o.ok) (hk : o.kind = 5 ∨ o.kind = 7) :
    Calls Tryz.prog 50 #[.pointer (some ⟨b, 0, none⟩), .pointer (some ⟨pb, 0, none⟩), o.val] w fun e w' => e = .returned (.bool true) ∧ ∃ s', Told F G S R w pb x c s' w' := by
  have HP : Hid (ProgFrame F) := hP
  have HQ : Hid (RefFrame G) := hQ
  unfold StepD.val
  obtain ⟨W1, hW1⟩ : ∃ W1, W1 = w.alloc (stepO o) := ⟨_, rfl⟩
  have HA0 : Hid (Mid F G S R W1 w.heap.size o pb x c s s W1) := by rw [hW1]; exact Mid.start hP hQ hG h h4 o
  have hb1 : Below w.heap.size w W1 := by rw [hW1]; exact (Below.refl _ w).alloc (Nat.le_refl _) _
  have HFm : Hid (∀ s' wx f, Mid F G S R W1 w.heap.size o pb x c s' s' wx → Calls Tryz.prog 49 #[.pointer (some ⟨b, 0, none⟩), .pointer (some ⟨pb, 0, none⟩), .int .i64 f] wx fun e w' => e = .returned (.bool true) ∧ ∃ s', Told F G S R w pb x c s' w') := fun s' wx f hx => by
    refine Calls.mono (frame_mid hF hR hP hQ hx.m b ((hb1.cell (p := ⟨b, 1, none⟩) hbl).trans hb) hnb (Nat.lt_of_lt_of_le hbl hb1.size) f) ?_
    rintro e w' ⟨rfl, h5⟩
    refine ⟨rfl, s', ?_⟩
    have h6 : Mid F G S R (w.alloc (stepO o)) w.heap.size o pb x c s' s' w' := by rw [← hW1]; exact ⟨h5, hx.bk, hx.bS, hx.bR⟩
    exact h6.fin
  have hfin : Hid (∀ s' wx, Mid F G S R W1 w.heap.size o pb x c s' s' wx → ∃ s', Told F G S R w pb x c s' wx) := fun s' wx hx => by rw [hW1] at hx; exact ⟨s', hx.fin⟩
  have hfl : s.fs.length ≤ 1000000 := hF.flen _ _ _ _ h.f
  have HW : Hid (w.alloc (stepO o) = W1) := hW1.symm
  rcases hk with hk | hk
  · have HX : Hid (∀ wx, Mid F G S R W1 w.heap.size o pb x c s s wx → Calls Tryz.prog 29 #[.pointer (some ⟨x, 0, none⟩), .int .i64 o.n, .int .i64 o.m] wx _) := fun wx hx => hx.pSend hF hP hQ o.n o.m
    have HY : Hid (∀ wx s', SendTo s o.n o.m s' → Mid F G S R W1 w.heap.size o pb x c s' s wx → Calls Tryz.prog 88 #[.pointer (some ⟨c, 0, none⟩), .int .i64 o.n, .int .i64 o.m] wx _) := fun wx s' hs hx => hx.rSend hR hP hQ o.n o.m hs
    obtain ⟨r1, r2, r3, r4⟩ := sendR_rng s o.n o.m hfl
    obtain ⟨k, a, n, m, t⟩ := o
    simp only at *
    subst hk
    clear hF hR hP hQ hG h ho hW1 h4 hb hnb hbl hb1 hfl
    generalize sendR s n m = sr at *
    obtain ⟨u, v⟩ := sr
    simp only at *
    go_enter Tryz.func50, Tryz.ntmps50
    have hA := HA0.out
    clear HA0
    have q00 := hA.b0
    simp only at q00
    go_wp2_with fail
    rw [HW.out]
    have q0 := hA.p0
    have q2 := hA.b2
    have q3 := hA.b3
    simp only at q2 q3
    go_wp2_with fail
    go_region_held3 (fun w' => w'.cell? ⟨pb, 0, none⟩ = some (.pointer (some ⟨x, 0, none⟩)) ∧ w'.cell? ⟨w.heap.size, 2, none⟩ = some (.int .i64 n) ∧ w'.cell? ⟨w.heap.size, 3, none⟩ = some (.int .i64 m)) ((refine ⟨?_, ?_, ?_⟩ <;> (first | assumption | (exact Mid.p0 (by assumption)) | (exact Mid.b2 (by assumption)) | (exact Mid.b3 (by assumption))))) (first | (go_at_call 29; refine Calls.mono (HX.out _ ?_) ?_; (exact hA.drew HP.out HQ.out); rintro e w3 ⟨rfl, s', hs', hA3⟩))
    have Hs' : Hid (_) := hs'
    clear hA q0 q2 q3 q00 HX hs'
    go_wp2_with fail
    have r1 := hA3.p1
    have r2 := hA3.b2
    have r3 := hA3.b3
    simp only at r2 r3
    go_region_held3 (fun w' => w'.cell? ⟨pb, 1, none⟩ = some (.pointer (some ⟨c, 0, none⟩)) ∧ w'.cell? ⟨w.heap.size, 2, none⟩ = some (.int .i64 n) ∧ w'.cell? ⟨w.heap.size, 3, none⟩ = some (.int .i64 m)) ((refine ⟨?_, ?_, ?_⟩ <;> (first | assumption | (exact Mid.p1 (by assumption)) | (exact Mid.b2 (by assumption)) | (exact Mid.b3 (by assumption))))) (first | (go_at_call 88; refine Calls.mono (HY.out _ s' Hs'.out ?_) ?_; (exact hA3.drew HP.out HQ.out); rintro e w4 ⟨rfl, hA4⟩))
    have HA4 : Hid (Mid F G S R W1 w.heap.size ⟨5, a, n, m, t⟩ pb x c s' s' w4) := hA4
    clear hA3 hA4 r1 r2 r3 HY Hs'
    by_cases hz : u = 0
    · subst hz
      go_wp2_with (first | (go_at_call 82; refine (num_any _ _).mono ?_; rintro e w5 ⟨rfl, rfl⟩))
      go_ret
      exact ⟨rfl, hfin.out _ _ HA4.out⟩
    · have hzb : (u == 0) = false := beq_eq_false_iff_ne.2 hz
      go_wp2_with (first | (go_at_call 82; refine (num_any _ _).mono ?_; rintro e w5 ⟨rfl, rfl⟩))
      refine Calls.mono (HFm.out _ _ u HA4.out) ?_
      rintro e w6 ⟨rfl, h6⟩
      have H6 : Hid (_) := h6
      clear h6 HFm hfin HA4
      go_wp2_with fail
      go_ret
      exact ⟨rfl, H6.out⟩
  · have HX : Hid (∀ wx, Mid F G S R W1 w.heap.size o pb x c s s wx → Calls Tryz.prog 23 #[.pointer (some ⟨x, 0, none⟩), .int .i64 o.n] wx _) := fun wx hx => hx.pDel hF hP hQ o.n
    have HY : Hid (∀ wx s', DelTo s o.n s' → Mid F G S R W1 w.heap.size o pb x c s' s wx → Calls Tryz.prog 89 #[.pointer (some ⟨c, 0, none⟩), .int .i64 o.n] wx _) := fun wx s' hs hx => hx.rDel hR hP hQ o.n hs
    obtain ⟨r1, r2, r3, r4⟩ := delR_rng s o.n hfl
    obtain ⟨k, a, n, m, t⟩ := o
    simp only at *
    subst hk
    clear hF hR hP hQ hG h ho hW1 h4 hb hnb hbl hb1 hfl
    generalize delR s n = sr at *
    obtain ⟨u, v⟩ := sr
    simp only at *
    go_enter Tryz.func50, Tryz.ntmps50
    have hA := HA0.out
    clear HA0
    have q00 := hA.b0
    simp only at q00
    go_wp2_with fail
    rw [HW.out]
    have q0 := hA.p0
    have q2 := hA.b2
    simp only at q2
    go_wp2_with fail
    go_region_held3 (fun w' => w'.cell? ⟨pb, 0, none⟩ = some (.pointer (some ⟨x, 0, none⟩)) ∧ w'.cell? ⟨w.heap.size, 2, none⟩ = some (.int .i64 n)) ((refine ⟨?_, ?_⟩ <;> (first | assumption | (exact Mid.p0 (by assumption)) | (exact Mid.b2 (by assumption))))) (first | (go_at_call 23; refine Calls.mono (HX.out _ ?_) ?_; (exact hA.drew HP.out HQ.out); rintro e w3 ⟨rfl, s', hs', hA3⟩))
    have Hs' : Hid (_) := hs'
    clear hA q0 q2 q00 HX hs'
    go_wp2_with fail
    have r1 := hA3.p1
    have r2 := hA3.b2
    simp only at r2
    go_region_held3 (fun w' => w'.cell? ⟨pb, 1, none⟩ = some (.pointer (some ⟨c, 0, none⟩)) ∧ w'.cell? ⟨w.heap.size, 2, none⟩ = some (.int .i64 n)) ((refine ⟨?_, ?_⟩ <;> (first | assumption | (exact Mid.p1 (by assumption)) | (exact Mid.b2 (by assumption))))) (first | (go_at_call 89; refine Calls.mono (HY.out _ s' Hs'.out ?_) ?_; (exact hA3.drew HP.out HQ.out); rintro e w4 ⟨rfl, hA4⟩))
    have HA4 : Hid (Mid F G S R W1 w.heap.size ⟨7, a, n, m, t⟩ pb x c s' s' w4) := hA4
    clear hA3 hA4 r1 r2 HY Hs'
    by_cases hz : u = 0
    · subst hz
      go_wp2_with (first | (go_at_call 82; refine (num_any _ _).mono ?_; rintro e w5 ⟨rfl, rfl⟩))
      go_ret
      exact ⟨rfl, hfin.out _ _ HA4.out⟩
    · have hzb : (u == 0) = false := beq_eq_false_iff_ne.2 hz
      go_wp2_with (first | (go_at_call 82; refine (num_any _ _).mono ?_; rintro e w5 ⟨rfl, rfl⟩))
      refine Calls.mono (HFm.out _ _ u HA4.out) ?_
      rintro e w6 ⟨rfl, h6⟩
      have H6 : Hid (_) := h6
      clear h6 HFm hfin HA4
      go_wp2_with fail
      go_ret
      exact ⟨rfl, H6.out⟩
end Go.Proofs.YtoiiaankpnhppaaGreatDoor
namespace Go.Proofs.YtoiiaankpnhppaaGreatDoor
open Go.RowKit
variable {F G : Stt}

structure PairD where
  pb : Nat
  x : Nat
  S : Nat → Prop
  c : Nat
  R : Nat → Prop
  s : St
def PairD.At (F G : Stt) (w : World) (d : PairD) : Prop := PairAt F G w d.pb d.x d.S d.c d.R d.s
def PairD.foot (d : PairD) (k : Nat) : Prop := d.S k ∨ d.R k

theorem foot_tag (hP : ProgFrame F) (hQ : RefFrame G) {w : World} {d : PairD} (h : d.At F G w) {k : Nat} (hk : d.foot k) {t : TypeId} (ht : Tagged w k t) : t ≠ 4 ∧ t ≠ 141 ∧ t ≠ 54 ∧ t ≠ 93 := by
  rcases hk with hk | hk
  · exact (hP.tags h.f hk ht).2
  · obtain ⟨t', h1, h2⟩ := hQ.tags h.r hk
    rw [tag_same ht h2]
    exact isRef_ne h1
theorem foot_lt (hP : ProgFrame F) (hQ : RefFrame G) {w : World} {d : PairD} (h : d.At F G w) {k : Nat} (hk : d.foot k) : k < w.heap.size := hk.elim (hP.lt h.f) (hQ.lt h.r)

theorem PairD.At.other (hP : ProgFrame F) (hQ : RefFrame G) {w w' : World} {d f : PairD} (h : d.At F G w) (hf : f.At F G w) (hc : Chg f.foot w w') (hi : IntsKept w w') (ha : ∀ k, d.foot k → ¬ f.foot k) : d.At F G w' := by
  have hpb : ¬ f.foot d.pb := fun hk => (foot_tag hP hQ hf hk h.tag).2.1 rfl
  have hcell : ∀ i, w'.cell? ⟨d.pb, i, none⟩ = w.cell? ⟨d.pb, i, none⟩ := fun i => World.cell?_of_block (w := w) (hc.block d.pb h.tag.lt hpb)
  exact ⟨h.tag.chg hc hpb, (hcell 0).trans h.c0, (hcell 1).trans h.c1, hP.stable h.f hc (fun k hk => ha k (Or.inl hk)), hQ.stable h.r hc (fun k hk => ha k (Or.inr hk)) (fun b hb hk => (foot_tag hP hQ hf hk hb).1 rfl) hi⟩
theorem PairD.At.law (hP : ProgFrame F) (hQ : RefFrame G) {M : Nat → Prop} {w w' : World} {d : PairD} (h : d.At F G w) (hc : Chg M w w') (hM : ∀ k, M k → k < w.heap.size → Tagged w k 54 ∨ Tagged w k 93) : d.At F G w' := by
  have one : ∀ {k : Nat} {t : TypeId}, M k → Tagged w k t → t = 54 ∨ t = 93 := fun hk ht => (hM _ hk ht.lt).imp (tag_same ht) (tag_same ht)
  have no : ∀ {k : Nat} {t : TypeId}, Tagged w k t → t ≠ 54 → t ≠ 93 → ¬ M k := fun ht h1 h2 hk => (one hk ht).elim h1 h2
  have hpb : ¬ M d.pb := no h.tag (by decide) (by decide)
  have hcell : ∀ i, w'.cell? ⟨d.pb, i, none⟩ = w.cell? ⟨d.pb, i, none⟩ := fun i => World.cell?_of_block (w := w) (hc.block d.pb h.tag.lt hpb)
  have hfoot : ∀ k, d.foot k → ¬ M k := fun k hk hm => by
    rcases hM k hm (foot_lt hP hQ h hk) with h1 | h1
    · exact (foot_tag hP hQ h hk h1).2.2.1 rfl
    · exact (foot_tag hP hQ h hk h1).2.2.2 rfl
  exact ⟨h.tag.chg hc hpb, (hcell 0).trans h.c0, (hcell 1).trans h.c1, hP.stable h.f hc (fun k hk => hfoot k (Or.inl hk)), hQ.stable h.r hc (fun k hk => hfoot k (Or.inr hk)) (fun b hb => no hb (by decide) (by decide)) (IntsKept.of_chg hc (fun b hb => no hb (by decide) (by decide)))⟩

def pbs (l : List PairD) : List Value := l.map fun d => .pointer (some ⟨d.pb, 0, none⟩)
structure LawI (F G : Stt) (B : Nat) (w : World) (b : Nat) (rv : Value) (l : List PairD) : Prop where
  glob : Glob w
  b4 : 4 ≤ B
  bB : B ≤ b
  blk : Blk w b #[rv, .bool false] 54
  row : w.ownsRow B 93 1 rv l.length (pbs l)
  pair : ∀ j (h : j < l.length), l[j].At F G w
  foot : ∀ j (h : j < l.length) k, l[j].foot k → B ≤ k
  apart : ∀ i j (hi : i < l.length) (hj : j < l.length), i ≠ j → ∀ k, l[i].foot k → ¬ l[j].foot k
def LawJ (F G : Stt) (c B : Nat) (w : World) (b : Nat) : Prop := ∃ rv l, l.length ≤ c ∧ LawI F G B w b rv l

section
variable {B : Nat} {w w' : World} {b : Nat} {rv : Value} {l : List PairD}
theorem LawI.below (hP : ProgFrame F) (hQ : RefFrame G) (h : LawI F G B w b rv l) (hb : Below w.heap.size w w') : LawI F G B w' b rv l :=
  ⟨h.glob.mono hb, h.b4, h.bB, h.blk.below hb, ownsRow_chg h.row (Chg.of_below (M := fun _ => False) hb) (fun _ _ h => h), fun j hj => PairAt.below hP hQ (h.pair j hj) hb, h.foot, h.apart⟩
theorem LawI.rowTag (h : LawI F G B w b rv l) : ∀ g, rv.ownBlock = some g → Tagged w g 93 := by
  intro g hg
  obtain ⟨_, h1 | ⟨g', cap, cur, rfl, _, hh, _⟩⟩ := h.row
  · rw [h1.1] at hg; cases hg
  · cases hg; exact ⟨cur, hh⟩
theorem LawI.notB (hP : ProgFrame F) (hQ : RefFrame G) (h : LawI F G B w b rv l) (j : Nat) (hj : j < l.length) : ¬ l[j].S b ∧ ¬ l[j].R b :=
  ⟨fun hb => (foot_tag hP hQ (h.pair j hj) (Or.inl hb) ⟨_, h.blk⟩).2.2.1 rfl, fun hb => (foot_tag hP hQ (h.pair j hj) (Or.inr hb) ⟨_, h.blk⟩).2.2.1 rfl⟩
theorem LawI.turn (hP : ProgFrame F) (hQ : RefFrame G) (h : LawI F G B w b rv l) (k : Nat) (hk : k < l.length) (d : PairD) (hp : d.pb = l[k].pb) (hd : d.At F G w') (hc : Chg l[k].foot w w') (hi : IntsKept w w') (hf : ∀ i, d.foot i → l[k].foot i ∨ w.heap.size ≤ i) :
    LawI F G B w' b rv (l.set k d) ∧ Below B w w' := by
  have hk0 := h.pair k hk
  have hBs : B ≤ w.heap.size := Nat.le_trans h.bB (Nat.le_of_lt h.blk.lt)
  have hbel : Below B w w' := ⟨hc.os, hc.tape, hc.output, hc.size, fun i hi => hc.block i (Nat.lt_of_lt_of_le hi hBs) (fun e => by have := h.foot k hk i e; omega)⟩
  have hb' : ¬ l[k].foot b := fun hb => (foot_tag hP hQ hk0 hb ⟨_, h.blk⟩).2.2.1 rfl
  have hget : ∀ j (hj : j < l.length), (l.set k d)[j]'(by simpa using hj) = if k = j then d else l[j] := fun j hj => by rw [List.getElem_set]
  refine ⟨⟨h.glob.chg4 hc (fun i hi => Nat.le_trans h.b4 (h.foot k hk i hi)), h.b4, h.bB, h.blk.chg hc hb', ?_, fun j hj => ?_, fun j hj i hi => ?_, fun i j hi hj hij n hn => ?_⟩, hbel⟩
  · have e : pbs (l.set k d) = pbs l := by
      unfold pbs
      rw [List.map_set, hp]
      refine List.ext_getElem? fun j => ?_
      rw [List.getElem?_set]
      by_cases e : k = j
      · subst e; simp [hk]
      · simp [e]
    rw [List.length_set, e]
    exact ownsRow_chg h.row hc (fun g hg hm => (foot_tag hP hQ hk0 hm (h.rowTag g hg)).2.2.2 rfl)
  · have hj' : j < l.length := by simpa using hj
    rw [hget j hj']
    by_cases e : k = j
    · rw [if_pos e]; exact hd
    · rw [if_neg e]
      exact (h.pair j hj').other hP hQ hk0 hc hi (fun i hi => h.apart j k hj' hk (Ne.symm e) i hi)
  · have hj' : j < l.length := by simpa using hj
    rw [hget j hj'] at hi
    by_cases e : k = j
    · rw [if_pos e] at hi
      rcases hf i hi with h1 | h1
      · exact h.foot k hk i h1
      · omega
    · rw [if_neg e] at hi
      exact h.foot j hj' i hi
  · have hi' : i < l.length := by simpa using hi
    have hj' : j < l.length := by simpa using hj
    rw [hget i hi'] at hn
    rw [hget j hj']
    by_cases e : k = i
    · rw [if_pos e] at hn
      have e2 : ¬ k = j := by omega
      rw [if_neg e2]
      intro hm
      rcases hf n hn with h1 | h1
      · exact h.apart k j hk hj' e2 n h1 hm
      · have := foot_lt hP hQ (h.pair j hj') hm; omega
    · rw [if_neg e] at hn
      by_cases e2 : k = j
      · rw [if_pos e2]
        intro hm
        rcases hf n hm with h1 | h1
        · exact h.apart i k hi' hk (Ne.symm e) n hn h1
        · have := foot_lt hP hQ (h.pair i hi') hn; omega
      · rw [if_neg e2]
        exact h.apart i j hi' hj' hij n hn
theorem LawI.told (hP : ProgFrame F) (hQ : RefFrame G) {c : Nat} (h : LawI F G B w b rv l) (hl : l.length ≤ c) (k : Nat) (hk : k < l.length) {s' : St}
    (hd : Told F G l[k].S l[k].R w l[k].pb l[k].x l[k].c s' w') : LawJ F G c B w' b ∧ Below B w w' := by
  obtain ⟨S', R', h1, h2, h3, h4, h5⟩ := hd
  obtain ⟨h6, h7⟩ := h.turn hP hQ k hk ⟨l[k].pb, l[k].x, S', l[k].c, R', s'⟩ rfl h1 h4 h5 (fun i hi => by
    rcases hi with hi | hi
    · exact (h2 i hi).imp (fun h => Or.inl h) (fun h => h)
    · exact (h3 i hi).imp (fun h => Or.inr h) (fun h => h))
  exact ⟨⟨_, _, by simpa using hl, h6⟩, h7⟩
end
end Go.Proofs.YtoiiaankpnhppaaGreatDoor
namespace Go.Proofs.YtoiiaankpnhppaaGreatDoor
open Go.RowKit
variable {F G : Stt}

set_option maxHeartbeats 1000000 in
theorem LawI.more (hP : ProgFrame F) (hQ : RefFrame G) {B N : Nat} {w w6 : World} {b : Nat} {rv : Value} {l : List PairD} (h : LawI F G B w b rv l) (hN : ∀ j (hj : j < l.length) k, l[j].foot k → k < N) (hBN : B ≤ N) {x : Nat} {S : Nat → Prop} {c : Nat} {R : Nat → Prop} {s : St}
    (hf : F w x S s) (hr : G w c R s) (hS : ∀ k, S k → N ≤ k) (hRk : ∀ k, R k → N ≤ k) {g cap : Nat}
    (ho : w6.ownsRow B 93 1 (.slice (some ⟨g, 0, none⟩) (l.length + 1) cap) (l.length + 1) (pbs l ++ [.pointer (some ⟨w.heap.size, 0, none⟩)]))
    (hg : ((w.alloc (.cells #[.pointer (some ⟨x, 0, none⟩), .pointer (some ⟨c, 0, none⟩)] 141)).alloc (.cells #[.pointer (some ⟨w.heap.size, 0, none⟩)] 93)).grownBy w6 rv.ownBlock) :
    LawI F G B (w6.setCell ⟨b, 0, none⟩ (.slice (some ⟨g, 0, none⟩) (l.length + 1) cap)) b (.slice (some ⟨g, 0, none⟩) (l.length + 1) cap) (l ++ [⟨w.heap.size, x, S, c, R, s⟩]) ∧ Below B w (w6.setCell ⟨b, 0, none⟩ (.slice (some ⟨g, 0, none⟩) (l.length + 1) cap)) := by
  obtain ⟨wa, hwa⟩ : ∃ wa, wa = (w.alloc (.cells #[.pointer (some ⟨x, 0, none⟩), .pointer (some ⟨c, 0, none⟩)] 141)).alloc (.cells #[.pointer (some ⟨w.heap.size, 0, none⟩)] 93) := ⟨_, rfl⟩
  have hba : Below w.heap.size w wa := by rw [hwa]; exact ((Below.refl _ w).alloc (Nat.le_refl _) _).alloc (by simp) _
  have hpa : Blk wa w.heap.size #[.pointer (some ⟨x, 0, none⟩), .pointer (some ⟨c, 0, none⟩)] 141 := by rw [hwa]; exact (Blk.new w _ _).alloc _
  rw [← hwa] at hg
  clear hwa
  have ha := h.below hP hQ hba
  have hda : PairD.At F G wa ⟨w.heap.size, x, S, c, R, s⟩ :=
    ⟨⟨_, hpa⟩, (hpa.cell 0).trans rfl, (hpa.cell 1).trans rfl, hP.below hf hba, hQ.below hr hba⟩
  have hcM : Chg (fun k => rv.ownBlock = some k ∨ k = b) wa (w6.setCell ⟨b, 0, none⟩ (.slice (some ⟨g, 0, none⟩) (l.length + 1) cap)) :=
    Chg.setCell (p := ⟨b, 0, none⟩) ((Chg.refl (fun k => rv.ownBlock = some k ∨ k = b) wa).grown hg (fun k hk => Or.inl (Or.inl hk))) (Or.inr rfl) _
  have hM : ∀ k, (rv.ownBlock = some k ∨ k = b) → k < wa.heap.size → Tagged wa k 54 ∨ Tagged wa k 93 := by
    rintro k (hk | rfl) _
    · exact Or.inr (ha.rowTag k hk)
    · exact Or.inl ⟨_, ha.blk⟩
  have hMB : ∀ k, (rv.ownBlock = some k ∨ k = b) → B ≤ k := by
    rintro k (hk | rfl)
    · exact (ha.row.lt k hk).1
    · exact h.bB
  have hbr : rv.ownBlock ≠ some b := fun e => Tagged.ne (ha.rowTag b e) ⟨_, ha.blk⟩ (by decide) rfl
  have hb6 : Blk w6 b #[rv, .bool false] 54 := (hg.block b ha.blk.lt (Ne.symm hbr)).trans ha.blk
  have hgb : g ≠ b := fun e => by
    subst e
    obtain ⟨_, ⟨h1, _⟩ | ⟨g', cp, cur, hv, _, hh, _⟩⟩ := ho
    · cases h1
    · simp only [Value.slice.injEq, Option.some.injEq, Addr.mk.injEq, true_and, and_true] at hv
      obtain ⟨rfl, rfl⟩ := hv
      exact absurd (blk_types hb6 hh).2 (by decide)
  have hlen : (l ++ [(⟨w.heap.size, x, S, c, R, s⟩ : PairD)]).length = l.length + 1 := by simp
  have hget : ∀ j (hj : j < l.length), (l ++ [(⟨w.heap.size, x, S, c, R, s⟩ : PairD)])[j]'(by rw [hlen]; omega) = l[j] := fun j hj => List.getElem_append_left hj
  have hlast : ∀ j (hj : j < (l ++ [(⟨w.heap.size, x, S, c, R, s⟩ : PairD)]).length), ¬ j < l.length → (l ++ [(⟨w.heap.size, x, S, c, R, s⟩ : PairD)])[j] = ⟨w.heap.size, x, S, c, R, s⟩ := fun j hj hn => by
    rw [List.getElem_append_right (by omega)]
    have : j - l.length = 0 := by rw [hlen] at hj; omega
    simp [this]
  have hfoot : ∀ k, PairD.foot ⟨w.heap.size, x, S, c, R, s⟩ k → N ≤ k := by
    rintro k (hk | hk)
    · exact hS k hk
    · exact hRk k hk
  refine ⟨⟨(h.glob.mono hba).chg4 hcM (fun k hk => Nat.le_trans h.b4 (hMB k hk)), h.b4, h.bB, ?_, ?_, fun j hj => ?_, fun j hj k hk => ?_, fun i j hi hj hij k hk => ?_⟩, ?_⟩
  · unfold Blk at hb6 ⊢
    simp [World.setCell, Array.getElem?_modify, hb6]
  · rw [hlen]
    have e : pbs (l ++ [(⟨w.heap.size, x, S, c, R, s⟩ : PairD)]) = pbs l ++ [.pointer (some ⟨w.heap.size, 0, none⟩)] := by simp [pbs]
    rw [e]
    exact ownsRow_setCell_other ho (a := ⟨b, 0, none⟩) (fun e => hgb (by simpa [Value.ownBlock] using e)) _
  · by_cases hlt : j < l.length
    · rw [hget j hlt]; exact (ha.pair j hlt).law hP hQ hcM hM
    · rw [hlast j hj hlt]; exact hda.law hP hQ hcM hM
  · by_cases hlt : j < l.length
    · rw [hget j hlt] at hk; exact h.foot j hlt k hk
    · rw [hlast j hj hlt] at hk; exact Nat.le_trans hBN (hfoot k hk)
  · by_cases hli : i < l.length
    · rw [hget i hli] at hk
      by_cases hlj : j < l.length
      · rw [hget j hlj]; exact h.apart i j hli hlj hij k hk
      · rw [hlast j hj hlj]; intro hm; have := hfoot k hm; have := hN i hli k hk; omega
    · rw [hlast i hi hli] at hk
      by_cases hlj : j < l.length
      · rw [hget j hlj]; intro hm; have := hfoot k hk; have := hN j hlj k hm; omega
      · rw [hlen] at hi hj; omega
  · have hBw : B ≤ w.heap.size := Nat.le_trans h.bB (Nat.le_of_lt h.blk.lt)
    exact (hba.mono hBw).trans ⟨hcM.os, hcM.tape, hcM.output, hcM.size, fun k hk => hcM.block k (by have := hba.size; omega) (fun hm => by have := hMB k hm; omega)⟩
end Go.Proofs.YtoiiaankpnhppaaGreatDoor
namespace Go.Proofs.YtoiiaankpnhppaaGreatDoor
open Go.RowKit
variable {F G : Stt}
structure RefNew (G : Stt) : Prop where
  good : ∀ (r room : Nat) (w : World), 1 ≤ r → r ≤ 6 → room ≤ 50 → Calls Tryz.prog 81 #[.int .i64 (r : Int), .int .i64 (room : Int)] w fun e w' => ∃ c R, e = .returned (.pointer (some ⟨c, 0, none⟩)) ∧ G w' c R ⟨[], List.replicate r [], []⟩ ∧ (∀ k, R k → w.heap.size ≤ k) ∧ Below w.heap.size w w'

theorem Tryz.infoPP : (Tryz.prog.info? 93).map (fun i => (i.zero, i.size, i.bytes)) = some (some (.pointer none), 1, 8) := by kernel_rfl

set_option maxHeartbeats 4000000 in
set_option maxRecDepth 100000 in
theorem made_any (hF : ProgOK F) (hV : RefNew G) (hP : ProgFrame F) (hQ : RefFrame G) (c B : Nat) (w : World) (b : Nat) (o : StepD) (ho : o.ok) (hcc : c < 1099511627776) (hJ : LawJ F G c B w b) :
    Calls Tryz.prog 46 #[.pointer (some ⟨b, 0, none⟩), o.val] w fun e w' => e = .returned (.bool true) ∧ LawJ F G (c + 1) B w' b ∧ Below B w w' := by
  obtain ⟨rv, l, hl, hI⟩ := hJ
  have HP : Hid (ProgFrame F) := hP
  have HQ : Hid (RefFrame G) := hQ
  have HVG : Hid (∀ (r room : Nat) (w : World), 1 ≤ r → r ≤ 6 → room ≤ 50 → _) := hV.good
  obtain ⟨iR, hiR, hzR0, hzR1, hzR2⟩ := info_parts Tryz.infoPP
  obtain ⟨k, a, n, m, s⟩ := o
  unfold StepD.val
  simp only at *
  have hb1 : Below w.heap.size w (w.alloc (.cells #[.int .i64 k, .int .i64 a, .int .i64 n, .int .i64 m, .string s] 56)) := (Below.refl _ w).alloc (Nat.le_refl _) _
  have hblk1 : Blk (w.alloc (.cells #[.int .i64 k, .int .i64 a, .int .i64 n, .int .i64 m, .string s] 56)) w.heap.size #[.int .i64 k, .int .i64 a, .int .i64 n, .int .i64 m, .string s] 56 := Blk.new w _ _
  have HN : Hid (∀ j (hj : j < l.length) i, l[j].foot i → i < w.heap.size) := fun j hj i hi => foot_lt hP hQ (hI.pair j hj) hi
  have hBw : B ≤ w.heap.size := Nat.le_trans hI.bB (Nat.le_of_lt hI.blk.lt)
  by_cases hbad : n < 1 ∨ 6 < n ∨ m < 0 ∨ 50 < m
  · have Hc : Hid (_) := hF.bad _ n m (hI.glob.mono hb1) hbad
    have HJ : Hid (∀ w', Below w.heap.size w w' → LawJ F G (c + 1) B w' b ∧ Below B w w') := fun w' hb => ⟨⟨rv, l, by omega, hI.below hP hQ hb⟩, hb.mono hBw⟩
    have Hb1 : Hid (_) := hb1
    have Hk1 : Hid (Blk (w.alloc (.cells #[.int .i64 k, .int .i64 a, .int .i64 n, .int .i64 m, .string s] 56)) w.heap.size #[.int .i64 k, .int .i64 a, .int .i64 n, .int .i64 m, .string s] 56) := hblk1
    clear hI ho hb1 hblk1 HN hF hV hP hQ HVG
    go_enter Tryz.func46, Tryz.ntmps46
    go_wp2_with fail
    refine Calls.mono Hc.out ?_
    rintro e w2 ⟨rfl, hb2⟩
    have q2 : w2.cell? ⟨w.heap.size, 2, none⟩ = some (.int .i64 n) := ((Hk1.out.below hb2).cell 2).trans rfl
    have q3 : w2.cell? ⟨w.heap.size, 3, none⟩ = some (.int .i64 m) := ((Hk1.out.below hb2).cell 3).trans rfl
    have HB2 : Hid (Below w.heap.size w w2) := Hb1.out.trans (hb2.mono Hb1.out.size)
    clear hb2 Hc Hb1 Hk1
    go_wp2_with fail
    refine Calls.mono (Fresh_bad n m w2 hbad) ?_
    rintro e w3 ⟨rfl, rfl⟩
    go_wp2_with (first | (go_at_call 82; refine (num_any _ _).mono ?_; rintro e w5 ⟨rfl, rfl⟩))
    go_ret
    exact ⟨rfl, HJ.out _ HB2.out⟩
  · obtain ⟨r, rfl⟩ := Int.eq_ofNat_of_zero_le (show 0 ≤ n by omega)
    obtain ⟨room, rfl⟩ := Int.eq_ofNat_of_zero_le (show 0 ≤ m by omega)
    have h1 : 1 ≤ r := by omega
    have h6 : r ≤ 6 := by omega
    have h50 : room ≤ 50 := by omega
    have Hc : Hid (_) := hF.good _ r room (hI.glob.mono hb1) h1 h6 h50
    have Hb1 : Hid (_) := hb1
    have Hk1 : Hid (Blk (w.alloc (.cells #[.int .i64 k, .int .i64 a, .int .i64 (r : Int), .int .i64 (room : Int), .string s] 56)) w.heap.size #[.int .i64 k, .int .i64 a, .int .i64 (r : Int), .int .i64 (room : Int), .string s] 56) := hblk1
    have HI : Hid (LawI F G B w b rv l) := hI
    have m1 : Hid (l.length + 1 ≤ maxLen) := by unfold Hid maxLen; omega
    have m2 : Hid ((l.length + 1) * 8 ≤ 140737488355328) := by unfold Hid; omega
    clear hI ho hb1 hblk1 hbad hF hV hP hQ
    go_enter Tryz.func46, Tryz.ntmps46
    go_wp2_with fail
    refine Calls.mono Hc.out ?_
    rintro e w2 ⟨x, S, rfl, hf, hS, hb2⟩
    have q2 : w2.cell? ⟨w.heap.size, 2, none⟩ = some (.int .i64 (r : Int)) := ((Hk1.out.below hb2).cell 2).trans rfl
    have q3 : w2.cell? ⟨w.heap.size, 3, none⟩ = some (.int .i64 (room : Int)) := ((Hk1.out.below hb2).cell 3).trans rfl
    have HB2 : Hid (Below w.heap.size w w2) := Hb1.out.trans (hb2.mono Hb1.out.size)
    have HF2 : Hid (F w2 x S ⟨[], List.replicate r [], []⟩) := hf
    have HS2 : Hid (∀ k, S k → w.heap.size ≤ k) := fun k hk => Nat.le_trans Hb1.out.size (hS k hk)
    clear hb2 Hc Hb1 Hk1 hf hS
    go_wp2_with fail
    refine Calls.mono (HVG.out r room w2 h1 h6 h50) ?_
    rintro e w3 ⟨cb, R, rfl, hr, hRb, hb3⟩
    have HB3 : Hid (Below w.heap.size w w3) := HB2.out.trans (hb3.mono HB2.out.size)
    have HF3 : Hid (F w3 x S ⟨[], List.replicate r [], []⟩) := HP.out.below HF2.out hb3
    have HR3 : Hid (_) := hr
    have Hrb : Hid (∀ k, R k → w.heap.size ≤ k) := fun k hk => Nat.le_trans HB2.out.size (hRb k hk)
    have HI3 : Hid (LawI F G B w3 b rv l) := HI.out.below HP.out HQ.out HB3.out
    have hbl : b < w3.heap.size := HI3.out.blk.lt
    have p0 : w3.cell? ⟨b, 0, none⟩ = some rv := (HI3.out.blk.cell 0).trans rfl
    have hB3 : B ≤ w3.heap.size := Nat.le_trans hBw HB3.out.size
    have HE : Hid (∀ o o', Blk ((w3.alloc o).alloc o') b #[rv, .bool false] 54) := fun o o' => (HI3.out.blk.alloc o).alloc o'
    have hne : Hid (rv.ownBlock ≠ some b) := fun e => Tagged.ne (HI3.out.rowTag b e) ⟨_, HI3.out.blk⟩ (by decide) rfl
    clear HB2 HF2 hr hb3 hRb q2 q3 HI
    go_wp2_with (first | (go_at_call 82; refine (num_any _ _).mono ?_; rintro e w5 ⟨rfl, rfl⟩) | (at_builtin; refine wpList_append_own _ rfl (.tmp 41) (.tmp 46) 52 rfl B 93 iR (.pointer none) 1 8 Tryz.underlying52 hiR hzR0 hzR1 hzR2 rfl (by decide) rv l.length (pbs l) rfl ((HI3.out.row.alloc _).alloc _) ⟨w5.heap.size + 1, 0, none⟩ 1 1 [.pointer (some ⟨w5.heap.size, 0, none⟩)] rfl rfl ?_ ?_ m1.out m2.out ?_ ?_; (intro j u hj; match j, hj with | 0, hj => (cases hj; simp [Addr.add])); (intro u hu; simp at hu; subst hu; rfl); (simp; omega); intro v6 w6 ho6 hg6 _; obtain ⟨g6, c6, rfl⟩ := own_some ho6 (Nat.succ_pos _); have k1 : w6.cell? ⟨b, 0, none⟩ = some rv := hg6.cell (((HE.out _ _).cell 0).trans rfl) (Ne.symm hne.out); have kf : w6.frozen? ⟨b, 0, none⟩ = false := Blk.frozen (cs := #[rv, .bool false]) (t := 54) ((hg6.block _ (HE.out _ _).lt (Ne.symm hne.out)).trans (HE.out _ _)) 0))
    go_ret
    obtain ⟨hL, hBe⟩ := HI3.out.more HP.out HQ.out HN.out hBw HF3.out HR3.out HS2.out Hrb.out ho6 hg6
    exact ⟨rfl, ⟨_, _, by simp; omega, hL⟩, (HB3.out.mono hBw).trans hBe⟩
end Go.Proofs.YtoiiaankpnhppaaGreatDoor
namespace Go.Proofs.YtoiiaankpnhppaaGreatDoor
open Go.RowKit
variable {F G : Stt}

set_option maxHeartbeats 400000 in
theorem pick_det (c : Int) (n : Nat) (h0 : -9223372036854775808 ≤ c) (h1 : c ≤ 9223372036854775807) (hn : 1 ≤ n) (hn2 : n ≤ 9223372036854775807) :
    ∃ j : Nat, j < n ∧ ∀ w : World, Calls Tryz.prog 47 #[.int .i64 c, .int .i64 (n : Int)] w fun r w' => r = .returned (.int .i64 (j : Int)) ∧ w' = w := by
  by_cases hc : c < 0
  · have e1 : IntKind.i64.wrap (c + 1) = c + 1 := wrap_in _ (by omega) (by omega)
    have e2 : IntKind.i64.wrap (-(c + 1)) = -(c + 1) := wrap_in _ (by omega) (by omega)
    obtain ⟨d, hd⟩ : ∃ d : Nat, -(c + 1) = (d : Int) := ⟨(-(c + 1)).toNat, by omega⟩
    have hnz : ((n : Int) == 0) = false := beq_eq_false_iff_ne.2 (by omega)
    have hnz' : ¬ n = 0 := by omega
    have e3 : (d : Int).tmod (n : Int) = ((d % n : Nat) : Int) := rfl
    have e4 : IntKind.i64.wrap ((d % n : Nat) : Int) = ((d % n : Nat) : Int) := wrap_in _ (by omega) (by have := Nat.mod_lt d (show n > 0 by omega); omega)
    refine ⟨d % n, Nat.mod_lt _ (by omega), fun w => ?_⟩
    go_enter Tryz.func47, Tryz.ntmps47
    go_wp2
    go_ret
    exact ⟨by first | rfl | (rw [Int.natCast_emod]; rfl), rfl⟩
  · obtain ⟨d, rfl⟩ : ∃ d : Nat, c = (d : Int) := ⟨c.toNat, by omega⟩
    have hnz : ((n : Int) == 0) = false := beq_eq_false_iff_ne.2 (by omega)
    have hnz' : ¬ n = 0 := by omega
    have e3 : (d : Int).tmod (n : Int) = ((d % n : Nat) : Int) := rfl
    have e4 : IntKind.i64.wrap ((d % n : Nat) : Int) = ((d % n : Nat) : Int) := wrap_in _ (by omega) (by have := Nat.mod_lt d (show n > 0 by omega); omega)
    refine ⟨d % n, Nat.mod_lt _ (by omega), fun w => ?_⟩
    go_enter Tryz.func47, Tryz.ntmps47
    go_wp2
    go_ret
    exact ⟨by first | rfl | (rw [Int.natCast_emod]; rfl), rfl⟩

set_option maxHeartbeats 4000000 in
set_option maxRecDepth 100000 in
theorem step_any (hF : ProgOK F) (hR : RefOK G) (hV : RefNew G) (hP : ProgFrame F) (hQ : RefFrame G) (c B : Nat) (w : World) (b : Nat) (o : StepD) (ho : o.ok) (hk4 : o.kind ≤ 7) (hcc : c < 1099511627776) (hJ : LawJ F G c B w b) :
    Calls Tryz.prog 26 #[.pointer (some ⟨b, 0, none⟩), o.val] w fun e w' => e = .returned (.bool true) ∧ LawJ F G (c + 1) B w' b ∧ Below B w w' := by
  have hBw : B ≤ w.heap.size := by obtain ⟨rv, l, _, hI⟩ := hJ; exact Nat.le_trans hI.bB (Nat.le_of_lt hI.blk.lt)
  have hJb : ∀ wx, Below w.heap.size w wx → LawJ F G c B wx b := fun wx hb => by obtain ⟨rv, l, hl, hI⟩ := hJ; exact ⟨rv, l, hl, hI.below hP hQ hb⟩
  by_cases hk1 : o.kind = 1
  · have HM : Hid (∀ wx, Below w.heap.size w wx → Calls Tryz.prog 46 #[.pointer (some ⟨b, 0, none⟩), .agg #[.int .i64 o.kind, .int .i64 o.a, .int .i64 o.n, .int .i64 o.m, .string o.s]] wx fun e w' => e = .returned (.bool true) ∧ LawJ F G (c + 1) B w' b ∧ Below B w w') := fun wx hb => by
      refine Calls.mono (made_any hF hV hP hQ c B wx b o ho hcc (hJb wx hb)) ?_
      rintro e w' ⟨rfl, h1, h2⟩
      exact ⟨rfl, h1, (hb.mono hBw).trans h2⟩
    unfold StepD.val
    obtain ⟨k, a, n, m, s⟩ := o
    simp only at *
    subst hk1
    clear ho hJ hJb hk4 hF hR hV hP hQ
    go_enter Tryz.func26, Tryz.ntmps26
    go_wp2_with fail
    refine Calls.mono (HM.out _ ((Below.refl _ w).alloc (Nat.le_refl _) _)) ?_
    rintro e w2 ⟨rfl, h1, h2⟩
    have H : Hid (LawJ F G (c + 1) B w2 b ∧ Below B w w2) := ⟨h1, h2⟩
    clear HM h1 h2
    go_wp2
    go_ret
    exact ⟨rfl, H.out⟩
  · obtain ⟨rv, l, hl, hI⟩ := hJ
    by_cases hl0 : l.length = 0
    · have hrv : rv = .slice none 0 0 ∨ ∃ g cap, rv = .slice (some ⟨g, 0, none⟩) 0 cap := by
        obtain ⟨_, ⟨h1, _⟩ | ⟨g, cap, cur, h1, _⟩⟩ := hI.row
        · exact Or.inl h1
        · rw [hl0] at h1; exact Or.inr ⟨g, cap, h1⟩
      have HJ : Hid (∀ wx, Below w.heap.size w wx → LawJ F G (c + 1) B wx b ∧ Below B w wx) := fun wx hb => ⟨⟨rv, l, by omega, hI.below hP hQ hb⟩, hb.mono hBw⟩
      have hbl := hI.blk.lt
      have p0 : ∀ ob, (w.alloc ob).cell? ⟨b, 0, none⟩ = some rv := fun ob => ((hI.blk.alloc ob).cell 0).trans rfl
      unfold StepD.val
      obtain ⟨k, a, n, m, s⟩ := o
      simp only at *
      have kk : (k == 1) = false := beq_eq_false_iff_ne.2 hk1
      have hb1 : Hid (∀ ob, Below w.heap.size w (w.alloc ob)) := fun ob => (Below.refl _ w).alloc (Nat.le_refl _) ob
      clear ho hJb hk4 hI hF hR hV hP hQ
      rcases hrv with rfl | ⟨g, cap, rfl⟩
      · go_enter Tryz.func26, Tryz.ntmps26
        go_wp2
        go_ret
        exact ⟨rfl, HJ.out _ (hb1.out _)⟩
      · go_enter Tryz.func26, Tryz.ntmps26
        go_wp2
        go_ret
        exact ⟨rfl, HJ.out _ (hb1.out _)⟩
    · obtain ⟨g, cap, rfl⟩ := own_some hI.row (by omega)
      obtain ⟨j, hj, hpick⟩ := pick_det o.a l.length ho.2.1.1 ho.2.1.2 (by omega) (by omega)
      have HPk : Hid (_) := hpick
      have hS4 : (∀ i, l[j].S i → 4 ≤ i) ∧ (∀ i, l[j].R i → 4 ≤ i) := ⟨fun i hi => Nat.le_trans hI.b4 (hI.foot j hj i (Or.inl hi)), fun i hi => Nat.le_trans hI.b4 (hI.foot j hj i (Or.inr hi))⟩
      have HT : Hid (∀ wx, Below w.heap.size w wx → (o.kind = 3 ∨ o.kind = 4) → Calls Tryz.prog 48 #[.pointer (some ⟨l[j].pb, 0, none⟩), .agg #[.int .i64 o.kind, .int .i64 o.a, .int .i64 o.n, .int .i64 o.m, .string o.s]] wx fun e w' => e = .returned (.bool true) ∧ LawJ F G (c + 1) B w' b ∧ Below B w w') := fun wx hb hk => by
        have hIx := hI.below hP hQ hb
        rcases hk with hk | hk
        · refine Calls.mono (tells_ask hF hR hP hQ wx hIx.glob _ _ _ _ _ _ (hIx.pair j hj) hS4 o ho hk) ?_
          rintro e w' ⟨rfl, h2⟩
          obtain ⟨h3, h4⟩ := hIx.told hP hQ (show l.length ≤ c + 1 by omega) j hj h2
          exact ⟨rfl, h3, (hb.mono hBw).trans h4⟩
        · refine Calls.mono (tells_knows hF hR hP hQ wx hIx.glob _ _ _ _ _ _ (hIx.pair j hj) hS4 o ho hk) ?_
          rintro e w' ⟨rfl, h2⟩
          obtain ⟨h3, h4⟩ := hIx.told hP hQ (show l.length ≤ c + 1 by omega) j hj h2
          exact ⟨rfl, h3, (hb.mono hBw).trans h4⟩
      have HU : Hid (∀ wx, Below w.heap.size w wx → (o.kind = 2 ∨ o.kind ≤ 0) → Calls Tryz.prog 52 #[.pointer (some ⟨l[j].pb, 0, none⟩), .agg #[.int .i64 o.kind, .int .i64 o.a, .int .i64 o.n, .int .i64 o.m, .string o.s]] wx fun e w' => e = .returned (.bool true) ∧ LawJ F G (c + 1) B w' b ∧ Below B w w') := fun wx hb hk => by
        have hIx := hI.below hP hQ hb
        rcases hk with hk | hk
        · refine Calls.mono (turns_do hF hR hP hQ wx hIx.glob _ _ _ _ _ _ (hIx.pair j hj) hS4 o ho hk) ?_
          rintro e w' ⟨rfl, s', h2⟩
          obtain ⟨h3, h4⟩ := hIx.told hP hQ (show l.length ≤ c + 1 by omega) j hj h2
          exact ⟨rfl, h3, (hb.mono hBw).trans h4⟩
        · refine Calls.mono (turns_idle wx _ o hk) ?_
          rintro e w' ⟨rfl, h2⟩
          have hb2 := hb.trans (h2.mono hb.size)
          exact ⟨rfl, ⟨_, _, by omega, hI.below hP hQ hb2⟩, hb2.mono hBw⟩
      have HFm : Hid (∀ wx, Below w.heap.size w wx → Calls Tryz.prog 49 #[.pointer (some ⟨b, 0, none⟩), .pointer (some ⟨l[j].pb, 0, none⟩), .int .i64 o.n] wx fun e w' => e = .returned (.bool true) ∧ LawJ F G (c + 1) B w' b ∧ Below B w w') := fun wx hb => by
        have hIx := hI.below hP hQ hb
        refine Calls.mono (frame_any hF hR hP hQ wx hIx.glob _ _ _ _ _ _ (hIx.pair j hj) hS4 b ((hIx.blk.cell 1).trans rfl) (hIx.notB hP hQ j hj) hIx.blk.lt o.n) ?_
        rintro e w' ⟨rfl, h2⟩
        obtain ⟨h3, h4⟩ := hIx.told hP hQ (show l.length ≤ c + 1 by omega) j hj h2
        exact ⟨rfl, h3, (hb.mono hBw).trans h4⟩
      have HFs : Hid (∀ wx, Below w.heap.size w wx → (o.kind = 5 ∨ o.kind = 7) → Calls Tryz.prog 50 #[.pointer (some ⟨b, 0, none⟩), .pointer (some ⟨l[j].pb, 0, none⟩), .agg #[.int .i64 o.kind, .int .i64 o.a, .int .i64 o.n, .int .i64 o.m, .string o.s]] wx fun e w' => e = .returned (.bool true) ∧ LawJ F G (c + 1) B w' b ∧ Below B w w') := fun wx hb hk => by
        have hIx := hI.below hP hQ hb
        refine Calls.mono (frames_any hF hR hP hQ wx hIx.glob _ _ _ _ _ _ (hIx.pair j hj) hS4 b ((hIx.blk.cell 1).trans rfl) (hIx.notB hP hQ j hj) hIx.blk.lt o ho hk) ?_
        rintro e w' ⟨rfl, s', h2⟩
        obtain ⟨h3, h4⟩ := hIx.told hP hQ (show l.length ≤ c + 1 by omega) j hj h2
        exact ⟨rfl, h3, (hb.mono hBw).trans h4⟩
      have Hp0 : Hid (∀ ob, (w.alloc ob).cell? ⟨b, 0, none⟩ = some (.slice (some ⟨g, 0, none⟩) l.length cap)) := fun ob => ((hI.blk.alloc ob).cell 0).trans rfl
      have Hg : Hid (∀ ob, (w.alloc ob).cell? ⟨g, j, none⟩ = some (.pointer (some ⟨l[j].pb, 0, none⟩))) := fun ob => by
        have h2 := (hI.row.alloc ob).cellAt j (by omega)
        rw [h2]; simp [pbs, hj]
      have hbl := hI.blk.lt
      have hlm : l.length ≤ 1099511627776 := by omega
      have hb1 : Hid (∀ ob, Below w.heap.size w (w.alloc ob).drew) := fun ob => ((Below.refl _ w).alloc (Nat.le_refl _) ob).drew
      unfold StepD.val
      obtain ⟨k, a, n, m, s⟩ := o
      simp only at *
      clear ho hJb hI hS4 hpick hF hR hV hP hQ
      have kk : (k == 1) = false := beq_eq_false_iff_ne.2 hk1
      have p0 := Hp0.out (.cells #[.int .i64 k, .int .i64 a, .int .i64 n, .int .i64 m, .string s] 56)
      have pg := Hg.out (.cells #[.int .i64 k, .int .i64 a, .int .i64 n, .int .i64 m, .string s] 56)
      have hbz := hb1.out (.cells #[.int .i64 k, .int .i64 a, .int .i64 n, .int .i64 m, .string s] 56)
      have kb : Blk (w.alloc (.cells #[.int .i64 k, .int .i64 a, .int .i64 n, .int .i64 m, .string s] 56)) w.heap.size #[.int .i64 k, .int .i64 a, .int .i64 n, .int .i64 m, .string s] 56 := Blk.new w _ _
      have s0 := (kb.cell 0).trans rfl
      have s1 := (kb.cell 1).trans rfl
      have s2 := (kb.cell 2).trans rfl
      have s3 := (kb.cell 3).trans rfl
      have s4 := (kb.cell 4).trans rfl
      clear kb Hp0 Hg hb1
      generalize l[j].pb = pb at *
      go_enter Tryz.func26, Tryz.ntmps26
      go_wp2_with fail
      generalize w.alloc (.cells #[.int .i64 k, .int .i64 a, .int .i64 n, .int .i64 m, .string s] 56) = w2 at *
      have hsm : Hid (∀ e : Nat, e < l.length → (e : Int) < (l.length : Int)) := fun e he => by omega
      go_region_held3 (fun w' => w' = w2.drew ∧ w'.cell? ⟨b, 0, none⟩ = some (.slice (some ⟨g, 0, none⟩) l.length cap) ∧ w'.cell? ⟨g, j, none⟩ = some (.pointer (some ⟨pb, 0, none⟩)) ∧ w'.cell? ⟨w.heap.size, 1, none⟩ = some (.int .i64 a)) ((refine ⟨?_, ?_, ?_, ?_⟩ <;> (first | rfl | assumption))) (first | (go_at_call 47; refine Calls.mono (HPk.out _) ?_; rintro e w3 ⟨rfl, rfl⟩))
      clear HPk
      have hcs : k = 3 ∨ k = 4 ∨ k = 2 ∨ k = 5 ∨ k = 6 ∨ k = 7 ∨ k ≤ 0 := by omega
      rcases hcs with rfl | rfl | rfl | rfl | rfl | rfl | hk0
      · go_wp2_with fail
        refine Calls.mono (HT.out _ hbz (by simp)) ?_
        rintro e w3 ⟨rfl, h1, h2⟩
        have H : Hid (LawJ F G (c + 1) B w3 b ∧ Below B w w3) := ⟨h1, h2⟩
        clear HT HU h1 h2
        go_wp2_with fail
        go_ret
        exact ⟨rfl, H.out⟩
      · go_wp2_with fail
        refine Calls.mono (HT.out _ hbz (by simp)) ?_
        rintro e w3 ⟨rfl, h1, h2⟩
        have H : Hid (LawJ F G (c + 1) B w3 b ∧ Below B w w3) := ⟨h1, h2⟩
        clear HT HU h1 h2
        go_wp2_with fail
        go_ret
        exact ⟨rfl, H.out⟩
      · go_wp2_with fail
        refine Calls.mono (HU.out _ hbz (by simp)) ?_
        rintro e w3 ⟨rfl, h1, h2⟩
        have H : Hid (LawJ F G (c + 1) B w3 b ∧ Below B w w3) := ⟨h1, h2⟩
        clear HT HU h1 h2
        go_wp2_with fail
        go_ret
        exact ⟨rfl, H.out⟩
      · go_wp2_with fail
        refine Calls.mono (HFs.out _ hbz (by simp)) ?_
        rintro e w3 ⟨rfl, h1, h2⟩
        have H : Hid (LawJ F G (c + 1) B w3 b ∧ Below B w w3) := ⟨h1, h2⟩
        clear HT HU HFm HFs h1 h2
        go_wp2_with fail
        go_ret
        exact ⟨rfl, H.out⟩
      · go_wp2_with fail
        refine Calls.mono (HFm.out _ hbz) ?_
        rintro e w3 ⟨rfl, h1, h2⟩
        have H : Hid (LawJ F G (c + 1) B w3 b ∧ Below B w w3) := ⟨h1, h2⟩
        clear HT HU HFm HFs h1 h2
        go_wp2_with fail
        go_ret
        exact ⟨rfl, H.out⟩
      · go_wp2_with fail
        refine Calls.mono (HFs.out _ hbz (by simp)) ?_
        rintro e w3 ⟨rfl, h1, h2⟩
        have H : Hid (LawJ F G (c + 1) B w3 b ∧ Below B w w3) := ⟨h1, h2⟩
        clear HT HU HFm HFs h1 h2
        go_wp2_with fail
        go_ret
        exact ⟨rfl, H.out⟩
      · have k3 : (k == 3) = false := beq_eq_false_iff_ne.2 (by omega)
        have k4 : (k == 4) = false := beq_eq_false_iff_ne.2 (by omega)
        have k9 : (k == 9) = false := beq_eq_false_iff_ne.2 (by omega)
        have k6 : (k == 6) = false := beq_eq_false_iff_ne.2 (by omega)
        have k5 : (k == 5) = false := beq_eq_false_iff_ne.2 (by omega)
        have k7 : (k == 7) = false := beq_eq_false_iff_ne.2 (by omega)
        have k8 : (k == 8) = false := beq_eq_false_iff_ne.2 (by omega)
        have n3 : ¬ k = 3 := by omega
        have n4 : ¬ k = 4 := by omega
        have n9 : ¬ k = 9 := by omega
        have n6 : ¬ k = 6 := by omega
        have n5 : ¬ k = 5 := by omega
        have n7 : ¬ k = 7 := by omega
        have n8 : ¬ k = 8 := by omega
        go_wp2_with fail
        refine Calls.mono (HU.out _ hbz (Or.inr hk0)) ?_
        rintro e w3 ⟨rfl, h1, h2⟩
        have H : Hid (LawJ F G (c + 1) B w3 b ∧ Below B w w3) := ⟨h1, h2⟩
        clear HT HU h1 h2
        go_wp2_with fail
        go_ret
        exact ⟨rfl, H.out⟩

theorem law_ok (hF : ProgOK F) (hR : RefOK G) (hV : RefNew G) (hP : ProgFrame F) (hQ : RefFrame G) : LawOK 7 (LawJ F G) := {
  heads := fun w hG => heads_any hF w hG
  start := fun w hG => ⟨.slice none 0 0, [], Nat.le_refl _, hG.mono ((Below.refl _ w).alloc (Nat.le_refl _) _), hG.size, Nat.le_refl _, Blk.new w _ _, World.ownsRow_nil _ _ _ _, fun j h => absurd h (by simp), fun j h => absurd h (by simp), fun i j h => absurd h (by simp)⟩
  step := fun c B w b o ho hk hc hJ => step_any hF hR hV hP hQ c B w b o ho hk hc hJ }
end Go.Proofs.YtoiiaankpnhppaaGreatDoor
namespace Go.Proofs.YtoiiaankpnhppaaGreatDoor
open Go.RowKit Go.Maps Go.WideMaps

theorem Thk.read_fit (l : Thk.Bs) (c : Thk.Ch) (h : Thk.read l = .inr c) : Thk.fits (Thk.kindOf c.path) c.act = true := by
  unfold Thk.read at h
  split at h
  · cases h
  · unfold Thk.readAt at h
    split at h
    · cases h
    · split at h
      · cases h
      · rename_i h3
        have e := operand_inr h
        rw [e]
        simpa using h3
theorem fit_of {e : Ev} {t : Thk.Bs} (h : Thk.read t = .inr (chOf e)) : EvFit e := by
  obtain ⟨p1, p2, p3, p4, _⟩ := Thk.read_ok _ _ h
  have hf := Thk.read_fit _ _ h
  unfold chOf at p1 p2 p3 p4 hf
  simp only at p1 p2 p3 p4 hf
  exact ⟨hf, by rw [← toL_length]; omega, by rw [← toL_length]; omega, by omega, by omega⟩

def FrTie (es : List Ev) (D : List Nat) (n : Nat) (b : Nat × ByteArray) (f : FrD) : Prop :=
  b.1 = f.dst ∧ b.2 = f.bytes ∧ f.dst < n ∧ f.src < n ∧ f.bytes.size ≤ 1000000000 ∧ (0 < f.ack → toL f.bytes = encA f.src) ∧ (¬ 0 < f.ack → ∃ K2 C2, Kn es D f.known K2 C2 ∧ ByBr f.bytes f.src K2 C2)

structure CluF (w : World) (x : Nat) (S : Nat → Prop) (s : St) (q cap : Nat) (fv : Value) (ds : List RepD) (bs : List (Nat × ByteArray)) (D : List Nat) : Prop where
  clu : CluP w x q cap fv 0 ds bs
  own : ∀ k, S k ↔ k = x ∨ k = q ∨ fv.ownBlock = some k ∨ ∃ j, ∃ h : j < ds.length, ds[j].own k
  len : s.kn.length = ds.length
  evd : EvD s.es D ds.length
  tie : ∀ j (h : j < ds.length), Kn s.es D (s.kn.getD j []) ds[j].K ds[j].C
  mine : ∀ j (h : j < ds.length) d, d ∈ D → who d = j → nth d ≤ ds[j].K j
  sum : sumN ds ds.length = s.es.length
  e500 : s.es.length ≤ 500
  src : ∀ e ∈ s.es, ∃ t, Thk.read t = .inr (chOf e)
  blen : bs.length = s.fs.length
  frs : ∀ j (h : j < bs.length) (h' : j < s.fs.length), FrTie s.es D ds.length bs[j] s.fs[j]
def ProgF (w : World) (x : Nat) (S : Nat → Prop) (s : St) : Prop := ∃ q cap fv ds bs D, CluF w x S s q cap fv ds bs D

theorem CluF.tagS {w : World} {x : Nat} {S : Nat → Prop} {s : St} {q cap : Nat} {fv : Value} {ds : List RepD} {bs : List (Nat × ByteArray)} {D : List Nat} (h : CluF w x S s q cap fv ds bs D) {k : Nat} (hk : S k) {t : TypeId} (ht : Tagged w k t) : t = 74 ∨ t = 76 ∨ t = 112 ∨ t = 92 := by
  rcases (h.own k).1 hk with rfl | rfl | hk | ⟨j, hj, ho⟩
  · exact Or.inl (blk_tag h.clu.blk ht)
  · obtain ⟨cs, r1, _⟩ := h.clu.row
    exact Or.inr (Or.inl (blk_tag r1 ht))
  · exact Or.inr (Or.inr (Or.inr (tag_same ht (h.clu.frT k hk))))
  · exact Or.inr (Or.inr (Or.inl (h.clu.repTag j hj ho ht)))
theorem prog_frame : ProgFrame ProgF := {
  stable := by
    rintro M w w' x S s ⟨q, cap, fv, ds, bs, D, h⟩ hc hm
    exact ⟨q, cap, fv, ds, bs, D, h.clu.chg hc (hm x ((h.own x).2 (Or.inl rfl))) (hm q ((h.own q).2 (Or.inr (Or.inl rfl)))) (fun j hj k hk => hm k ((h.own k).2 (Or.inr (Or.inr (Or.inr ⟨j, hj, hk⟩))))) (fun g hg => hm g ((h.own g).2 (Or.inr (Or.inr (Or.inl hg))))), h.own, h.len, h.evd, h.tie, h.mine, h.sum, h.e500, h.src, h.blen, h.frs⟩
  tags := by
    rintro w x S s k t ⟨q, cap, fv, ds, bs, D, h⟩ hk ht
    have key := h.tagS hk ht
    unfold isRef
    rcases key with rfl | rfl | rfl | rfl <;> decide
  lt := by
    rintro w x S s k ⟨q, cap, fv, ds, bs, D, h⟩ hk
    rcases (h.own k).1 hk with rfl | rfl | hk | ⟨j, hj, ho⟩
    · exact h.clu.blk.lt
    · obtain ⟨cs, r1, _⟩ := h.clu.row
      exact r1.lt
    · exact (h.clu.frT k hk).lt
    · have hr := h.clu.rep j hj
      rcases ho with rfl | ho | ho | ho
      · exact hr.blk.lt
      · exact hr.st.lt k (Or.inl (by rw [ho]))
      · exact hr.st.lt k (Or.inr (Or.inl (by rw [ho])))
      · exact hr.st.lt k (Or.inr (Or.inr (by rw [ho]))) }

theorem ownN_set (ds : List RepD) (k : Nat) (hk : k < ds.length) (d : RepD) (j : Nat) : ownN (ds.set k d) j = if j = k then d.K k else ownN ds j := by
  unfold ownN
  rw [List.getElem?_set]
  by_cases e : k = j
  · subst e; simp [hk]
  · rw [if_neg e, if_neg (fun h => e h.symm)]
theorem sumN_set (ds : List RepD) (k : Nat) (hk : k < ds.length) (d : RepD) : ∀ m, sumN (ds.set k d) m + (if k < m then ds[k].K k else 0) = sumN ds m + (if k < m then d.K k else 0)
  | 0 => by simp [sumN]
  | m + 1 => by
    have ih := sumN_set ds k hk d m
    rw [sumN, sumN, ownN_set ds k hk]
    by_cases e : m = k
    · subst e
      rw [if_pos rfl, if_pos (by omega), if_pos (by omega)]
      rw [if_neg (by omega), if_neg (by omega)] at ih
      rw [ownN_eq ds m hk]
      omega
    · rw [if_neg e]
      by_cases h2 : k < m
      · rw [if_pos h2, if_pos h2] at ih
        rw [if_pos (by omega), if_pos (by omega)]
        omega
      · rw [if_neg h2, if_neg h2] at ih
        rw [if_neg (by omega), if_neg (by omega)]
        omega
theorem sumN_new (rbs : List Nat) : ∀ k, sumN (rbs.map fun b => ⟨b, none, none, none, fun _ => 0, fun _ => none⟩) k = 0
  | 0 => rfl
  | k + 1 => by
    rw [sumN, sumN_new rbs k]
    unfold ownN
    rw [List.getElem?_map]
    cases rbs[k]? <;> simp
theorem getD_set (kn : List (List Bool)) (k : Nat) (hk : k < kn.length) (a : List Bool) (j : Nat) : (kn.set k a).getD j [] = if k = j then a else kn.getD j [] := by
  rw [List.getD_eq_getElem?_getD, List.getElem?_set]
  by_cases e : k = j
  · subst e; simp [hk]
  · rw [if_neg e, if_neg e, List.getD_eq_getElem?_getD]

theorem Kn.congr {es : List Ev} {D : List Nat} {known k2 : List Bool} {K : Nat → Nat} {C : Nat → Option Thk.Ch} (h : Kn es D known K C) (hl : k2.length ≤ es.length) (hk : ∀ i, k2.getD i false = known.getD i false) : Kn es D k2 K C := by
  have ha : ∀ i, alive es k2 i = true ↔ alive es known i = true := fun i => by
    rw [alive_iff, alive_iff, hk]
    refine and_congr_right fun _ => and_congr_right fun _ => ⟨fun h d h1 h2 h3 => h d h1 h2 (by rw [hk]; exact h3), fun h d h1 h2 h3 => h d h1 h2 (by rw [← hk]; exact h3)⟩
  refine ⟨hl, fun i d hd => by rw [hk]; exact h.vec i d hd, h.all, fun d e i he h1 h2 => by rw [hk] at h1 ⊢; exact h.cl d e i he h1 h2, fun i d hd => ?_, h.c2⟩
  rw [h.c1 i d hd]
  by_cases h1 : alive es known i = true
  · rw [if_pos h1, if_pos ((ha i).2 h1)]
  · rw [if_neg h1, if_neg (fun h2 => h1 ((ha i).1 h2))]
theorem cnt_lt_or : ∀ (a b : List Bool) (N : Nat), (∀ i, a.getD i false = true → b.getD i false = true) → a.length ≤ N → b.length ≤ N → cnt a ≤ cnt b ∧ (¬ cnt a < cnt b → ∀ i, b.getD i false = a.getD i false) := by
  intro a b N h ha hb
  rw [← cnt_range a N ha, ← cnt_range b N hb]
  have hsub : ∀ (l : List Nat), (l.filter fun k => a.getD k false).length ≤ (l.filter fun k => b.getD k false).length ∧ (¬ (l.filter fun k => a.getD k false).length < (l.filter fun k => b.getD k false).length → ∀ i ∈ l, b.getD i false = a.getD i false) := by
    intro l
    induction l with
    | nil => simp
    | cons x r ih =>
      obtain ⟨i1, i2⟩ := ih
      cases hax : a.getD x false with
      | true =>
        have hbx := h x hax
        rw [List.filter_cons_of_pos (by simpa using hax), List.filter_cons_of_pos (by simpa using hbx), List.length_cons, List.length_cons]
        refine ⟨by omega, fun h3 i hi => ?_⟩
        rcases List.mem_cons.1 hi with rfl | hi
        · rw [hax, hbx]
        · exact i2 (by omega) i hi
      | false =>
        rw [List.filter_cons_of_neg (by rw [hax]; simp)]
        cases hbx : b.getD x false with
        | true =>
          rw [List.filter_cons_of_pos (by simpa using hbx), List.length_cons]
          exact ⟨by omega, fun h3 => by omega⟩
        | false =>
          rw [List.filter_cons_of_neg (by rw [hbx]; simp)]
          refine ⟨i1, fun h3 i hi => ?_⟩
          rcases List.mem_cons.1 hi with rfl | hi
          · rw [hax, hbx]
          · exact i2 h3 i hi
  obtain ⟨s1, s2⟩ := hsub (List.range N)
  refine ⟨s1, fun h3 i => ?_⟩
  by_cases hi : i < N
  · exact s2 h3 i (List.mem_range.2 hi)
  · rw [getD_len (by omega), getD_len (known := a) (by omega)]
theorem delK_getD (a b : List Bool) (i : Nat) : (delK a b).getD i false = (bothL a b).getD i false := by
  unfold delK
  by_cases h : cnt a < cnt (bothL a b)
  · rw [if_pos h]
  · rw [if_neg h]
    have := (cnt_lt_or a (bothL a b) (max a.length b.length) (fun i hi => by rw [bothL_getD, hi]; rfl) (by omega) (by rw [bothL_len]; omega)).2 h i
    exact this.symm
theorem delK_len (a b : List Bool) (N : Nat) (ha : a.length ≤ N) (hb : b.length ≤ N) : (delK a b).length ≤ N := by
  unfold delK
  split
  · rw [bothL_len]; omega
  · exact ha
theorem Kn.repB {es : List Ev} {D : List Nat} {n : Nat} {known : List Bool} {K : Nat → Nat} {C : Nat → Option Thk.Ch} (h : Kn es D known K C) (hE : EvD es D n) (he : es.length ≤ 500) (hs : ∀ e ∈ es, ∃ t, Thk.read t = .inr (chOf e)) : RepB K C := by
  refine ⟨h.ns hE he, fun w v N hm => ?_, h.chs hs⟩
  have hall : AllOf (itOf C) (D.filter fun d => (C d).isSome) := by
    refine ⟨List.Pairwise.filter _ hE.nd, fun d => ?_⟩
    rw [List.mem_filter, itOf_none]
    constructor
    · rintro ⟨_, h1⟩ h2
      rw [h2] at h1; cases h1
    · intro h1
      obtain ⟨i, e, h2, _⟩ := h.sup h1
      exact ⟨List.mem_of_getElem? h2, by cases hc : C d with
        | none => exact absurd hc h1
        | some c => rfl⟩
  have hx := sAll_of hall (fun n v hv => itOf_item hv)
  have h1 := all_len hm hx
  have h2 := h.xs hE he hx
  omega

section
variable {w w' : World} {x : Nat} {S : Nat → Prop} {s : St} {q cap : Nat} {fv : Value} {ds : List RepD} {bs : List (Nat × ByteArray)} {D : List Nat}
theorem CluF.keep (h : CluF w x S s q cap fv ds bs D) (hc : CluP w' x q cap fv 0 ds bs) : ProgF w' x S s := ⟨q, cap, fv, ds, bs, D, hc, h.own, h.len, h.evd, h.tie, h.mine, h.sum, h.e500, h.src, h.blen, h.frs⟩
theorem CluF.sx (h : CluF w x S s q cap fv ds bs D) (hc : Chg (fun k => k = x) w w') : Chg S w w' := hc.wide (fun k e => (h.own k).2 (Or.inl e))
theorem CluF.done (h : CluF w x S s q cap fv ds bs D) {t : Thk.Bs} {c : Thk.Ch} (hr : Thk.read t = .inr c) {k : Nat} (hk : k < ds.length) (hl : s.es.length < 500) {e : Ev}
    (e1 : toL e.p = c.path) (e2 : e.a = c.act) (e3 : toL e.v = c.val) (e4 : e.n = c.n) (e5 : e.saw = s.kn.getD k []) {io co lo : Nat} (hn : w.heap.size ≤ io ∧ w.heap.size ≤ co ∧ w.heap.size ≤ lo)
    (hc : CluP w' x q cap fv 0 (ds.set k ⟨ds[k].rb, some io, some co, some lo, inc ds[k].K k, stepC ds[k].C c (mkD k (ds[k].K k + 1))⟩) bs) :
    ∃ S', ProgF w' x S' ⟨s.es ++ [e], s.kn.set k (moreOf (s.kn.getD k []) s.es.length), s.fs⟩ ∧ ∀ b, S' b → S b ∨ w.heap.size ≤ b := by
  have hch : chOf e = c := by unfold chOf; rw [e1, e2, e3, e4]
  have hkt := h.tie k hk
  have hKe := hkt.dle h.evd k
  have hK5 : ds[k].K k + 1 ≤ 500 := by omega
  have hwd : who (mkD k (ds[k].K k + 1)) = k := who_mk (by omega)
  have hnd : nth (mkD k (ds[k].K k + 1)) = ds[k].K k + 1 := nth_mk (by omega)
  have hnew : mkD k (ds[k].K k + 1) ∉ D := fun hm => by
    have := h.mine k hk _ hm hwd
    rw [hnd] at this
    omega
  have h6 := h.clu.len
  have hget : ∀ j (hj : j < ds.length), (ds.set k ⟨ds[k].rb, some io, some co, some lo, inc ds[k].K k, stepC ds[k].C c (mkD k (ds[k].K k + 1))⟩)[j]'(by simpa using hj) = if k = j then ⟨ds[k].rb, some io, some co, some lo, inc ds[k].K k, stepC ds[k].C c (mkD k (ds[k].K k + 1))⟩ else ds[j] := fun j hj => by rw [List.getElem_set]
  refine ⟨fun b => b = x ∨ b = q ∨ fv.ownBlock = some b ∨ ∃ j, ∃ h : j < (ds.set k ⟨ds[k].rb, some io, some co, some lo, inc ds[k].K k, stepC ds[k].C c (mkD k (ds[k].K k + 1))⟩).length, (ds.set k ⟨ds[k].rb, some io, some co, some lo, inc ds[k].K k, stepC ds[k].C c (mkD k (ds[k].K k + 1))⟩)[j].own b,
    ⟨q, cap, fv, _, bs, D ++ [mkD k (ds[k].K k + 1)], hc, fun b => Iff.rfl, by simp [h.len], ⟨by simp [h.evd.len], ?_, fun d hd => ?_⟩, fun j hj => ?_, fun j hj d hd hw => ?_, ?_, by simp; omega, fun e' he' => ?_, h.blen, fun j h1 h2 => ?_⟩, fun b hb => ?_⟩
  · rw [List.nodup_append]
    exact ⟨h.evd.nd, by simp, fun a ha b hb e9 => by simp at hb; subst hb; subst e9; exact hnew ha⟩
  · rw [List.length_set]
    rcases List.mem_append.1 hd with h1 | h1
    · exact h.evd.ok d h1
    · simp at h1
      subst h1
      rw [hwd, hnd]
      exact ⟨hk, by omega, by omega⟩
  · have hj' : j < ds.length := by simpa using hj
    rw [getD_set _ _ (by rw [h.len]; exact hk), hget j hj']
    by_cases e9 : k = j
    · subst e9
      rw [if_pos rfl, if_pos rfl]
      exact hkt.mine h.evd e c hch e5 k hK5 hnew
    · rw [if_neg e9, if_neg e9]
      exact (h.tie j hj').other h.evd e _ hnew (by rw [hnd]; omega)
  · have hj' : j < ds.length := by simpa using hj
    rw [hget j hj']
    by_cases e9 : k = j
    · subst e9
      rw [if_pos rfl]
      show nth d ≤ inc ds[k].K k k
      rw [inc_same]
      rcases List.mem_append.1 hd with h1 | h1
      · have := h.mine k hk d h1 hw; omega
      · simp at h1; subst h1; rw [hnd]; omega
    · rw [if_neg e9]
      rcases List.mem_append.1 hd with h1 | h1
      · exact h.mine j hj' d h1 hw
      · simp at h1; subst h1; rw [hwd] at hw; exact absurd hw e9
  · have h1 := sumN_set ds k hk ⟨ds[k].rb, some io, some co, some lo, inc ds[k].K k, stepC ds[k].C c (mkD k (ds[k].K k + 1))⟩ ds.length
    rw [if_pos hk, if_pos hk] at h1
    have h2 := h.sum
    simp only [inc_same] at h1
    rw [List.length_set, List.length_append, List.length_singleton]
    omega
  · rcases List.mem_append.1 he' with h1 | h1
    · exact h.src e' h1
    · simp at h1; subst h1; exact ⟨t, by rw [hch]; exact hr⟩
  · rw [List.length_set]
    obtain ⟨f1, f2, f3, f4, f5, f6, f7⟩ := h.frs j h1 h2
    refine ⟨f1, f2, f3, f4, f5, f6, fun h9 => ?_⟩
    obtain ⟨K2, C2, g1, g2⟩ := f7 h9
    exact ⟨K2, C2, g1.other h.evd e _ hnew (by rw [hnd]; omega), g2⟩
  · rcases hb with rfl | rfl | hb | ⟨j, hj, ho⟩
    · exact Or.inl ((h.own _).2 (Or.inl rfl))
    · exact Or.inl ((h.own _).2 (Or.inr (Or.inl rfl)))
    · exact Or.inl ((h.own _).2 (Or.inr (Or.inr (Or.inl hb))))
    · have hj' : j < ds.length := by simpa using hj
      rw [hget j hj'] at ho
      by_cases e9 : k = j
      · rw [if_pos e9] at ho
        rcases ho with ho | ho | ho | ho
        · exact Or.inl ((h.own _).2 (Or.inr (Or.inr (Or.inr ⟨k, hk, Or.inl ho⟩))))
        · cases ho; exact Or.inr hn.1
        · cases ho; exact Or.inr hn.2.1
        · cases ho; exact Or.inr hn.2.2
      · rw [if_neg e9] at ho
        exact Or.inl ((h.own _).2 (Or.inr (Or.inr (Or.inr ⟨j, hj', ho⟩))))
theorem CluF.sent (h : CluF w x S s q cap fv ds bs D) {fv' : Value} {k k' : Nat} (hk : k < ds.length) (hk' : k' < ds.length) {b : ByteArray} (hb : FrBy b k ds[k].K ds[k].C) (hc : CluP w' x q cap fv' 0 ds (bs ++ [(k', b)])) (hn : ∀ g, fv'.ownBlock = some g → fv.ownBlock = some g ∨ w.heap.size ≤ g) :
    ∃ S', ProgF w' x S' ⟨s.es, s.kn, s.fs ++ [⟨k, k', 0, s.kn.getD k [], b⟩]⟩ ∧ ∀ g, S' g → S g ∨ w.heap.size ≤ g := by
  have h6 := h.clu.len
  refine ⟨fun g => g = x ∨ g = q ∨ fv'.ownBlock = some g ∨ ∃ j, ∃ h : j < ds.length, ds[j].own g, ⟨q, cap, fv', ds, _, D, hc, fun g => Iff.rfl, h.len, h.evd, h.tie, h.mine, h.sum, h.e500, h.src, by simp [h.blen], fun j h1 h2 => ?_⟩, fun g hg => ?_⟩
  · have hbl := h.blen
    by_cases hj : j < bs.length
    · have e1 : (bs ++ [(k', b)])[j] = bs[j] := List.getElem_append_left hj
      have e2 : (s.fs ++ [(⟨k, k', 0, s.kn.getD k [], b⟩ : FrD)])[j] = s.fs[j]'(by omega) := List.getElem_append_left (by omega)
      rw [e1]
      show FrTie _ _ _ _ ((s.fs ++ [(⟨k, k', 0, s.kn.getD k [], b⟩ : FrD)])[j])
      rw [e2]
      exact h.frs j hj (by omega)
    · have hje : j = bs.length := by simp at h1; omega
      have e1 : (bs ++ [(k', b)])[j] = (k', b) := by rw [List.getElem_append_right (by omega)]; simp
      have e2 : (s.fs ++ [(⟨k, k', 0, s.kn.getD k [], b⟩ : FrD)])[j] = ⟨k, k', 0, s.kn.getD k [], b⟩ := by rw [List.getElem_append_right (by omega)]; simp
      rw [e1]
      show FrTie _ _ _ _ ((s.fs ++ [(⟨k, k', 0, s.kn.getD k [], b⟩ : FrD)])[j])
      rw [e2]
      obtain ⟨ns, rs, xs, h3, h4, h5, h7, h8⟩ := hb
      have hby := by_of (h.tie k hk) h.evd h6 h.e500 h.src (h.clu.rep k hk).k500 (show k ≤ 5 by omega) h3 h4 h5 h7 h8
      obtain ⟨_, _, _, hsz, _⟩ := hby.ex
      exact ⟨rfl, rfl, hk', hk, hsz, fun h9 => absurd h9 (by simp), fun _ => ⟨_, _, h.tie k hk, hby⟩⟩
  · rcases hg with rfl | rfl | hg | hg
    · exact Or.inl ((h.own _).2 (Or.inl rfl))
    · exact Or.inl ((h.own _).2 (Or.inr (Or.inl rfl)))
    · exact (hn g hg).imp (fun h9 => (h.own _).2 (Or.inr (Or.inr (Or.inl h9)))) id
    · exact Or.inl ((h.own _).2 (Or.inr (Or.inr (Or.inr hg))))
theorem CluF.came (h : CluF w x S s q cap fv ds bs D) {fv' : Value} (f : FrD) (i k : Nat) (hk : k < ds.length) {K2 : Nat → Nat} {C2 : Nat → Option Thk.Ch} (h2 : Kn s.es D f.known K2 C2) (hsr : f.src < ds.length) {io co lo : Nat} (hnw : w.heap.size ≤ io ∧ w.heap.size ≤ co ∧ w.heap.size ≤ lo) {b : ByteArray} (hb : toL b = encA k)
    (hc : CluP w' x q cap fv' 0 (ds.set k ⟨ds[k].rb, some io, some co, some lo, maxK ds[k].K K2, joinC ds[k].K ds[k].C K2 C2⟩) (bs ++ [(f.src, b)])) (hn : ∀ g, fv'.ownBlock = some g → fv.ownBlock = some g ∨ w.heap.size ≤ g) :
    ∃ S', ProgF w' x S' ⟨s.es, s.kn.set k (delK (s.kn.getD k []) f.known), s.fs ++ [⟨k, f.src, i + 1, [], b⟩]⟩ ∧ ∀ g, S' g → S g ∨ w.heap.size ≤ g := by
  have h6 := h.clu.len
  have hkt := h.tie k hk
  have hmax : maxK ds[k].K K2 k = ds[k].K k := by
    unfold maxK
    by_cases h0 : K2 k = 0
    · omega
    · obtain ⟨g1, g2⟩ := h2.all k (K2 k) (by omega) (Nat.le_refl _)
      have := h.mine k hk _ g2 (who_mk g1)
      rw [nth_mk g1] at this
      omega
  have hget : ∀ j (hj : j < ds.length), (ds.set k ⟨ds[k].rb, some io, some co, some lo, maxK ds[k].K K2, joinC ds[k].K ds[k].C K2 C2⟩)[j]'(by simpa using hj) = if k = j then ⟨ds[k].rb, some io, some co, some lo, maxK ds[k].K K2, joinC ds[k].K ds[k].C K2 C2⟩ else ds[j] := fun j hj => by rw [List.getElem_set]
  refine ⟨fun g => g = x ∨ g = q ∨ fv'.ownBlock = some g ∨ ∃ j, ∃ h : j < (ds.set k ⟨ds[k].rb, some io, some co, some lo, maxK ds[k].K K2, joinC ds[k].K ds[k].C K2 C2⟩).length, (ds.set k ⟨ds[k].rb, some io, some co, some lo, maxK ds[k].K K2, joinC ds[k].K ds[k].C K2 C2⟩)[j].own g,
    ⟨q, cap, fv', _, _, D, hc, fun g => Iff.rfl, by simp [h.len], by rw [List.length_set]; exact h.evd, fun j hj => ?_, fun j hj d hdm hw => ?_, ?_, h.e500, h.src, by simp [h.blen], fun j h1 h3 => ?_⟩, fun g hg => ?_⟩
  · have hj' : j < ds.length := by simpa using hj
    rw [hget j hj']
    show Kn s.es D ((s.kn.set k (delK (s.kn.getD k []) f.known)).getD j []) _ _
    rw [getD_set _ _ (by rw [h.len]; exact hk)]
    by_cases e9 : k = j
    · subst e9
      rw [if_pos rfl, if_pos rfl]
      exact (hkt.join h2).congr (delK_len _ _ _ hkt.len h2.len) (fun i => delK_getD _ _ i)
    · rw [if_neg e9, if_neg e9]
      exact h.tie j hj'
  · have hj' : j < ds.length := by simpa using hj
    rw [hget j hj']
    by_cases e9 : k = j
    · subst e9
      rw [if_pos rfl]
      show nth d ≤ maxK ds[k].K K2 k
      rw [hmax]
      exact h.mine k hk d hdm hw
    · rw [if_neg e9]; exact h.mine j hj' d hdm hw
  · have h1 := sumN_set ds k hk ⟨ds[k].rb, some io, some co, some lo, maxK ds[k].K K2, joinC ds[k].K ds[k].C K2 C2⟩ ds.length
    rw [if_pos hk, if_pos hk] at h1
    have h3 := h.sum
    simp only [hmax] at h1
    rw [List.length_set]
    show _ = s.es.length
    omega
  · rw [List.length_set]
    have hbl := h.blen
    by_cases hj : j < bs.length
    · have e1 : (bs ++ [(f.src, b)])[j] = bs[j] := List.getElem_append_left hj
      have e2 : (s.fs ++ [(⟨k, f.src, i + 1, [], b⟩ : FrD)])[j] = s.fs[j]'(by omega) := List.getElem_append_left (by omega)
      rw [e1]
      show FrTie _ _ _ _ ((s.fs ++ [(⟨k, f.src, i + 1, [], b⟩ : FrD)])[j])
      rw [e2]
      exact h.frs j hj (by omega)
    · have hje : j = bs.length := by simp at h1; omega
      have e1 : (bs ++ [(f.src, b)])[j] = (f.src, b) := by rw [List.getElem_append_right (by omega)]; simp
      have e2 : (s.fs ++ [(⟨k, f.src, i + 1, [], b⟩ : FrD)])[j] = ⟨k, f.src, i + 1, [], b⟩ := by rw [List.getElem_append_right (by omega)]; simp
      rw [e1]
      show FrTie _ _ _ _ ((s.fs ++ [(⟨k, f.src, i + 1, [], b⟩ : FrD)])[j])
      rw [e2]
      have hsz : b.size ≤ 1000000000 := by
        rw [← toL_length, hb]
        unfold encA
        have := encN_len 1; have := encN_len k
        rw [List.length_append]; omega
      exact ⟨rfl, rfl, hsr, hk, hsz, fun _ => hb, fun h9 => absurd (Nat.succ_pos i) h9⟩
  · rcases hg with rfl | rfl | hg | ⟨j, hj, ho⟩
    · exact Or.inl ((h.own _).2 (Or.inl rfl))
    · exact Or.inl ((h.own _).2 (Or.inr (Or.inl rfl)))
    · exact (hn g hg).imp (fun h9 => (h.own _).2 (Or.inr (Or.inr (Or.inl h9)))) id
    · have hj' : j < ds.length := by simpa using hj
      rw [hget j hj'] at ho
      by_cases e9 : k = j
      · rw [if_pos e9] at ho
        rcases ho with ho | ho | ho | ho
        · exact Or.inl ((h.own _).2 (Or.inr (Or.inr (Or.inr ⟨k, hk, Or.inl ho⟩))))
        · cases ho; exact Or.inr hnw.1
        · cases ho; exact Or.inr hnw.2.1
        · cases ho; exact Or.inr hnw.2.2
      · rw [if_neg e9] at ho
        exact Or.inl ((h.own _).2 (Or.inr (Or.inr (Or.inr ⟨j, hj', ho⟩))))
theorem CluF.bsz (h : CluF w x S s q cap fv ds bs D) : ∀ p ∈ bs, p.2.size ≤ 1000000000 := by
  intro p hp
  obtain ⟨j, hj, rfl⟩ := List.getElem_of_mem hp
  obtain ⟨_, f2, _, _, f5, _⟩ := h.frs j hj (by rw [← h.blen]; exact hj)
  rw [f2]; exact f5
end

theorem prog_ok : ProgOK ProgF := {
  bad := by
    intro w r room _ h
    refine Calls.mono (New_bad r room w h) ?_
    rintro e w' ⟨rfl, rfl⟩
    exact ⟨rfl, Below.refl _ _⟩
  good := by
    intro w r room hG h1 h6 h50
    have h4 : 4 ≤ w.heap.size := hG.size
    refine Calls.mono (New_good r room w h4 h1 h6 h50) ?_
    rintro e w' ⟨rv, rbs, rfl, hr, hN⟩
    subst hr
    obtain ⟨q, cap, rfl, hq, hC⟩ := hN.done h4 h1 h6
    refine ⟨w.heap.size, fun k => k = w.heap.size ∨ k = q ∨ (Value.slice none 0 0).ownBlock = some k ∨ ∃ j, ∃ h : j < (rbs.map fun b => (⟨b, none, none, none, fun _ => 0, fun _ => none⟩ : RepD)).length, ((rbs.map fun b => (⟨b, none, none, none, fun _ => 0, fun _ => none⟩ : RepD))[j]).own k, rfl, ⟨q, cap, .slice none 0 0, _, [], [], hC, fun k => Iff.rfl, by simp, ⟨rfl, List.Pairwise.nil, fun d h => absurd h (by simp)⟩, fun j hj => ?_, fun j hj d h => absurd h (by simp), ?_, by simp, fun e he => absurd he (by simp), rfl, fun j h => absurd h (by simp)⟩, fun k hk => ?_, hN.bel⟩
    · have : (List.replicate rbs.length ([] : List Bool)).getD j [] = [] := by
        have hj' : j < rbs.length := by simpa using hj
        simp [hj']
      show Kn [] [] ((List.replicate rbs.length ([] : List Bool)).getD j []) _ _
      rw [this]
      simp only [List.getElem_map]
      exact Kn.nil
    · rw [sumN_new]; rfl
    · rcases hk with rfl | rfl | hk | ⟨j, hj, ho⟩
      · exact Nat.le_refl _
      · exact hq
      · cases hk
      · have hj' : j < rbs.length := by simpa using hj
        simp only [List.getElem_map] at ho
        rcases ho with ho | ho | ho | ho
        · rw [ho]; exact (hN.rep j hj').2
        · cases ho
        · cases ho
        · cases ho
  does := by
    rintro w x S s i t r es' kn' hG ⟨q, cap, fv, ds, bs, D, h⟩ hs hd
    refine Calls.mono (CDo_any w hG x q cap fv ds bs h.clu i t hs) ?_
    rintro e w' ⟨r', ds', rfl, hD, hC, hc⟩
    have hcS : Chg S w w' := hc.wide (fun k hk => (h.own k).2 (by
      rcases hk with rfl | ⟨j, hj, rfl⟩
      · exact Or.inl rfl
      · exact Or.inr (Or.inr (Or.inr ⟨j, hj, Or.inl rfl⟩))))
    have hle := h.len
    have hsm := h.sum
    rcases hD with ⟨hi, rfl, rfl⟩ | ⟨m, hi, hr, rfl, rfl⟩ | ⟨c, hi, hr, hl, rfl, rfl⟩ | ⟨c, k, hk, io, co, lo, rfl, hr, hl, hn, rfl, rfl⟩ <;>
      rcases hd with ⟨h3, rfl, rfl, rfl⟩ | ⟨k', h3, h4, rfl, rfl, rfl⟩ | ⟨c', h3, h4, h5, rfl, rfl, rfl⟩ | ⟨c', e', h3, h4, h5, b1, b2, b3, b4, b5, rfl, rfl, rfl⟩
    · exact ⟨rfl, S, h.keep hC, fun k hk => Or.inl hk, hcS⟩
    · exact absurd h3 (by rw [hle]; exact hi)
    · exact absurd h3 (by rw [hle]; exact hi)
    · exact absurd h3 (by rw [hle]; exact hi)
    · exact absurd (by rw [hle]; exact hi) h3
    · rw [hr] at h4; cases h4; exact ⟨rfl, S, h.keep hC, fun k hk => Or.inl hk, hcS⟩
    · rw [hr] at h4; cases h4
    · rw [hr] at h4; cases h4
    · exact absurd (by rw [hle]; exact hi) h3
    · rw [hr] at h4; cases h4
    · exact ⟨rfl, S, h.keep hC, fun k hk => Or.inl hk, hcS⟩
    · omega
    · exact absurd (by rw [hle]; omega) h3
    · rw [hr] at h4; cases h4
    · omega
    · rw [hr] at h4
      cases h4
      obtain ⟨S', h6, h7⟩ := h.done hr hk h5 b1 b2 b3 b4 b5 hn hC
      exact ⟨rfl, S', h6, h7, hcS⟩
  asks := by
    rintro w x S s i t hG ⟨q, cap, fv, ds, bs, D, h⟩ hs
    have hfit : ∀ e ∈ s.es, EvFit e := fun e he => by obtain ⟨u, hu⟩ := h.src e he; exact fit_of hu
    refine Calls.mono (CAsk_any w hG x q cap fv ds bs h.clu (fun j hj => (h.tie j hj).itms h.evd h.e500 hfit) i t hs) ?_
    rintro e w' ⟨u, r, rfl, hA, hC, hc⟩
    have hle := h.len
    have fin : (askR s.es s.kn i (toL t)).2 = r ∧ toL u = (askR s.es s.kn i (toL t)).1 := by
      unfold askR
      rcases hA with ⟨h1, rfl, rfl⟩ | ⟨h1, h2, rfl, rfl⟩ | ⟨k, hk, rfl, h2, rfl, xs, hx, rfl⟩
      · rw [if_neg (by rw [hle]; exact h1)]; exact ⟨rfl, rfl⟩
      · rw [if_pos (by rw [hle]; exact h1), h2]; exact ⟨rfl, rfl⟩
      · rw [if_pos (by rw [hle]; omega), h2]
        exact ⟨rfl, tell_eq (toL t) hfit ((h.tie k hk).perm h.evd hx)⟩
    refine ⟨u, by rw [fin.1], fin.2, S, h.keep hC, fun k hk => Or.inl hk, h.sx hc⟩
  knows := by
    rintro w x S s i hG ⟨q, cap, fv, ds, bs, D, h⟩
    refine Calls.mono (CKnows_any w x q cap fv ds bs h.clu i) ?_
    rintro e w' ⟨rfl, hC, hc⟩
    have hle := h.len
    have fin : knowsD ds i = knowsR s.kn i := by
      unfold knowsD knowsR
      by_cases hi : 0 ≤ i ∧ i < ds.length
      · rw [if_pos hi, if_pos (by rw [hle]; exact hi)]
        have hk : i.toNat < ds.length := by omega
        rw [(h.tie i.toNat hk).size h.evd h.clu.len (h.clu.rep _ hk).k500, List.getElem?_eq_getElem hk]
        rfl
      · rw [if_neg hi, if_neg (by rw [hle]; exact hi)]
    refine ⟨by rw [fin], S, h.keep hC, fun k hk => Or.inl hk, h.sx hc⟩
  sends := by
    rintro w x S s i j hG ⟨q, cap, fv, ds, bs, D, h⟩
    refine Calls.mono (CSend_any w hG x q cap fv ds bs h.clu (fun j hj => (h.tie j hj).repB h.evd h.e500 h.src) i j) ?_
    rintro e w' ⟨n, r, bs', fv', rfl, hD, hC, hc, hn⟩
    have hle := h.len
    have hbl := h.blen
    have hcS : Chg S w w' := hc.wide (fun k hk => (h.own k).2 (hk.elim Or.inl (fun hk => Or.inr (Or.inr (Or.inl hk)))))
    have same : ∀ {fv2 : Value}, CluP w' x q cap fv2 0 ds bs → (∀ g, fv2.ownBlock = some g → fv.ownBlock = some g ∨ w.heap.size ≤ g) → ∃ S', ProgF w' x S' s ∧ ∀ g, S' g → S g ∨ w.heap.size ≤ g := fun {fv2} hC2 hn2 => ⟨fun g => g = x ∨ g = q ∨ fv2.ownBlock = some g ∨ ∃ j, ∃ h : j < ds.length, ds[j].own g, ⟨q, cap, fv2, ds, bs, D, hC2, fun g => Iff.rfl, h.len, h.evd, h.tie, h.mine, h.sum, h.e500, h.src, h.blen, h.frs⟩, fun g hg => by
      rcases hg with hg | hg | hg | hg
      · exact Or.inl ((h.own _).2 (Or.inl hg))
      · exact Or.inl ((h.own _).2 (Or.inr (Or.inl hg)))
      · exact (hn2 g hg).imp (fun h9 => (h.own _).2 (Or.inr (Or.inr (Or.inl h9)))) id
      · exact Or.inl ((h.own _).2 (Or.inr (Or.inr (Or.inr hg))))⟩
    rcases hD with ⟨hi, rfl, rfl, rfl⟩ | ⟨hi, hij, rfl, rfl, rfl⟩ | ⟨hi, hij, h5, rfl, rfl, rfl⟩ | ⟨k, k', hk, b, rfl, rfl, hk', hij, h5, rfl, rfl, rfl, hb⟩
    · have e1 : sendR s i j = (0, 2) := by unfold sendR; rw [if_neg (by rw [hle]; exact hi)]
      obtain ⟨S', h7, h8⟩ := same hC hn
      exact ⟨by rw [e1], S', s, ⟨rfl, rfl, by rw [e1, if_neg (by decide)]⟩, h7, h8, hcS⟩
    · have e1 : sendR s i j = (0, 1) := by unfold sendR; rw [if_pos (by rw [hle]; exact hi), if_pos hij]
      obtain ⟨S', h7, h8⟩ := same hC hn
      exact ⟨by rw [e1], S', s, ⟨rfl, rfl, by rw [e1, if_neg (by decide)]⟩, h7, h8, hcS⟩
    · have e1 : sendR s i j = (0, 7) := by unfold sendR; rw [if_pos (by rw [hle]; exact hi), if_neg hij, if_pos (by omega)]
      obtain ⟨S', h7, h8⟩ := same hC hn
      exact ⟨by rw [e1], S', s, ⟨rfl, rfl, by rw [e1, if_neg (by decide)]⟩, h7, h8, hcS⟩
    · have e1 : sendR s (k : Int) (k' : Int) = (((bs.length + 1 : Nat) : Int), 0) := by unfold sendR; rw [if_pos (by rw [hle]; omega), if_neg hij, if_neg (by omega), hbl]; rfl
      obtain ⟨S', h7, h8⟩ := h.sent hk hk' hb hC hn
      exact ⟨by rw [e1], S', ⟨s.es, s.kn, s.fs ++ [⟨k, k', 0, s.kn.getD k [], b⟩]⟩, ⟨rfl, rfl, by rw [e1, if_pos rfl]; exact ⟨b, rfl⟩⟩, h7, h8, hcS⟩
  frame := by
    rintro w x S s f hG ⟨q, cap, fv, ds, bs, D, h⟩
    refine Calls.mono (CFrame_any w x q cap fv ds bs h.clu h.bsz f) ?_
    rintro e w' ⟨rfl, hC, hc⟩
    have hbl := h.blen
    have fin : frameD bs f = frameR s f := by
      unfold frameD frameR frNo
      by_cases hf : 1 ≤ f ∧ f ≤ bs.length
      · rw [if_pos hf, if_pos (by rw [← hbl]; exact hf)]
        have h1 : f.toNat - 1 < bs.length := by omega
        have h2 : f.toNat - 1 < s.fs.length := by omega
        obtain ⟨_, f2, _⟩ := h.frs _ h1 h2
        rw [List.getElem?_eq_getElem h1, List.getElem?_eq_getElem h2]
        simp only [Option.map_some, Option.getD_some]
        rw [f2]
      · rw [if_neg hf, if_neg (by rw [← hbl]; exact hf)]
    refine ⟨by rw [fin], S, h.keep hC, fun k hk => Or.inl hk, h.sx hc⟩
  dels := by
    rintro w x S s f hG ⟨q, cap, fv, ds, bs, D, h⟩
    have hbl := h.blen
    by_cases hf : 1 ≤ f ∧ f ≤ bs.length
    · obtain ⟨i, rfl⟩ : ∃ i : Nat, f = (i : Int) + 1 := ⟨(f - 1).toNat, by omega⟩
      have hi : i < bs.length := by omega
      have hi' : i < s.fs.length := by omega
      have hno : frNo s ((i : Int) + 1) = some s.fs[i] := by
        unfold frNo
        rw [if_pos (by omega), show ((i : Int) + 1).toNat - 1 = i by omega, List.getElem?_eq_getElem hi']
      obtain ⟨f1, f2, f3, f4, f5, f6, f7⟩ := h.frs i hi hi'
      have hdel : ∀ (n r : Int), delR s ((i : Int) + 1) = (n, r) → DelTo s ((i : Int) + 1) s → ∀ wx, CluP wx x q cap fv 0 ds bs → Chg (fun k => k = x) w wx → (Ending.returned (.tuple #[.int .i64 n, .int .i64 r]) : Ending) = .returned (.tuple #[.int .i64 (delR s ((i : Int) + 1)).1, .int .i64 (delR s ((i : Int) + 1)).2]) ∧ ∃ S' s', DelTo s ((i : Int) + 1) s' ∧ ProgF wx x S' s' ∧ (∀ k, S' k → S k ∨ w.heap.size ≤ k) ∧ Chg S w wx := fun n r e1 e2 wx hC hc => ⟨by rw [e1], S, s, e2, h.keep hC, fun k hk => Or.inl hk, h.sx hc⟩
      by_cases ha : 0 < s.fs[i].ack
      · have e1 : delR s ((i : Int) + 1) = (0, 0) := by unfold delR; rw [hno]; exact if_pos ha
        have e2 : DelTo s ((i : Int) + 1) s := ⟨rfl, by rw [hno]; dsimp only; rw [if_pos (Or.inl ha)]; exact ⟨rfl, rfl⟩⟩
        refine Calls.mono (CDel_of w x q cap fv ds bs h.clu i hi (fun k => k = x) rfl (fun n r wx => n = 0 ∧ r = 0 ∧ CluP wx x q cap fv 0 ds bs ∧ Chg (fun k => k = x) w wx) (fun wx hx hc => ?_)) ?_
        · refine Calls.mono (come_ack wx x _ _ s.fs[i].src (by have := h.clu.len; omega) (by rw [f2]; exact f6 ha)) ?_
          rintro e w' ⟨rfl, hb⟩
          exact ⟨0, 0, fv, ds, bs, rfl, hx.below hb, fun h1 h2 => ⟨rfl, rfl, h1, h2⟩, hc.below hb⟩
        · rintro e w' ⟨n, r, rfl, rfl, rfl, h1, h2⟩
          exact hdel 0 0 e1 e2 w' h1 h2
      · obtain ⟨K2, C2, g1, g2⟩ := f7 ha
        by_cases h5 : 500 ≤ bs.length
        · have e1 : delR s ((i : Int) + 1) = (0, 7) := by unfold delR; rw [hno]; exact (if_neg ha).trans (if_pos (by omega))
          have e2 : DelTo s ((i : Int) + 1) s := ⟨rfl, by rw [hno]; dsimp only; rw [if_pos (Or.inr (show 500 ≤ s.fs.length by omega))]; exact ⟨rfl, rfl⟩⟩
          refine Calls.mono (CDel_of w x q cap fv ds bs h.clu i hi (fun k => k = x) rfl (fun n r wx => n = 0 ∧ r = 7 ∧ CluP wx x q cap fv 0 ds bs ∧ Chg (fun k => k = x) w wx) (fun wx hx hc => ?_)) ?_
          · refine Calls.mono (come_full wx (hG.chg4 hc (fun k e => by subst e; exact h.clu.x4)) x q cap fv ds bs hx _ _ s.fs[i].src K2 C2 (by rw [f2]; exact g2) h5) ?_
            rintro e w' ⟨rfl, hb⟩
            exact ⟨0, 7, fv, ds, bs, rfl, hx.below hb, fun h1 h2 => ⟨rfl, rfl, h1, h2⟩, hc.below hb⟩
          · rintro e w' ⟨n, r, rfl, rfl, rfl, h1, h2⟩
            exact hdel 0 7 e1 e2 w' h1 h2
        · have e1 : delR s ((i : Int) + 1) = (((bs.length + 1 : Nat) : Int), 0) := by
            unfold delR; rw [hno]
            refine ((if_neg ha).trans (if_neg (by omega))).trans ?_
            rw [hbl]; rfl
          refine Calls.mono (CDel_of w x q cap fv ds bs h.clu i hi S ((h.own x).2 (Or.inl rfl)) (fun n r wx => n = ((bs.length + 1 : Nat) : Int) ∧ r = 0 ∧ Chg S w wx ∧ ∃ S' b, ProgF wx x S' ⟨s.es, s.kn.set s.fs[i].dst (delK (s.kn.getD s.fs[i].dst []) s.fs[i].known), s.fs ++ [⟨s.fs[i].dst, s.fs[i].src, i + 1, [], b⟩]⟩ ∧ ∀ g, S' g → S g ∨ w.heap.size ≤ g) (fun wx hx hc => ?_)) ?_
          · rw [f1, f2]
            refine Calls.mono (come_br wx (hG.chg4 hc (fun k e => by subst e; exact h.clu.x4)) x q cap fv ds bs hx s.fs[i].dst f3 _ s.fs[i].src K2 C2 g2 (by omega) ((h.tie _ f3).same g1)) ?_
            rintro e w' ⟨io, co, lo, b, fv', rfl, hbb, hC', hnw, hc', hn'⟩
            have hcS : Chg S w w' := (hc.wide (fun k e => (h.own k).2 (Or.inl e))).trans (hc'.wide (fun k hk => (h.own k).2 (by
              rcases hk with hk | hk | hk
              · exact Or.inl hk
              · exact Or.inr (Or.inr (Or.inl hk))
              · exact Or.inr (Or.inr (Or.inr ⟨_, f3, Or.inl hk⟩)))))
            have hz := hc.size
            refine ⟨_, _, fv', _, _, rfl, hC', fun h1 h2 => ⟨rfl, rfl, h2, ?_⟩, hcS⟩
            obtain ⟨S', h7, h8⟩ := h.came s.fs[i] i s.fs[i].dst f3 g1 f4 (io := io) (co := co) (lo := lo) ⟨by omega, by omega, by omega⟩ hbb h1 (fun g hg => (hn' g hg).imp id (fun h9 => Nat.le_trans hz h9))
            exact ⟨S', b, h7, h8⟩
          · rintro e w' ⟨n, r, rfl, rfl, rfl, h1, S', b, h2, h3⟩
            refine ⟨by rw [e1], S', ⟨s.es, s.kn.set s.fs[i].dst (delK (s.kn.getD s.fs[i].dst []) s.fs[i].known), s.fs ++ [⟨s.fs[i].dst, s.fs[i].src, i + 1, [], b⟩]⟩, ⟨rfl, ?_⟩, h2, h3, h1⟩
            rw [hno]
            dsimp only
            rw [if_neg (show ¬ (0 < s.fs[i].ack ∨ 500 ≤ s.fs.length) by omega)]
            exact ⟨rfl, b, rfl⟩
    · have hno : frNo s f = none := by unfold frNo; rw [if_neg (by rw [← hbl]; exact hf)]
      refine Calls.mono (CDel_bad w x q cap fv ds bs h.clu f hf) ?_
      rintro e w' ⟨rfl, hC, hc⟩
      exact ⟨by unfold delR; rw [hno], S, s, ⟨rfl, by rw [hno]; exact ⟨rfl, rfl⟩⟩, h.keep hC, fun k hk => Or.inl hk, h.sx hc⟩
  fsz := by
    rintro w x S s f g ⟨q, cap, fv, ds, bs, D, h⟩ hg
    unfold frNo at hg
    by_cases hf : 1 ≤ f ∧ f ≤ s.fs.length
    · rw [if_pos hf] at hg
      have h2 : f.toNat - 1 < s.fs.length := by omega
      rw [List.getElem?_eq_getElem h2] at hg
      cases hg
      exact (h.frs _ (by rw [h.blen]; exact h2) h2).2.2.2.2.1
    · rw [if_neg hf] at hg; cases hg
  flen := by
    rintro w x S s ⟨q, cap, fv, ds, bs, D, h⟩
    have := h.clu.b500
    have := h.blen
    omega }
end Go.Proofs.YtoiiaankpnhppaaGreatDoor

