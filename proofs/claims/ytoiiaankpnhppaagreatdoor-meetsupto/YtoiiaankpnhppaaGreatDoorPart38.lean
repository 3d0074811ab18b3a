import Derived.Deep.RegionHeld3
import Derived.Test.YtoiiaankpnhppaaGreatDoorPart36
import Derived.Test.YtoiiaankpnhppaaGreatDoorPart37
set_option linter.unusedVariables false
set_option linter.unusedSimpArgs false
namespace Go.Proofs.YtoiiaankpnhppaaGreatDoor
open Go.RowKit
variable {F G : Stt}

def upR (kn : List (List Bool)) (i : Int) : Int := if 0 ≤ i ∧ i < kn.length then 0 else 2

section
variable {S R : Nat → Prop} {w0 : World} {bx : Nat} {o : StepD} {pb x c : Nat} {s1 s2 : St} {wx : World}
theorem Mid0.pAsk (hF : ProgOK F) (hP : ProgFrame F) (hQ : RefFrame G) (h : Mid0 F G S R w0 pb x c s1 s2 wx) (i : Int) (t : ByteArray) (ht : t.size ≤ 1048576) :
    Calls Tryz.prog 20 #[.pointer (some ⟨x, 0, none⟩), .int .i64 i, .string t] wx fun e w' => ∃ u, e = .returned (.tuple #[.string u, .int .i64 (askR s1.es s1.kn i (toL t)).2]) ∧ toL u = (askR s1.es s1.kn i (toL t)).1 ∧ Mid0 F G S R w0 pb x c s1 s2 w' := by
  obtain ⟨S1, h1, h2⟩ := h.f
  refine Calls.mono (hF.asks wx x S1 s1 i t h.glob h1 ht) ?_
  rintro e w' ⟨u, rfl, hu, S2, f2, g2, hc⟩
  exact ⟨u, rfl, hu, h.prog hP hQ h1 h2 f2 g2 hc⟩
theorem Mid0.rAsk (hR : RefOK G) (hP : ProgFrame F) (hQ : RefFrame G) (h : Mid0 F G S R w0 pb x c s1 s2 wx) (i : Int) (t : ByteArray) (ht : t.size ≤ 1048576) :
    Calls Tryz.prog 84 #[.pointer (some ⟨c, 0, none⟩), .int .i64 i, .string t] wx fun e w' => ∃ u, e = .returned (.tuple #[.string u, .int .i64 (askR s2.es s2.kn i (toL t)).2]) ∧ toL u = (askR s2.es s2.kn i (toL t)).1 ∧ Mid0 F G S R w0 pb x c s1 s2 w' := by
  obtain ⟨R1, h1, h2⟩ := h.g
  refine Calls.mono (hR.asks wx c R1 s2 i t h1 ht) ?_
  rintro e w' ⟨u, rfl, hu, hb⟩
  exact ⟨u, rfl, hu, h.below hP hQ hb⟩
theorem Mid0.pKnows (hF : ProgOK F) (hP : ProgFrame F) (hQ : RefFrame G) (h : Mid0 F G S R w0 pb x c s1 s2 wx) (i : Int) :
    Calls Tryz.prog 18 #[.pointer (some ⟨x, 0, none⟩), .int .i64 i] wx fun e w' => e = .returned (.tuple #[.int .i64 (knowsR s1.kn i).1, .int .i64 (knowsR s1.kn i).2]) ∧ Mid0 F G S R w0 pb x c s1 s2 w' := by
  obtain ⟨S1, h1, h2⟩ := h.f
  refine Calls.mono (hF.knows wx x S1 s1 i h.glob h1) ?_
  rintro e w' ⟨rfl, S2, f2, g2, hc⟩
  exact ⟨rfl, h.prog hP hQ h1 h2 f2 g2 hc⟩
theorem Mid0.pDo (hF : ProgOK F) (hP : ProgFrame F) (hQ : RefFrame G) (h : Mid0 F G S R w0 pb x c s1 s2 wx) (i : Int) (t : ByteArray) (ht : t.size ≤ 1048576) {r : Int} {es' : List Ev} {kn' : List (List Bool)} (hd : DoOut s1.es s1.kn i (toL t) r es' kn') :
    Calls Tryz.prog 19 #[.pointer (some ⟨x, 0, none⟩), .int .i64 i, .string t] wx fun e w' => e = .returned (.int .i64 r) ∧ Mid0 F G S R w0 pb x c ⟨es', kn', s1.fs⟩ s2 w' := by
  obtain ⟨S1, h1, h2⟩ := h.f
  refine Calls.mono (hF.does wx x S1 s1 i t r es' kn' h.glob h1 ht hd) ?_
  rintro e w' ⟨rfl, S2, f2, g2, hc⟩
  exact ⟨rfl, h.prog hP hQ h1 h2 f2 g2 hc⟩
theorem Mid0.pSend (hF : ProgOK F) (hP : ProgFrame F) (hQ : RefFrame G) (h : Mid0 F G S R w0 pb x c s1 s2 wx) (i j : Int) :
    Calls Tryz.prog 29 #[.pointer (some ⟨x, 0, none⟩), .int .i64 i, .int .i64 j] wx fun e w' => e = .returned (.tuple #[.int .i64 (sendR s1 i j).1, .int .i64 (sendR s1 i j).2]) ∧ ∃ s', SendTo s1 i j s' ∧ Mid0 F G S R w0 pb x c s' s2 w' := by
  obtain ⟨S1, h1, h2⟩ := h.f
  refine Calls.mono (hF.sends wx x S1 s1 i j h.glob h1) ?_
  rintro e w' ⟨rfl, S2, s', hs, f2, g2, hc⟩
  exact ⟨rfl, s', hs, h.prog hP hQ h1 h2 f2 g2 hc⟩
theorem Mid0.pDel (hF : ProgOK F) (hP : ProgFrame F) (hQ : RefFrame G) (h : Mid0 F G S R w0 pb x c s1 s2 wx) (f : Int) :
    Calls Tryz.prog 23 #[.pointer (some ⟨x, 0, none⟩), .int .i64 f] wx fun e w' => e = .returned (.tuple #[.int .i64 (delR s1 f).1, .int .i64 (delR s1 f).2]) ∧ ∃ s', DelTo s1 f s' ∧ Mid0 F G S R w0 pb x c s' s2 w' := by
  obtain ⟨S1, h1, h2⟩ := h.f
  refine Calls.mono (hF.dels wx x S1 s1 f h.glob h1) ?_
  rintro e w' ⟨rfl, S2, s', hs, f2, g2, hc⟩
  exact ⟨rfl, s', hs, h.prog hP hQ h1 h2 f2 g2 hc⟩
theorem Mid0.pFrame (hF : ProgOK F) (hP : ProgFrame F) (hQ : RefFrame G) (h : Mid0 F G S R w0 pb x c s1 s2 wx) (f : Int) :
    Calls Tryz.prog 86 #[.pointer (some ⟨x, 0, none⟩), .int .i64 f] wx fun e w' => e = .returned (.tuple #[.string (frameR s1 f).1, .int .i64 (frameR s1 f).2]) ∧ Mid0 F G S R w0 pb x c s1 s2 w' := by
  obtain ⟨S1, h1, h2⟩ := h.f
  refine Calls.mono (hF.frame wx x S1 s1 f h.glob h1) ?_
  rintro e w' ⟨rfl, S2, f2, g2, hc⟩
  exact ⟨rfl, h.prog hP hQ h1 h2 f2 g2 hc⟩
theorem Mid0.rDo (hR : RefOK G) (hP : ProgFrame F) (hQ : RefFrame G) (h : Mid0 F G S R w0 pb x c s1 s2 wx) (i : Int) (t : ByteArray) (ht : t.size ≤ 1048576) :
    Calls Tryz.prog 92 #[.pointer (some ⟨c, 0, none⟩), .int .i64 i, .string t] wx fun e w' => ∃ r es' kn', e = .returned (.int .i64 r) ∧ DoOut s2.es s2.kn i (toL t) r es' kn' ∧ Mid0 F G S R w0 pb x c s1 ⟨es', kn', s2.fs⟩ w' := by
  obtain ⟨R1, h1, h2⟩ := h.g
  refine Calls.mono (hR.does wx c R1 s2 i t h1 ht) ?_
  rintro e w' ⟨r, es', kn', rfl, hd, R2, f2, g2, hc, hi⟩
  exact ⟨r, es', kn', rfl, hd, h.ref hP hQ h1 h2 f2 g2 hc hi⟩
theorem Mid0.rSend (hR : RefOK G) (hP : ProgFrame F) (hQ : RefFrame G) (h : Mid0 F G S R w0 pb x c s1 s2 wx) (i j : Int) {s' : St} (hs : SendTo s2 i j s') :
    Calls Tryz.prog 88 #[.pointer (some ⟨c, 0, none⟩), .int .i64 i, .int .i64 j] wx fun e w' => e = .returned (.tuple #[.int .i64 (sendR s2 i j).1, .int .i64 (sendR s2 i j).2]) ∧ Mid0 F G S R w0 pb x c s1 s' w' := by
  obtain ⟨R1, h1, h2⟩ := h.g
  refine Calls.mono (hR.sends wx c R1 s2 i j s' h1 hs) ?_
  rintro e w' ⟨rfl, R2, f2, g2, hc, hi⟩
  exact ⟨rfl, h.ref hP hQ h1 h2 f2 g2 hc hi⟩
theorem Mid0.rDel (hR : RefOK G) (hP : ProgFrame F) (hQ : RefFrame G) (h : Mid0 F G S R w0 pb x c s1 s2 wx) (f : Int) {s' : St} (hs : DelTo s2 f s') :
    Calls Tryz.prog 89 #[.pointer (some ⟨c, 0, none⟩), .int .i64 f] wx fun e w' => e = .returned (.tuple #[.int .i64 (delR s2 f).1, .int .i64 (delR s2 f).2]) ∧ Mid0 F G S R w0 pb x c s1 s' w' := by
  obtain ⟨R1, h1, h2⟩ := h.g
  refine Calls.mono (hR.dels wx c R1 s2 f s' h1 hs) ?_
  rintro e w' ⟨rfl, R2, f2, g2, hc, hi⟩
  exact ⟨rfl, h.ref hP hQ h1 h2 f2 g2 hc hi⟩
theorem Mid0.rBound (hR : RefOK G) (h : Mid0 F G S R w0 pb x c s1 s2 wx) (f : Int) : Calls Tryz.prog 87 #[.pointer (some ⟨c, 0, none⟩), .int .i64 f] wx fun e w' => ∃ n : Nat, e = .returned (.int .i64 (n : Int)) ∧ n ≤ 1000000 ∧ (n = 0 ↔ frNo s2 f = none) ∧ w' = wx := by
  obtain ⟨R1, h1, h2⟩ := h.g
  exact hR.bound wx c R1 s2 f h1
theorem Mid0.rUp (hR : RefOK G) (h : Mid0 F G S R w0 pb x c s1 s2 wx) (i : Int) : Calls Tryz.prog 83 #[.pointer (some ⟨c, 0, none⟩), .int .i64 i] wx fun e w' => e = .returned (.int .i64 (upR s2.kn i)) ∧ w' = wx := by
  obtain ⟨R1, h1, h2⟩ := h.g
  exact hR.up wx c R1 s2 i h1

theorem Mid.pAsk (hF : ProgOK F) (hP : ProgFrame F) (hQ : RefFrame G) (h : Mid F G S R w0 bx o pb x c s1 s2 wx) (i : Int) (t : ByteArray) (ht : t.size ≤ 1048576) :
    Calls Tryz.prog 20 #[.pointer (some ⟨x, 0, none⟩), .int .i64 i, .string t] wx fun e w' => ∃ u, e = .returned (.tuple #[.string u, .int .i64 (askR s1.es s1.kn i (toL t)).2]) ∧ toL u = (askR s1.es s1.kn i (toL t)).1 ∧ Mid F G S R w0 bx o pb x c s1 s2 w' := by
  refine Calls.mono (h.m.pAsk hF hP hQ i t ht) ?_
  rintro e w' ⟨u, rfl, hu, hm⟩
  exact ⟨u, rfl, hu, hm, h.bk, h.bS, h.bR⟩
theorem Mid.rAsk (hR : RefOK G) (hP : ProgFrame F) (hQ : RefFrame G) (h : Mid F G S R w0 bx o pb x c s1 s2 wx) (i : Int) (t : ByteArray) (ht : t.size ≤ 1048576) :
    Calls Tryz.prog 84 #[.pointer (some ⟨c, 0, none⟩), .int .i64 i, .string t] wx fun e w' => ∃ u, e = .returned (.tuple #[.string u, .int .i64 (askR s2.es s2.kn i (toL t)).2]) ∧ toL u = (askR s2.es s2.kn i (toL t)).1 ∧ Mid F G S R w0 bx o pb x c s1 s2 w' := by
  refine Calls.mono (h.m.rAsk hR hP hQ i t ht) ?_
  rintro e w' ⟨u, rfl, hu, hm⟩
  exact ⟨u, rfl, hu, hm, h.bk, h.bS, h.bR⟩
theorem Mid.pKnows (hF : ProgOK F) (hP : ProgFrame F) (hQ : RefFrame G) (h : Mid F G S R w0 bx o pb x c s1 s2 wx) (i : Int) :
    Calls Tryz.prog 18 #[.pointer (some ⟨x, 0, none⟩), .int .i64 i] wx fun e w' => e = .returned (.tuple #[.int .i64 (knowsR s1.kn i).1, .int .i64 (knowsR s1.kn i).2]) ∧ Mid F G S R w0 bx o pb x c s1 s2 w' := by
  refine Calls.mono (h.m.pKnows hF hP hQ i) ?_
  rintro e w' ⟨rfl, hm⟩
  exact ⟨rfl, hm, h.bk, h.bS, h.bR⟩
theorem Mid.pDo (hF : ProgOK F) (hP : ProgFrame F) (hQ : RefFrame G) (h : Mid F G S R w0 bx o pb x c s1 s2 wx) (i : Int) (t : ByteArray) (ht : t.size ≤ 1048576) {r : Int} {es' : List Ev} {kn' : List (List Bool)} (hd : DoOut s1.es s1.kn i (toL t) r es' kn') :
    Calls Tryz.prog 19 #[.pointer (some ⟨x, 0, none⟩), .int .i64 i, .string t] wx fun e w' => e = .returned (.int .i64 r) ∧ Mid F G S R w0 bx o pb x c ⟨es', kn', s1.fs⟩ s2 w' := by
  refine Calls.mono (h.m.pDo hF hP hQ i t ht hd) ?_
  rintro e w' ⟨rfl, hm⟩
  exact ⟨rfl, hm, h.bk, h.bS, h.bR⟩
theorem Mid.pSend (hF : ProgOK F) (hP : ProgFrame F) (hQ : RefFrame G) (h : Mid F G S R w0 bx o pb x c s1 s2 wx) (i j : Int) :
    Calls Tryz.prog 29 #[.pointer (some ⟨x, 0, none⟩), .int .i64 i, .int .i64 j] wx fun e w' => e = .returned (.tuple #[.int .i64 (sendR s1 i j).1, .int .i64 (sendR s1 i j).2]) ∧ ∃ s', SendTo s1 i j s' ∧ Mid F G S R w0 bx o pb x c s' s2 w' := by
  refine Calls.mono (h.m.pSend hF hP hQ i j) ?_
  rintro e w' ⟨rfl, s', hs, hm⟩
  exact ⟨rfl, s', hs, hm, h.bk, h.bS, h.bR⟩
theorem Mid.pDel (hF : ProgOK F) (hP : ProgFrame F) (hQ : RefFrame G) (h : Mid F G S R w0 bx o pb x c s1 s2 wx) (f : Int) :
    Calls Tryz.prog 23 #[.pointer (some ⟨x, 0, none⟩), .int .i64 f] wx fun e w' => e = .returned (.tuple #[.int .i64 (delR s1 f).1, .int .i64 (delR s1 f).2]) ∧ ∃ s', DelTo s1 f s' ∧ Mid F G S R w0 bx o pb x c s' s2 w' := by
  refine Calls.mono (h.m.pDel hF hP hQ f) ?_
  rintro e w' ⟨rfl, s', hs, hm⟩
  exact ⟨rfl, s', hs, hm, h.bk, h.bS, h.bR⟩
theorem Mid.pFrame (hF : ProgOK F) (hP : ProgFrame F) (hQ : RefFrame G) (h : Mid F G S R w0 bx o pb x c s1 s2 wx) (f : Int) :
    Calls Tryz.prog 86 #[.pointer (some ⟨x, 0, none⟩), .int .i64 f] wx fun e w' => e = .returned (.tuple #[.string (frameR s1 f).1, .int .i64 (frameR s1 f).2]) ∧ Mid F G S R w0 bx o pb x c s1 s2 w' := by
  refine Calls.mono (h.m.pFrame hF hP hQ f) ?_
  rintro e w' ⟨rfl, hm⟩
  exact ⟨rfl, hm, h.bk, h.bS, h.bR⟩
theorem Mid.rDo (hR : RefOK G) (hP : ProgFrame F) (hQ : RefFrame G) (h : Mid F G S R w0 bx o pb x c s1 s2 wx) (i : Int) (t : ByteArray) (ht : t.size ≤ 1048576) :
    Calls Tryz.prog 92 #[.pointer (some ⟨c, 0, none⟩), .int .i64 i, .string t] wx fun e w' => ∃ r es' kn', e = .returned (.int .i64 r) ∧ DoOut s2.es s2.kn i (toL t) r es' kn' ∧ Mid F G S R w0 bx o pb x c s1 ⟨es', kn', s2.fs⟩ w' := by
  refine Calls.mono (h.m.rDo hR hP hQ i t ht) ?_
  rintro e w' ⟨r, es', kn', rfl, hd, hm⟩
  exact ⟨r, es', kn', rfl, hd, hm, h.bk, h.bS, h.bR⟩
theorem Mid.rSend (hR : RefOK G) (hP : ProgFrame F) (hQ : RefFrame G) (h : Mid F G S R w0 bx o pb x c s1 s2 wx) (i j : Int) {s' : St} (hs : SendTo s2 i j s') :
    Calls Tryz.prog 88 #[.pointer (some ⟨c, 0, none⟩), .int .i64 i, .int .i64 j] wx fun e w' => e = .returned (.tuple #[.int .i64 (sendR s2 i j).1, .int .i64 (sendR s2 i j).2]) ∧ Mid F G S R w0 bx o pb x c s1 s' w' := by
  refine Calls.mono (h.m.rSend hR hP hQ i j hs) ?_
  rintro e w' ⟨rfl, hm⟩
  exact ⟨rfl, hm, h.bk, h.bS, h.bR⟩
theorem Mid.rDel (hR : RefOK G) (hP : ProgFrame F) (hQ : RefFrame G) (h : Mid F G S R w0 bx o pb x c s1 s2 wx) (f : Int) {s' : St} (hs : DelTo s2 f s') :
    Calls Tryz.prog 89 #[.pointer (some ⟨c, 0, none⟩), .int .i64 f] wx fun e w' => e = .returned (.tuple #[.int .i64 (delR s2 f).1, .int .i64 (delR s2 f).2]) ∧ Mid F G S R w0 bx o pb x c s1 s' w' := by
  refine Calls.mono (h.m.rDel hR hP hQ f hs) ?_
  rintro e w' ⟨rfl, hm⟩
  exact ⟨rfl, hm, h.bk, h.bS, h.bR⟩
theorem Mid.rBound (hR : RefOK G) (h : Mid F G S R w0 bx o pb x c s1 s2 wx) (f : Int) : Calls Tryz.prog 87 #[.pointer (some ⟨c, 0, none⟩), .int .i64 f] wx fun e w' => ∃ n : Nat, e = .returned (.int .i64 (n : Int)) ∧ n ≤ 1000000 ∧ (n = 0 ↔ frNo s2 f = none) ∧ w' = wx := h.m.rBound hR f
theorem Mid.rUp (hR : RefOK G) (h : Mid F G S R w0 bx o pb x c s1 s2 wx) (i : Int) : Calls Tryz.prog 83 #[.pointer (some ⟨c, 0, none⟩), .int .i64 i] wx fun e w' => e = .returned (.int .i64 (upR s2.kn i)) ∧ w' = wx := h.m.rUp hR i
end

set_option maxHeartbeats 4000000 in
set_option maxRecDepth 100000 in
theorem tells_ask (hF : ProgOK F) (hR : RefOK G) (hP : ProgFrame F) (hQ : RefFrame G) (w : World) (hG : Glob w) (pb x : Nat) (S : Nat → Prop) (c : Nat) (R : Nat → Prop) (s : St) (h : PairAt F G w pb x S c R s) (h4 : (∀ k, S k → 4 ≤ k) ∧ (∀ k, R k → 4 ≤ k))
    (o : StepD) (ho : o.ok) (hk : o.kind = 3) :
    Calls Tryz.prog 48 #[.pointer (some ⟨pb, 0, none⟩), o.val] w fun e w' => e = .returned (.bool true) ∧ Told F G S R w pb x c s w' := by
  have HP : Hid (ProgFrame F) := hP
  have HQ : Hid (RefFrame G) := hQ
  have hs : o.s.size ≤ 1048576 := ho.2.2.2.2
  unfold StepD.val
  obtain ⟨W1, hW1⟩ : ∃ W1, W1 = w.alloc (stepO o) := ⟨_, rfl⟩
  have HA0 : Hid (∀ q, Mid F G S R W1 w.heap.size o pb x c s s (W1.drewN q)) := fun q => by rw [hW1]; exact (Mid.start hP hQ hG h h4 o).drewN hP hQ q
  have HX : Hid (∀ wx, Mid F G S R W1 w.heap.size o pb x c s s wx → Calls Tryz.prog 20 #[.pointer (some ⟨x, 0, none⟩), .int .i64 o.n, .string o.s] wx _) := fun wx hx => hx.pAsk hF hP hQ o.n o.s hs
  have HY : Hid (∀ wx, Mid F G S R W1 w.heap.size o pb x c s s wx → Calls Tryz.prog 84 #[.pointer (some ⟨c, 0, none⟩), .int .i64 o.n, .string o.s] wx _) := fun wx hx => hx.rAsk hR hP hQ o.n o.s hs
  have HU : Hid (∀ wx, Mid F G S R W1 w.heap.size o pb x c s s wx → Calls Tryz.prog 83 #[.pointer (some ⟨c, 0, none⟩), .int .i64 o.n] wx _) := fun wx hx => hx.rUp hR o.n
  have hfin : Hid (∀ wx, Mid F G S R W1 w.heap.size o pb x c s s wx → Told F G S R w pb x c s wx) := fun wx hx => by rw [hW1] at hx; exact hx.fin
  have HW : Hid (w.alloc (stepO o) = W1) := hW1.symm
  have y0 : W1.cell? ⟨w.heap.size, 0, none⟩ = some (.int .i64 o.kind) := (HA0.out 0).b0
  have y1 : W1.cell? ⟨pb, 1, none⟩ = some (.pointer (some ⟨c, 0, none⟩)) := (HA0.out 0).p1
  have y2 : W1.cell? ⟨w.heap.size, 2, none⟩ = some (.int .i64 o.n) := (HA0.out 0).b2
  obtain ⟨k, a, n, m, t⟩ := o
  simp only at *
  subst hk
  clear hF hR hP hQ hG h ho hW1 h4
  go_enter Tryz.func48, Tryz.ntmps48
  go_wp2_with fail
  rw [HW.out]
  go_quiet (first | (go_at_call 83; exact Calls.mono (HU.out _ (HA0.out _)) (fun _ _ h => ⟨h.1, _, h.2⟩)))
  go_wp2_with fail
  have hA := HA0.out nq
  clear HA0 HU y0 y1 y2
  generalize W1.drewN nq = w2 at *
  have q0 := hA.p0
  have q2 := hA.b2
  have q4 := hA.b4
  simp only at q2 q4
  go_region_held3 (fun w' => Mid F G S R W1 w.heap.size ⟨3, a, n, m, t⟩ pb x c s s w' ∧ w'.cell? ⟨pb, 0, none⟩ = some (.pointer (some ⟨x, 0, none⟩)) ∧ w'.cell? ⟨w.heap.size, 2, none⟩ = some (.int .i64 n) ∧ w'.cell? ⟨w.heap.size, 4, none⟩ = some (.string t)) ((refine ⟨?_, ?_, ?_, ?_⟩ <;> (first | assumption | (exact Mid.drew HP.out HQ.out (by assumption)) | (exact Mid.p0 (by assumption)) | (exact Mid.b2 (by assumption)) | (exact Mid.b4 (by assumption))))) (first | (go_at_call 20; refine Calls.mono (HX.out _ ?_) ?_; (exact hA.drew HP.out HQ.out); rintro e w3 ⟨u, rfl, hu, hA3⟩))
  have Hu : Hid (toL u = (askR s.es s.kn n (toL t)).1) := hu
  clear hA q0 q2 q4 hu
  go_wp2_with fail
  have r1 := hA3.p1
  have r2 := hA3.b2
  have r4 := hA3.b4
  simp only at r2 r4
  go_region_held3 (fun w' => Mid F G S R W1 w.heap.size ⟨3, a, n, m, t⟩ pb x c s s w' ∧ w'.cell? ⟨pb, 1, none⟩ = some (.pointer (some ⟨c, 0, none⟩)) ∧ w'.cell? ⟨w.heap.size, 2, none⟩ = some (.int .i64 n) ∧ w'.cell? ⟨w.heap.size, 4, none⟩ = some (.string t)) ((refine ⟨?_, ?_, ?_, ?_⟩ <;> (first | assumption | (exact Mid.drew HP.out HQ.out (by assumption)) | (exact Mid.p1 (by assumption)) | (exact Mid.b2 (by assumption)) | (exact Mid.b4 (by assumption))))) (first | (go_at_call 84; refine Calls.mono (HY.out _ ?_) ?_; (exact hA3.drew HP.out HQ.out); rintro e w4 ⟨u', rfl, hu', hA4⟩))
  have htt : u' = u := toL_inj (hu'.trans Hu.out.symm)
  subst htt
  have HA4 : Hid (Mid F G S R W1 w.heap.size ⟨3, a, n, m, t⟩ pb x c s s w4) := hA4
  clear hA3 hA4 r1 r2 r4 hu'
  generalize (askR s.es s.kn n (toL t)).2 = g at *
  go_wp2_with (first | (go_at_call 82; refine (num_any _ _).mono ?_; rintro e w5 ⟨rfl, rfl⟩))
  go_ret
  exact ⟨rfl, hfin.out _ HA4.out⟩
end Go.Proofs.YtoiiaankpnhppaaGreatDoor
namespace Go.Proofs.YtoiiaankpnhppaaGreatDoor
open Go.RowKit
variable {F G : Stt}

set_option maxHeartbeats 4000000 in
set_option maxRecDepth 100000 in
theorem tells_knows (hF : ProgOK F) (hR : RefOK G) (hP : ProgFrame F) (hQ : RefFrame G) (w : World) (hG : Glob w) (pb x : Nat) (S : Nat → Prop) (c : Nat) (R : Nat → Prop) (s : St) (h : PairAt F G w pb x S c R s) (h4 : (∀ k, S k → 4 ≤ k) ∧ (∀ k, R k → 4 ≤ k))
    (o : StepD) (ho : o.ok) (hk : o.kind = 4) :
    Calls Tryz.prog 48 #[.pointer (some ⟨pb, 0, none⟩), o.val] w fun e w' => e = .returned (.bool true) ∧ Told F G S R w pb x c s w' := by
  have HP : Hid (ProgFrame F) := hP
  have HQ : Hid (RefFrame G) := hQ
  have HR : Hid (RefOK G) := hR
  unfold StepD.val
  obtain ⟨W1, hW1⟩ : ∃ W1, W1 = w.alloc (stepO o) := ⟨_, rfl⟩
  have HA0 : Hid (∀ q, Mid F G S R W1 w.heap.size o pb x c s s (W1.drewN q)) := fun q => by rw [hW1]; exact (Mid.start hP hQ hG h h4 o).drewN hP hQ q
  have HX : Hid (∀ wx, Mid F G S R W1 w.heap.size o pb x c s s wx → Calls Tryz.prog 18 #[.pointer (some ⟨x, 0, none⟩), .int .i64 o.n] wx _) := fun wx hx => hx.pKnows hF hP hQ o.n
  have HU : Hid (∀ wx, Mid F G S R W1 w.heap.size o pb x c s s wx → Calls Tryz.prog 83 #[.pointer (some ⟨c, 0, none⟩), .int .i64 o.n] wx _) := fun wx hx => hx.rUp hR o.n
  have hfin : Hid (∀ wx, Mid F G S R W1 w.heap.size o pb x c s s wx → Told F G S R w pb x c s wx) := fun wx hx => by rw [hW1] at hx; exact hx.fin
  have HW : Hid (w.alloc (stepO o) = W1) := hW1.symm
  have y0 : W1.cell? ⟨w.heap.size, 0, none⟩ = some (.int .i64 o.kind) := (HA0.out 0).b0
  have y1 : W1.cell? ⟨pb, 1, none⟩ = some (.pointer (some ⟨c, 0, none⟩)) := (HA0.out 0).p1
  have y2 : W1.cell? ⟨w.heap.size, 2, none⟩ = some (.int .i64 o.n) := (HA0.out 0).b2
  obtain ⟨k, a, n, m, t⟩ := o
  simp only at *
  subst hk
  clear hF hR hP hQ hG h ho hW1 h4
  go_enter Tryz.func48, Tryz.ntmps48
  go_wp2_with fail
  rw [HW.out]
  go_quiet (first | (go_at_call 83; exact Calls.mono (HU.out _ (HA0.out _)) (fun _ _ h => ⟨h.1, _, h.2⟩)))
  go_wp2_with fail
  have hA := HA0.out nq
  clear HA0 HU y0 y1 y2
  generalize W1.drewN nq = w2 at *
  have q0 := hA.p0
  have q2 := hA.b2
  simp only at q2
  go_region_held3 (fun w' => Mid F G S R W1 w.heap.size ⟨4, a, n, m, t⟩ pb x c s s w' ∧ w'.cell? ⟨pb, 0, none⟩ = some (.pointer (some ⟨x, 0, none⟩)) ∧ w'.cell? ⟨w.heap.size, 2, none⟩ = some (.int .i64 n)) ((refine ⟨?_, ?_, ?_⟩ <;> (first | assumption | (exact Mid.drew HP.out HQ.out (by assumption)) | (exact Mid.p0 (by assumption)) | (exact Mid.b2 (by assumption))))) (first | (go_at_call 18; refine Calls.mono (HX.out _ ?_) ?_; (exact hA.drew HP.out HQ.out); rintro e w3 ⟨rfl, hA3⟩))
  clear hA q0 q2 HX
  by_cases hn : 0 ≤ n ∧ n < s.kn.length
  · obtain ⟨i, rfl⟩ := Int.eq_ofNat_of_zero_le hn.1
    have hi : i < s.kn.length := by omega
    have e1 : upR s.kn (i : Int) = 0 := if_pos hn
    have e2 : knowsR s.kn (i : Int) = ((cnt s.kn[i] : Int), 0) := by
      unfold knowsR; rw [if_pos hn]; simp [List.getD_eq_getElem?_getD, hi]
    rw [e1, e2]
    obtain ⟨R1, h1, h2⟩ := hA3.m.g
    obtain ⟨h6, rb, cap, f1, hcap, hrows⟩ := HR.out.cells _ _ _ _ h1
    obtain ⟨kv, k0, k1, hl5⟩ := hrows i hi
    have r1 := hA3.p1
    have r2 := hA3.b2
    simp only at r2
    have Hcnt : Hid (∀ q, Calls Tryz.prog 85 #[kv] (w3.drewN q) fun e w' => e = .returned (.int .i64 (cnt s.kn[i] : Int)) ∧ w' = w3.drewN q) := fun q => Count_any w3.heap.size kv s.kn[i] _ hl5 (SliceT.below k1 (below_drewN (Below.refl _ _) q)).toIn
    have HA3 : Hid (Mid F G S R W1 w.heap.size ⟨4, a, (i : Int), m, t⟩ pb x c s s w3) := hA3
    clear h1 h2 hA3 k1 e1 e2 hn hrows
    generalize cnt s.kn[i] = z at *
    have hi0 : (0 : Int) ≤ (i : Int) := by omega
    have hi1 : (i : Int) < (s.kn.length : Int) := by omega
    go_wp2_with fail
    go_quiet (first | (go_at_call 85; exact Calls.mono (Hcnt.out _) (fun _ _ h => ⟨h.1, _, h.2⟩)))
    have HA4 : Hid (Mid F G S R W1 w.heap.size ⟨4, a, (i : Int), m, t⟩ pb x c s s (w3.drewN nq)) := HA3.out.drewN HP.out HQ.out _
    go_wp2_with (first | (go_at_call 82; refine (num_any _ _).mono ?_; rintro e w5 ⟨rfl, rfl⟩))
    go_ret
    exact ⟨rfl, hfin.out _ HA4.out⟩
  · have e1 : upR s.kn n = 2 := if_neg hn
    have e2 : knowsR s.kn n = (0, 2) := if_neg hn
    rw [e1, e2]
    have HA3 : Hid (Mid F G S R W1 w.heap.size ⟨4, a, n, m, t⟩ pb x c s s w3) := hA3
    clear hA3 e1 e2 hn
    go_wp2_with (first | (go_at_call 82; refine (num_any _ _).mono ?_; rintro e w5 ⟨rfl, rfl⟩))
    all_goals (go_ret; exact ⟨rfl, hfin.out _ HA3.out⟩)
end Go.Proofs.YtoiiaankpnhppaaGreatDoor
namespace Go.Proofs.YtoiiaankpnhppaaGreatDoor
open Go.RowKit

theorem doOut_exists (es : List Ev) (kn : List (List Bool)) (i : Int) (s : Thk.Bs) : ∃ r es' kn', DoOut es kn i s r es' kn' := by
  by_cases hi : 0 ≤ i ∧ i < kn.length
  · cases hr : Thk.read s with
    | inl k => exact ⟨_, _, _, DoOut.bad k hi hr⟩
    | inr c =>
      by_cases hl : 500 ≤ es.length
      · exact ⟨_, _, _, DoOut.full c hi hr hl⟩
      · exact ⟨_, _, _, DoOut.done c ⟨⟨c.path.toArray⟩, c.act, ⟨c.val.toArray⟩, c.n, kn.getD i.toNat []⟩ hi hr (by omega) rfl rfl rfl rfl rfl⟩
  · exact ⟨_, _, _, DoOut.rep hi⟩

theorem doOut_det {es : List Ev} {kn : List (List Bool)} {i : Int} {s : Thk.Bs} {r r2 : Int} {e1 e2 : List Ev} {k1 k2 : List (List Bool)} (h : DoOut es kn i s r e1 k1) (h2 : DoOut es kn i s r2 e2 k2) : r = r2 ∧ e1 = e2 ∧ k1 = k2 := by
  rcases h with ⟨hi, rfl, rfl, rfl⟩ | ⟨k, hi, hr, rfl, rfl, rfl⟩ | ⟨c, hi, hr, hl, rfl, rfl, rfl⟩ | ⟨c, e, hi, hr, hl, a1, a2, a3, a4, a5, rfl, rfl, rfl⟩ <;>
    rcases h2 with ⟨h3, rfl, rfl, rfl⟩ | ⟨k', h3, h4, rfl, rfl, rfl⟩ | ⟨c', h3, h4, h5, rfl, rfl, rfl⟩ | ⟨c', e', h3, h4, h5, b1, b2, b3, b4, b5, rfl, rfl, rfl⟩
  · exact ⟨rfl, rfl, rfl⟩
  · exact absurd h3 hi
  · exact absurd h3 hi
  · exact absurd h3 hi
  · exact absurd hi h3
  · rw [hr] at h4; cases h4; exact ⟨rfl, rfl, rfl⟩
  · rw [hr] at h4; cases h4
  · rw [hr] at h4; cases h4
  · exact absurd hi h3
  · rw [hr] at h4; cases h4
  · exact ⟨rfl, rfl, rfl⟩
  · omega
  · exact absurd hi h3
  · rw [hr] at h4; cases h4
  · omega
  · rw [hr] at h4
    cases h4
    obtain ⟨p, a, v, n, sw⟩ := e
    obtain ⟨p', a', v', n', sw'⟩ := e'
    simp only at a1 a2 a3 a4 a5 b1 b2 b3 b4 b5
    have hp : p = p' := toL_inj (a1.trans b1.symm)
    have hv : v = v' := toL_inj (a3.trans b3.symm)
    subst hp hv a2 a4 a5
    refine ⟨rfl, ?_, rfl⟩
    rw [b2, b4, b5]
variable {F G : Stt}

set_option maxHeartbeats 4000000 in
set_option maxRecDepth 100000 in
theorem turns_do (hF : ProgOK F) (hR : RefOK G) (hP : ProgFrame F) (hQ : RefFrame G) (w : World) (hG : Glob w) (pb x : Nat) (S : Nat → Prop) (c : Nat) (R : Nat → Prop) (s : St) (h : PairAt F G w pb x S c R s) (h4 : (∀ k, S k → 4 ≤ k) ∧ (∀ k, R k → 4 ≤ k))
    (o : StepD) (ho : o.ok) (hk : o.kind = 2) :
    Calls Tryz.prog 52 #[.pointer (some ⟨pb, 0, none⟩), o.val] w fun e w' => e = .returned (.bool true) ∧ ∃ s', Told F G S R w pb x c s' w' := by
  have HP : Hid (ProgFrame F) := hP
  have HQ : Hid (RefFrame G) := hQ
  have hs : o.s.size ≤ 1048576 := ho.2.2.2.2
  obtain ⟨r, es1, kn1, hd⟩ := doOut_exists s.es s.kn o.n (toL o.s)
  unfold StepD.val
  obtain ⟨W1, hW1⟩ : ∃ W1, W1 = w.alloc (stepO o) := ⟨_, rfl⟩
  have HA0 : Hid (Mid F G S R W1 w.heap.size o pb x c s s W1) := by rw [hW1]; exact Mid.start hP hQ hG h h4 o
  have HX : Hid (∀ wx, Mid F G S R W1 w.heap.size o pb x c s s wx → Calls Tryz.prog 19 #[.pointer (some ⟨x, 0, none⟩), .int .i64 o.n, .string o.s] wx _) := fun wx hx => hx.pDo hF hP hQ o.n o.s hs hd
  have HY : Hid (∀ wx, Mid F G S R W1 w.heap.size o pb x c ⟨es1, kn1, s.fs⟩ s wx → Calls Tryz.prog 92 #[.pointer (some ⟨c, 0, none⟩), .int .i64 o.n, .string o.s] wx fun e w' => e = .returned (.int .i64 r) ∧ Mid F G S R W1 w.heap.size o pb x c ⟨es1, kn1, s.fs⟩ ⟨es1, kn1, s.fs⟩ w') := fun wx hx => by
    refine Calls.mono (hx.rDo hR hP hQ o.n o.s hs) ?_
    rintro e w' ⟨r', es', kn', rfl, hd', hm⟩
    obtain ⟨rfl, rfl, rfl⟩ := doOut_det hd hd'
    exact ⟨rfl, hm⟩
  have hfin : Hid (∀ wx, Mid F G S R W1 w.heap.size o pb x c ⟨es1, kn1, s.fs⟩ ⟨es1, kn1, s.fs⟩ wx → Told F G S R w pb x c ⟨es1, kn1, s.fs⟩ wx) := fun wx hx => by rw [hW1] at hx; exact hx.fin
  have HW : Hid (w.alloc (stepO o) = W1) := hW1.symm
  obtain ⟨k, a, n, m, t⟩ := o
  simp only at *
  subst hk
  clear hF hR hP hQ hG h ho hW1 h4 hd
  go_enter Tryz.func52, Tryz.ntmps52
  go_wp2_with fail
  rw [HW.out]
  have hA := HA0.out
  clear HA0
  have q0 := hA.p0
  have q2 := hA.b2
  have q4 := hA.b4
  simp only at q2 q4
  go_region_held3 (fun w' => w'.cell? ⟨pb, 0, none⟩ = some (.pointer (some ⟨x, 0, none⟩)) ∧ w'.cell? ⟨w.heap.size, 2, none⟩ = some (.int .i64 n) ∧ w'.cell? ⟨w.heap.size, 4, none⟩ = some (.string t)) ((refine ⟨?_, ?_, ?_⟩ <;> (first | assumption | (exact Mid.p0 (by assumption)) | (exact Mid.b2 (by assumption)) | (exact Mid.b4 (by assumption))))) (first | (go_at_call 19; refine Calls.mono (HX.out _ ?_) ?_; (exact hA.drew HP.out HQ.out); rintro e w3 ⟨rfl, hA3⟩))
  clear hA q0 q2 q4 HX
  go_wp2_with fail
  have r1 := hA3.p1
  have r2 := hA3.b2
  have r4 := hA3.b4
  simp only at r2 r4
  go_region_held3 (fun w' => w'.cell? ⟨pb, 1, none⟩ = some (.pointer (some ⟨c, 0, none⟩)) ∧ w'.cell? ⟨w.heap.size, 2, none⟩ = some (.int .i64 n) ∧ w'.cell? ⟨w.heap.size, 4, none⟩ = some (.string t)) ((refine ⟨?_, ?_, ?_⟩ <;> (first | assumption | (exact Mid.p1 (by assumption)) | (exact Mid.b2 (by assumption)) | (exact Mid.b4 (by assumption))))) (first | (go_at_call 92; refine Calls.mono (HY.out _ ?_) ?_; (exact hA3.drew HP.out HQ.out); rintro e w4 ⟨rfl, hA4⟩))
  have HA4 : Hid (Told F G S R w pb x c ⟨es1, kn1, s.fs⟩ w4) := hfin.out _ hA4
  clear hA3 hA4 r1 r2 r4
  go_wp2_with (first | (go_at_call 82; refine (num_any _ _).mono ?_; rintro e w5 ⟨rfl, rfl⟩))
  go_ret
  exact ⟨rfl, _, HA4.out⟩
end Go.Proofs.YtoiiaankpnhppaaGreatDoor
namespace Go.Proofs.YtoiiaankpnhppaaGreatDoor
open Go.RowKit

set_option maxHeartbeats 4000000 in
set_option maxRecDepth 100000 in
theorem turns_idle (w : World) (pb : Nat) (o : StepD) (hk : o.kind ≤ 0) :
    Calls Tryz.prog 52 #[.pointer (some ⟨pb, 0, none⟩), o.val] w fun e w' => e = .returned (.bool true) ∧ Below w.heap.size w w' := by
  obtain ⟨k, a, n, m, s⟩ := o
  unfold StepD.val
  simp only at *
  have k2 : (k == 2) = false := beq_eq_false_iff_ne.2 (by omega)
  have k10 : (k == 10) = false := beq_eq_false_iff_ne.2 (by omega)
  have k11 : (k == 11) = false := beq_eq_false_iff_ne.2 (by omega)
  have k12 : (k == 12) = false := beq_eq_false_iff_ne.2 (by omega)
  have k13 : (k == 13) = false := beq_eq_false_iff_ne.2 (by omega)
  have Hb : Hid (∀ ob, Below w.heap.size w (w.alloc ob)) := fun ob => (Below.refl _ w).alloc (Nat.le_refl _) ob
  go_enter Tryz.func52, Tryz.ntmps52
  go_wp2_with (first | (go_at_call 82; refine (num_any _ _).mono ?_; rintro e w5 ⟨rfl, rfl⟩))
  go_ret
  exact ⟨rfl, Hb.out _⟩
variable {F G : Stt}

set_option maxHeartbeats 4000000 in
set_option maxRecDepth 100000 in
theorem frame_mid (hF : ProgOK F) (hR : RefOK G) (hP : ProgFrame F) (hQ : RefFrame G) {S R : Nat → Prop} {w0 : World} {pb x c : Nat} {s : St} {w : World} (h : Mid0 F G S R w0 pb x c s s w)
    (b : Nat) (hb : w0.cell? ⟨b, 1, none⟩ = some (.bool false)) (hnb : ¬ S b ∧ ¬ R b) (hbl : b < w0.heap.size) (f : Int) :
    Calls Tryz.prog 49 #[.pointer (some ⟨b, 0, none⟩), .pointer (some ⟨pb, 0, none⟩), .int .i64 f] w fun e w' => e = .returned (.bool true) ∧ Mid0 F G S R w0 pb x c s s w' := by
  have HX : Hid (∀ wx, Mid0 F G S R w0 pb x c s s wx → Calls Tryz.prog 86 #[.pointer (some ⟨x, 0, none⟩), .int .i64 f] wx fun e w' => e = .returned (.tuple #[.string (frameR s f).1, .int .i64 (frameR s f).2]) ∧ Mid0 F G S R w0 pb x c s s w') := fun wx hx => hx.pFrame hF hP hQ f
  have HB : Hid (∀ wx, Mid0 F G S R w0 pb x c s s wx → Calls Tryz.prog 87 #[.pointer (some ⟨c, 0, none⟩), .int .i64 f] wx fun e w' => ∃ n : Nat, e = .returned (.int .i64 (n : Int)) ∧ n ≤ 1000000 ∧ (n = 0 ↔ frNo s f = none) ∧ w' = wx) := fun wx hx => hx.rBound hR f
  have HC : Hid (∀ wx, Mid0 F G S R w0 pb x c s s wx → wx.cell? ⟨b, 1, none⟩ = some (.bool false)) := fun wx hx => (hx.cell hbl hnb.1 hnb.2 1).trans hb
  have hsz : ∀ g, frNo s f = some g → g.bytes.size ≤ 1000000000 := fun g hg => by
    obtain ⟨S', h1, _⟩ := h.f
    exact hF.fsz _ _ _ _ _ _ h1 hg
  have q0 := h.p0
  have H : Hid (_) := h
  clear hF hR hP hQ hb hnb hbl h
  go_enter Tryz.func49, Tryz.ntmps49
  go_wp2_with fail
  refine Calls.mono (HX.out _ H.out) ?_
  rintro e w2 ⟨rfl, h2⟩
  clear q0 H
  have q0 := h2.p0
  have H2 : Hid (_) := h2
  clear h2
  go_wp2_with fail
  refine Calls.mono (HX.out _ H2.out) ?_
  rintro e w3 ⟨rfl, h3⟩
  clear q0 H2 HX
  have q1 := h3.p1
  have H3 : Hid (Mid0 F G S R w0 pb x c s s w3) := h3
  have cb := HC.out _ h3
  clear h3 HC
  go_wp2_with fail
  refine Calls.mono (HB.out _ H3.out) ?_
  rintro e w4 ⟨n, rfl, hn, hz, rfl⟩
  clear HB q1
  cases hf : frNo s f with
  | none =>
    have e1 : frameR s f = (⟨#[]⟩, 9) := by unfold frameR; rw [hf]
    have e2 : n = 0 := hz.2 hf
    subst e2
    rw [e1]
    clear hz hf e1 hsz hn
    go_wp2_with (first | (go_at_call 82; refine (num_any _ _).mono ?_; rintro e w5 ⟨rfl, rfl⟩))
    go_ret
    exact ⟨rfl, H3.out⟩
  | some g =>
    have e1 : frameR s f = (g.bytes, 0) := by unfold frameR; rw [hf]
    have e2 : ¬ n = 0 := fun h5 => by rw [hz.1 h5] at hf; cases hf
    have hz1 := hsz g hf
    rw [e1]
    clear hz hf e1 hsz
    have e3 : ((n : Int) == 0) = false := beq_eq_false_iff_ne.2 (by omega)
    generalize g.bytes = bt at *
    by_cases hlen : (bt.size : Int) ≤ (n : Int)
    · go_wp2_with (first | (go_at_call 82; refine (num_any _ _).mono ?_; rintro e w5 ⟨rfl, rfl⟩))
      go_ret
      exact ⟨rfl, H3.out⟩
    · go_wp2_with (first | (go_at_call 82; refine (num_any _ _).mono ?_; rintro e w5 ⟨rfl, rfl⟩))
      go_ret
      exact ⟨rfl, H3.out⟩
theorem frame_any (hF : ProgOK F) (hR : RefOK G) (hP : ProgFrame F) (hQ : RefFrame G) (w : World) (hG : Glob w) (pb x : Nat) (S : Nat → Prop) (c : Nat) (R : Nat → Prop) (s : St) (h : PairAt F G w pb x S c R s) (h4 : (∀ k, S k → 4 ≤ k) ∧ (∀ k, R k → 4 ≤ k))
    (b : Nat) (hb : w.cell? ⟨b, 1, none⟩ = some (.bool false)) (hnb : ¬ S b ∧ ¬ R b) (hbl : b < w.heap.size) (f : Int) :
    Calls Tryz.prog 49 #[.pointer (some ⟨b, 0, none⟩), .pointer (some ⟨pb, 0, none⟩), .int .i64 f] w fun e w' => e = .returned (.bool true) ∧ Told F G S R w pb x c s w' := by
  refine Calls.mono (frame_mid hF hR hP hQ (Mid0.start hP hQ hG h h4 (Below.refl _ _)) b hb hnb hbl f) ?_
  rintro e w' ⟨rfl, h5⟩
  exact ⟨rfl, h5.fin⟩

theorem sendR_rng (s : St) (i j : Int) (h : s.fs.length ≤ 1000000) : 0 ≤ (sendR s i j).1 ∧ (sendR s i j).1 ≤ 1000001 ∧ 0 ≤ (sendR s i j).2 ∧ (sendR s i j).2 ≤ 9 := by
  unfold sendR
  split
  · split
    · simp
    · split <;> simp <;> omega
  · simp
theorem delR_rng (s : St) (f : Int) (h : s.fs.length ≤ 1000000) : 0 ≤ (delR s f).1 ∧ (delR s f).1 ≤ 1000001 ∧ 0 ≤ (delR s f).2 ∧ (delR s f).2 ≤ 9 := by
  unfold delR
  split
  · simp
  · split
    · simp
    · split <;> simp <;> omega

set_option maxHeartbeats 8000000 in
set_option maxRecDepth 100000 in
theorem frames_any (hF : ProgOK F) (hR : RefOK G) (hP : ProgFrame F) (hQ : RefFrame G) (w : World) (hG : Glob w) (pb x : Nat) (S : Nat → Prop) (c : Nat) (R : Nat → Prop) (s : St) (h : PairAt F G w pb x S c R s) (h4 : (∀ k, S k → 4 ≤ k) ∧ (∀ k, R k → 4 ≤ k))
    (b : Nat) (hb : w.cell? ⟨b, 1, none⟩ = some (.bool false)) (hnb : ¬ S b ∧ ¬ R b) (hbl : b < w.heap.size) (o : StepD) (ho : o.ok) (hk : o.kind = 5 ∨ o.kind = 7) :
    Calls Tryz.prog 50 #[.pointer (some ⟨b, 0, none⟩), .pointer (some ⟨pb, 0, none⟩), o.val] w fun e w' => e = .returned (.bool true) ∧ ∃ s', Told F G S R w pb x c s' w' := by
  have HP : Hid (ProgFrame F) := hP
  have HQ : Hid (RefFrame G) := hQ
  unfold StepD.val
  obtain ⟨W1, hW1⟩ : ∃ W1, W1 = w.alloc (stepO o) := ⟨_, rfl⟩
  have HA0 : Hid (Mid F G S R W1 w.heap.size o pb x c s s W1) := by rw [hW1]; exact Mid.start hP hQ hG h h4 o
  have hb1 : Below w.heap.size w W1 := by rw [hW1]; exact (Below.refl _ w).alloc (Nat.le_refl _) _
  have HFm : Hid (∀ s' wx f, Mid F G S R W1 w.heap.size o pb x c s' s' wx → Calls Tryz.prog 49 #[.pointer (some ⟨b, 0, none⟩), .pointer (some ⟨pb, 0, none⟩), .int .i64 f] wx fun e w' => e = .returned (.bool true) ∧ ∃ s', Told F G S R w pb x c s' w') := fun s' wx f hx => by
    refine Calls.mono (frame_mid hF hR hP hQ hx.m b ((hb1.cell (p := ⟨b, 1, none⟩) hbl).trans hb) hnb (Nat.lt_of_lt_of_le hbl hb1.size) f) ?_
    rintro e w' ⟨rfl, h5⟩
    refine ⟨rfl, s', ?_⟩
    have h6 : Mid F G S R (w.alloc (stepO o)) w.heap.size o pb x c s' s' w' := by rw [← hW1]; exact ⟨h5, hx.bk, hx.bS, hx.bR⟩
    exact h6.fin
  have hfin : Hid (∀ s' wx, Mid F G S R W1 w.heap.size o pb x c s' s' wx → ∃ s', Told F G S R w pb x c s' wx) := fun s' wx hx => by rw [hW1] at hx; exact ⟨s', hx.fin⟩
  have hfl : s.fs.length ≤ 1000000 := hF.flen _ _ _ _ h.f
  have HW : Hid (w.alloc (stepO o) = W1) := hW1.symm
  rcases hk with hk | hk
  · have HX : Hid (∀ wx, Mid F G S R W1 w.heap.size o pb x c s s wx → Calls Tryz.prog 29 #[.pointer (some ⟨x, 0, none⟩), .int .i64 o.n, .int .i64 o.m] wx _) := fun wx hx => hx.pSend hF hP hQ o.n o.m
    have HY : Hid (∀ wx s', SendTo s o.n o.m s' → Mid F G S R W1 w.heap.size o pb x c s' s wx → Calls Tryz.prog 88 #[.pointer (some ⟨c, 0, none⟩), .int .i64 o.n, .int .i64 o.m] wx _) := fun wx s' hs hx => hx.rSend hR hP hQ o.n o.m hs
    obtain ⟨r1, r2, r3, r4⟩ := sendR_rng s o.n o.m hfl
    obtain ⟨k, a, n, m, t⟩ := o
    simp only at *
    subst hk
    clear hF hR hP hQ hG h ho hW1 h4 hb hnb hbl hb1 hfl
    generalize sendR s n m = sr at *
    obtain ⟨u, v⟩ := sr
    simp only at *
    go_enter Tryz.func50, Tryz.ntmps50
    have hA := HA0.out
    clear HA0
    have q00 := hA.b0
    simp only at q00
    go_wp2_with fail
    rw [HW.out]
    have q0 := hA.p0
    have q2 := hA.b2
    have q3 := hA.b3
    simp only at q2 q3
    go_wp2_with fail
    go_region_held3 (fun w' => w'.cell? ⟨pb, 0, none⟩ = some (.pointer (some ⟨x, 0, none⟩)) ∧ w'.cell? ⟨w.heap.size, 2, none⟩ = some (.int .i64 n) ∧ w'.cell? ⟨w.heap.size, 3, none⟩ = some (.int .i64 m)) ((refine ⟨?_, ?_, ?_⟩ <;> (first | assumption | (exact Mid.p0 (by assumption)) | (exact Mid.b2 (by assumption)) | (exact Mid.b3 (by assumption))))) (first | (go_at_call 29; refine Calls.mono (HX.out _ ?_) ?_; (exact hA.drew HP.out HQ.out); rintro e w3 ⟨rfl, s', hs', hA3⟩))
    have Hs' : Hid (_) := hs'
    clear hA q0 q2 q3 q00 HX hs'
    go_wp2_with fail
    have r1 := hA3.p1
    have r2 := hA3.b2
    have r3 := hA3.b3
    simp only at r2 r3
    go_region_held3 (fun w' => w'.cell? ⟨pb, 1, none⟩ = some (.pointer (some ⟨c, 0, none⟩)) ∧ w'.cell? ⟨w.heap.size, 2, none⟩ = some (.int .i64 n) ∧ w'.cell? ⟨w.heap.size, 3, none⟩ = some (.int .i64 m)) ((refine ⟨?_, ?_, ?_⟩ <;> (first | assumption | (exact Mid.p1 (by assumption)) | (exact Mid.b2 (by assumption)) | (exact Mid.b3 (by assumption))))) (first | (go_at_call 88; refine Calls.mono (HY.out _ s' Hs'.out ?_) ?_; (exact hA3.drew HP.out HQ.out); rintro e w4 ⟨rfl, hA4⟩))
    have HA4 : Hid (Mid F G S R W1 w.heap.size ⟨5, a, n, m, t⟩ pb x c s' s' w4) := hA4
    clear hA3 hA4 r1 r2 r3 HY Hs'
    by_cases hz : u = 0
    · subst hz
      go_wp2_with (first | (go_at_call 82; refine (num_any _ _).mono ?_; rintro e w5 ⟨rfl, rfl⟩))
      go_ret
      exact ⟨rfl, hfin.out _ _ HA4.out⟩
    · have hzb : (u == 0) = false := beq_eq_false_iff_ne.2 hz
      go_wp2_with (first | (go_at_call 82; refine (num_any _ _).mono ?_; rintro e w5 ⟨rfl, rfl⟩))
      refine Calls.mono (HFm.out _ _ u HA4.out) ?_
      rintro e w6 ⟨rfl, h6⟩
      have H6 : Hid (_) := h6
      clear h6 HFm hfin HA4
      go_wp2_with fail
      go_ret
      exact ⟨rfl, H6.out⟩
  · have HX : Hid (∀ wx, Mid F G S R W1 w.heap.size o pb x c s s wx → Calls Tryz.prog 23 #[.pointer (some ⟨x, 0, none⟩), .int .i64 o.n] wx _) := fun wx hx => hx.pDel hF hP hQ o.n
    have HY : Hid (∀ wx s', DelTo s o.n s' → Mid F G S R W1 w.heap.size o pb x c s' s wx → Calls Tryz.prog 89 #[.pointer (some ⟨c, 0, none⟩), .int .i64 o.n] wx _) := fun wx s' hs hx => hx.rDel hR hP hQ o.n hs
    obtain ⟨r1, r2, r3, r4⟩ := delR_rng s o.n hfl
    obtain ⟨k, a, n, m, t⟩ := o
    simp only at *
    subst hk
    clear hF hR hP hQ hG h ho hW1 h4 hb hnb hbl hb1 hfl
    generalize delR s n = sr at *
    obtain ⟨u, v⟩ := sr
    simp only at *
    go_enter Tryz.func50, Tryz.ntmps50
    have hA := HA0.out
    clear HA0
    have q00 := hA.b0
    simp only at q00
    go_wp2_with fail
    rw [HW.out]
    have q0 := hA.p0
    have q2 := hA.b2
    simp only at q2
    go_wp2_with fail
    go_region_held3 (fun w' => w'.cell? ⟨pb, 0, none⟩ = some (.pointer (some ⟨x, 0, none⟩)) ∧ w'.cell? ⟨w.heap.size, 2, none⟩ = some (.int .i64 n)) ((refine ⟨?_, ?_⟩ <;> (first | assumption | (exact Mid.p0 (by assumption)) | (exact Mid.b2 (by assumption))))) (first | (go_at_call 23; refine Calls.mono (HX.out _ ?_) ?_; (exact hA.drew HP.out HQ.out); rintro e w3 ⟨rfl, s', hs', hA3⟩))
    have Hs' : Hid (_) := hs'
    clear hA q0 q2 q00 HX hs'
    go_wp2_with fail
    have r1 := hA3.p1
    have r2 := hA3.b2
    simp only at r2
    go_region_held3 (fun w' => w'.cell? ⟨pb, 1, none⟩ = some (.pointer (some ⟨c, 0, none⟩)) ∧ w'.cell? ⟨w.heap.size, 2, none⟩ = some (.int .i64 n)) ((refine ⟨?_, ?_⟩ <;> (first | assumption | (exact Mid.p1 (by assumption)) | (exact Mid.b2 (by assumption))))) (first | (go_at_call 89; refine Calls.mono (HY.out _ s' Hs'.out ?_) ?_; (exact hA3.drew HP.out HQ.out); rintro e w4 ⟨rfl, hA4⟩))
    have HA4 : Hid (Mid F G S R W1 w.heap.size ⟨7, a, n, m, t⟩ pb x c s' s' w4) := hA4
    clear hA3 hA4 r1 r2 HY Hs'
    by_cases hz : u = 0
    · subst hz
      go_wp2_with (first | (go_at_call 82; refine (num_any _ _).mono ?_; rintro e w5 ⟨rfl, rfl⟩))
      go_ret
      exact ⟨rfl, hfin.out _ _ HA4.out⟩
    · have hzb : (u == 0) = false := beq_eq_false_iff_ne.2 hz
      go_wp2_with (first | (go_at_call 82; refine (num_any _ _).mono ?_; rintro e w5 ⟨rfl, rfl⟩))
      refine Calls.mono (HFm.out _ _ u HA4.out) ?_
      rintro e w6 ⟨rfl, h6⟩
      have H6 : Hid (_) := h6
      clear h6 HFm hfin HA4
      go_wp2_with fail
      go_ret
      exact ⟨rfl, H6.out⟩
end Go.Proofs.YtoiiaankpnhppaaGreatDoor
namespace Go.Proofs.YtoiiaankpnhppaaGreatDoor
open Go.RowKit
variable {F G : Stt}

structure PairD where
  pb : Nat
  x : Nat
  S : Nat → Prop
  c : Nat
  R : Nat → Prop
  s : St
def PairD.At (F G : Stt) (w : World) (d : PairD) : Prop := PairAt F G w d.pb d.x d.S d.c d.R d.s
def PairD.foot (d : PairD) (k : Nat) : Prop := d.S k ∨ d.R k

theorem foot_tag (hP : ProgFrame F) (hQ : RefFrame G) {w : World} {d : PairD} (h : d.At F G w) {k : Nat} (hk : d.foot k) {t : TypeId} (ht : Tagged w k t) : t ≠ 4 ∧ t ≠ 141 ∧ t ≠ 54 ∧ t ≠ 93 := by
  rcases hk with hk | hk
  · exact (hP.tags h.f hk ht).2
  · obtain ⟨t', h1, h2⟩ := hQ.tags h.r hk
    rw [tag_same ht h2]
    exact isRef_ne h1
theorem foot_lt (hP : ProgFrame F) (hQ : RefFrame G) {w : World} {d : PairD} (h : d.At F G w) {k : Nat} (hk : d.foot k) : k < w.heap.size := hk.elim (hP.lt h.f) (hQ.lt h.r)

theorem PairD.At.other (hP : ProgFrame F) (hQ : RefFrame G) {w w' : World} {d f : PairD} (h : d.At F G w) (hf : f.At F G w) (hc : Chg f.foot w w') (hi : IntsKept w w') (ha : ∀ k, d.foot k → ¬ f.foot k) : d.At F G w' := by
  have hpb : ¬ f.foot d.pb := fun hk => (foot_tag hP hQ hf hk h.tag).2.1 rfl
  have hcell : ∀ i, w'.cell? ⟨d.pb, i, none⟩ = w.cell? ⟨d.pb, i, none⟩ := fun i => World.cell?_of_block (w := w) (hc.block d.pb h.tag.lt hpb)
  exact ⟨h.tag.chg hc hpb, (hcell 0).trans h.c0, (hcell 1).trans h.c1, hP.stable h.f hc (fun k hk => ha k (Or.inl hk)), hQ.stable h.r hc (fun k hk => ha k (Or.inr hk)) (fun b hb hk => (foot_tag hP hQ hf hk hb).1 rfl) hi⟩
theorem PairD.At.law (hP : ProgFrame F) (hQ : RefFrame G) {M : Nat → Prop} {w w' : World} {d : PairD} (h : d.At F G w) (hc : Chg M w w') (hM : ∀ k, M k → k < w.heap.size → Tagged w k 54 ∨ Tagged w k 93) : d.At F G w' := by
  have one : ∀ {k : Nat} {t : TypeId}, M k → Tagged w k t → t = 54 ∨ t = 93 := fun hk ht => (hM _ hk ht.lt).imp (tag_same ht) (tag_same ht)
  have no : ∀ {k : Nat} {t : TypeId}, Tagged w k t → t ≠ 54 → t ≠ 93 → ¬ M k := fun ht h1 h2 hk => (one hk ht).elim h1 h2
  have hpb : ¬ M d.pb := no h.tag (by decide) (by decide)
  have hcell : ∀ i, w'.cell? ⟨d.pb, i, none⟩ = w.cell? ⟨d.pb, i, none⟩ := fun i => World.cell?_of_block (w := w) (hc.block d.pb h.tag.lt hpb)
  have hfoot : ∀ k, d.foot k → ¬ M k := fun k hk hm => by
    rcases hM k hm (foot_lt hP hQ h hk) with h1 | h1
    · exact (foot_tag hP hQ h hk h1).2.2.1 rfl
    · exact (foot_tag hP hQ h hk h1).2.2.2 rfl
  exact ⟨h.tag.chg hc hpb, (hcell 0).trans h.c0, (hcell 1).trans h.c1, hP.stable h.f hc (fun k hk => hfoot k (Or.inl hk)), hQ.stable h.r hc (fun k hk => hfoot k (Or.inr hk)) (fun b hb => no hb (by decide) (by decide)) (IntsKept.of_chg hc (fun b hb => no hb (by decide) (by decide)))⟩

def pbs (l : List PairD) : List Value := l.map fun d => .pointer (some ⟨d.pb, 0, none⟩)
structure LawI (F G : Stt) (B : Nat) (w : World) (b : Nat) (rv : Value) (l : List PairD) : Prop where
  glob : Glob w
  b4 : 4 ≤ B
  bB : B ≤ b
  blk : Blk w b #[rv, .bool false] 54
  row : w.ownsRow B 93 1 rv l.length (pbs l)
  pair : ∀ j (h : j < l.length), l[j].At F G w
  foot : ∀ j (h : j < l.length) k, l[j].foot k → B ≤ k
  apart : ∀ i j (hi : i < l.length) (hj : j < l.length), i ≠ j → ∀ k, l[i].foot k → ¬ l[j].foot k
def LawJ (F G : Stt) (c B : Nat) (w : World) (b : Nat) : Prop := ∃ rv l, l.length ≤ c ∧ LawI F G B w b rv l

section
variable {B : Nat} {w w' : World} {b : Nat} {rv : Value} {l : List PairD}
theorem LawI.below (hP : ProgFrame F) (hQ : RefFrame G) (h : LawI F G B w b rv l) (hb : Below w.heap.size w w') : LawI F G B w' b rv l :=
  ⟨h.glob.mono hb, h.b4, h.bB, h.blk.below hb, ownsRow_chg h.row (Chg.of_below (M := fun _ => False) hb) (fun _ _ h => h), fun j hj => PairAt.below hP hQ (h.pair j hj) hb, h.foot, h.apart⟩
theorem LawI.rowTag (h : LawI F G B w b rv l) : ∀ g, rv.ownBlock = some g → Tagged w g 93 := by
  intro g hg
  obtain ⟨_, h1 | ⟨g', cap, cur, rfl, _, hh, _⟩⟩ := h.row
  · rw [h1.1] at hg; cases hg
  · cases hg; exact ⟨cur, hh⟩
theorem LawI.notB (hP : ProgFrame F) (hQ : RefFrame G) (h : LawI F G B w b rv l) (j : Nat) (hj : j < l.length) : ¬ l[j].S b ∧ ¬ l[j].R b :=
  ⟨fun hb => (foot_tag hP hQ (h.pair j hj) (Or.inl hb) ⟨_, h.blk⟩).2.2.1 rfl, fun hb => (foot_tag hP hQ (h.pair j hj) (Or.inr hb) ⟨_, h.blk⟩).2.2.1 rfl⟩
theorem LawI.turn (hP : ProgFrame F) (hQ : RefFrame G) (h : LawI F G B w b rv l) (k : Nat) (hk : k < l.length) (d : PairD) (hp : d.pb = l[k].pb) (hd : d.At F G w') (hc : Chg l[k].foot w w') (hi : IntsKept w w') (hf : ∀ i, d.foot i → l[k].foot i ∨ w.heap.size ≤ i) :
    LawI F G B w' b rv (l.set k d) ∧ Below B w w' := by
  have hk0 := h.pair k hk
  have hBs : B ≤ w.heap.size := Nat.le_trans h.bB (Nat.le_of_lt h.blk.lt)
  have hbel : Below B w w' := ⟨hc.os, hc.tape, hc.output, hc.size, fun i hi => hc.block i (Nat.lt_of_lt_of_le hi hBs) (fun e => by have := h.foot k hk i e; omega)⟩
  have hb' : ¬ l[k].foot b := fun hb => (foot_tag hP hQ hk0 hb ⟨_, h.blk⟩).2.2.1 rfl
  have hget : ∀ j (hj : j < l.length), (l.set k d)[j]'(by simpa using hj) = if k = j then d else l[j] := fun j hj => by rw [List.getElem_set]
  refine ⟨⟨h.glob.chg4 hc (fun i hi => Nat.le_trans h.b4 (h.foot k hk i hi)), h.b4, h.bB, h.blk.chg hc hb', ?_, fun j hj => ?_, fun j hj i hi => ?_, fun i j hi hj hij n hn => ?_⟩, hbel⟩
  · have e : pbs (l.set k d) = pbs l := by
      unfold pbs
      rw [List.map_set, hp]
      refine List.ext_getElem? fun j => ?_
      rw [List.getElem?_set]
      by_cases e : k = j
      · subst e; simp [hk]
      · simp [e]
    rw [List.length_set, e]
    exact ownsRow_chg h.row hc (fun g hg hm => (foot_tag hP hQ hk0 hm (h.rowTag g hg)).2.2.2 rfl)
  · have hj' : j < l.length := by simpa using hj
    rw [hget j hj']
    by_cases e : k = j
    · rw [if_pos e]; exact hd
    · rw [if_neg e]
      exact (h.pair j hj').other hP hQ hk0 hc hi (fun i hi => h.apart j k hj' hk (Ne.symm e) i hi)
  · have hj' : j < l.length := by simpa using hj
    rw [hget j hj'] at hi
    by_cases e : k = j
    · rw [if_pos e] at hi
      rcases hf i hi with h1 | h1
      · exact h.foot k hk i h1
      · omega
    · rw [if_neg e] at hi
      exact h.foot j hj' i hi
  · have hi' : i < l.length := by simpa using hi
    have hj' : j < l.length := by simpa using hj
    rw [hget i hi'] at hn
    rw [hget j hj']
    by_cases e : k = i
    · rw [if_pos e] at hn
      have e2 : ¬ k = j := by omega
      rw [if_neg e2]
      intro hm
      rcases hf n hn with h1 | h1
      · exact h.apart k j hk hj' e2 n h1 hm
      · have := foot_lt hP hQ (h.pair j hj') hm; omega
    · rw [if_neg e] at hn
      by_cases e2 : k = j
      · rw [if_pos e2]
        intro hm
        rcases hf n hm with h1 | h1
        · exact h.apart i k hi' hk (Ne.symm e) n hn h1
        · have := foot_lt hP hQ (h.pair i hi') hn; omega
      · rw [if_neg e2]
        exact h.apart i j hi' hj' hij n hn
theorem LawI.told (hP : ProgFrame F) (hQ : RefFrame G) {c : Nat} (h : LawI F G B w b rv l) (hl : l.length ≤ c) (k : Nat) (hk : k < l.length) {s' : St}
    (hd : Told F G l[k].S l[k].R w l[k].pb l[k].x l[k].c s' w') : LawJ F G c B w' b ∧ Below B w w' := by
  obtain ⟨S', R', h1, h2, h3, h4, h5⟩ := hd
  obtain ⟨h6, h7⟩ := h.turn hP hQ k hk ⟨l[k].pb, l[k].x, S', l[k].c, R', s'⟩ rfl h1 h4 h5 (fun i hi => by
    rcases hi with hi | hi
    · exact (h2 i hi).imp (fun h => Or.inl h) (fun h => h)
    · exact (h3 i hi).imp (fun h => Or.inr h) (fun h => h))
  exact ⟨⟨_, _, by simpa using hl, h6⟩, h7⟩
end
end Go.Proofs.YtoiiaankpnhppaaGreatDoor

