import Derived.Deep.RegionHeld3
import Derived.Maps.OwnSet
import Derived.Maps.OwnOps
import Derived.Maps.RangeWalk
import Derived.Maps.Ext
import Derived.DeepKeys4
import Derived.WalkKit
import Derived.WalkSpells
import Derived.Deep.LoopGhost
import Derived.Test.YtmnnojekcloblaaGreatDoorPart07
set_option linter.unusedVariables false
set_option linter.unusedSimpArgs false
namespace Go.Proofs.YtmnnojekcloblaaGreatDoor
open Go.RowKit
variable {F : World → Nat → (Nat → Prop) → List Ev → List (List Bool) → Prop}

set_option maxHeartbeats 4000000 in
set_option maxRecDepth 100000 in
theorem tells_knows (hF : ProgOK F) (hP : ProgFrame F) (w : World) (hG : Glob w) (pb x : Nat) (S : Nat → Prop) (hS4 : ∀ k, S k → 4 ≤ k) (c rb : Nat) (evv : Value) (room : Nat) (es : List Ev) (kn : List (List Bool)) (h : PairAt F w pb x S c rb evv room es kn)
    (o : StepD) (ho : o.ok) (hk : o.kind = 4) :
    Calls Tryz.prog 15 #[.pointer (some ⟨pb, 0, none⟩), o.val] w fun e w' => e = .returned (.bool true) ∧ ∃ S', PairAt F w' pb x S' c rb evv room es kn ∧ (∀ k, S' k → S k ∨ w.heap.size ≤ k) ∧ Chg S w w' := by
  have HF : Hid (ProgOK F) := hF
  have HP : Hid (ProgFrame F) := hP
  have HG : Hid (Glob w) := hG
  have H : Hid (PairAt F w pb x S c rb evv room es kn) := h
  have hs : o.s.size ≤ 1048576 := ho.2.2.2.2
  unfold StepD.val
  have hbS : ¬ S w.heap.size := fun hk => by have := hP.lt h.f hk; omega
  have HA0 : Hid (∀ q, Amid F S (w.alloc (.cells #[.int .i64 o.kind, .int .i64 o.a, .int .i64 o.n, .int .i64 o.m, .string o.s] 31)) w.heap.size o pb x c rb evv room es kn ((w.alloc (.cells #[.int .i64 o.kind, .int .i64 o.a, .int .i64 o.n, .int .i64 o.m, .string o.s] 31)).drewN q)) := fun q => by
    have hb : Below w.heap.size w (w.alloc (.cells #[.int .i64 o.kind, .int .i64 o.a, .int .i64 o.n, .int .i64 o.m, .string o.s] 31)) := (Below.refl _ w).alloc (Nat.le_refl _) _
    refine Amid.below hP (wx := w.alloc (.cells #[.int .i64 o.kind, .int .i64 o.a, .int .i64 o.n, .int .i64 o.m, .string o.s] 31)) ?_ (below_drewN (Below.refl _ _) q)
    exact ⟨⟨S, h.below hP hb, fun k hk => Or.inl hk⟩, Chg.refl _ _, hG.mono hb, World.cell?_alloc_at _ _ _ _ rfl, World.cell?_alloc_at _ _ _ _ rfl, World.cell?_alloc_at _ _ _ _ rfl, hbS, by simp⟩
  have bz : Hid (∀ ob, Below w.heap.size w (w.alloc ob)) := fun ob => (Below.refl _ w).alloc (Nat.le_refl _) ob
  have hz : ∀ ob, PairAt F (w.alloc ob) pb x S c rb evv room es kn := fun ob => h.below hP (bz.out ob)
  have y0 := fun ob => (hz ob).c0
  have y1 := fun ob => (hz ob).c1
  have Hu : Hid (∀ wx, Below w.heap.size w wx → Calls Tryz.prog 33 #[.pointer (some ⟨c, 0, none⟩), .int .i64 o.n] wx fun e w' => e = .returned (.int .i64 (upR kn o.n)) ∧ w' = wx) := fun wx hx => Up_any _ _ _ _ _ _ _ _ _ (h.below hP hx).r o.n
  have hw4 : 4 ≤ (w.alloc (.cells #[.int .i64 o.kind, .int .i64 o.a, .int .i64 o.n, .int .i64 o.m, .string o.s] 31)).heap.size := by have := hG.size; simp; omega
  have HX : Hid (∀ wx, Amid F S (w.alloc (.cells #[.int .i64 o.kind, .int .i64 o.a, .int .i64 o.n, .int .i64 o.m, .string o.s] 31)) w.heap.size o pb x c rb evv room es kn wx → Calls Tryz.prog 10 #[.pointer (some ⟨x, 0, none⟩), .int .i64 o.n] wx fun e w' => e = .returned (.tuple #[.int .i64 (knowsR kn o.n).1, .int .i64 (knowsR kn o.n).2]) ∧ Amid F S (w.alloc (.cells #[.int .i64 o.kind, .int .i64 o.a, .int .i64 o.n, .int .i64 o.m, .string o.s] 31)) w.heap.size o pb x c rb evv room es kn w') := fun wx hx => by
    obtain ⟨S1, h1, h2⟩ := hx.pair
    refine Calls.mono (hF.knows wx x S1 es kn o.n hx.glob h1.f) ?_
    rintro e w' ⟨rfl, S2, f2, s2, hc⟩
    exact ⟨rfl, hx.prog hP hS4 hw4 h1 h2 f2 s2 hc⟩
  have hfin : Hid (∀ wx, Amid F S (w.alloc (.cells #[.int .i64 o.kind, .int .i64 o.a, .int .i64 o.n, .int .i64 o.m, .string o.s] 31)) w.heap.size o pb x c rb evv room es kn wx → ∃ S', PairAt F wx pb x S' c rb evv room es kn ∧ (∀ k, S' k → S k ∨ w.heap.size ≤ k) ∧ Chg S w wx) := fun wx hx => by
    obtain ⟨S1, h1, h2⟩ := hx.pair
    exact ⟨S1, h1, fun k hk => (h2 k hk).imp id (fun h3 => by simp at h3; omega), (Chg.of_below (bz.out _)).trans hx.chg⟩
  obtain ⟨k, a, n, m, s⟩ := o
  simp only at *
  subst hk
  clear hF hP hG h ho hz hbS hw4 hS4
  go_enter Tryz.func15, Tryz.ntmps15
  go_wp2_with fail
  go_quiet (first | (go_at_call 33; exact Calls.mono (Hu.out _ (below_drewN (bz.out _) _)) (fun _ _ h => ⟨h.1, _, h.2⟩)))
  go_wp2_with fail
  have hA := HA0.out nq
  clear HA0 Hu y0 y1
  generalize hW1 : w.alloc (.cells #[.int .i64 4, .int .i64 a, .int .i64 n, .int .i64 m, .string s] 31) = W1 at *
  clear hW1
  generalize W1.drewN nq = w2 at *
  have q0 := hA.p0
  have q2 := hA.b2
  simp only at q2
  go_region_held3 (fun w' => Amid F S W1 w.heap.size ⟨4, a, n, m, s⟩ pb x c rb evv room es kn w' ∧ w'.cell? ⟨pb, 0, none⟩ = some (.pointer (some ⟨x, 0, none⟩)) ∧ w'.cell? ⟨w.heap.size, 2, none⟩ = some (.int .i64 n)) ((refine ⟨?_, ?_, ?_⟩ <;> (first | assumption | (exact Amid.drew HP.out (by assumption)) | (exact Amid.p0 (by assumption)) | (exact Amid.b2 (by assumption))))) (first | (go_at_call 10; refine Calls.mono (HX.out _ ?_) ?_; (exact hA.drew HP.out); rintro e w3 ⟨rfl, hA3⟩))
  clear hA q0 q2 HX
  by_cases hn : 0 ≤ n ∧ n < kn.length
  · obtain ⟨i, rfl⟩ := Int.eq_ofNat_of_zero_le hn.1
    have hi : i < kn.length := by omega
    have e1 : upR kn (i : Int) = 0 := if_pos hn
    have e2 : knowsR kn (i : Int) = ((cnt kn[i] : Int), 0) := by
      unfold knowsR; rw [if_pos hn]; simp [List.getD_eq_getElem?_getD, hi]
    rw [e1, e2]
    obtain ⟨S1, h1, h2⟩ := hA3.pair
    obtain ⟨cap, f1, hcap⟩ := h1.r.f1
    obtain ⟨⟨kv, k0, k1⟩, _⟩ := h1.r.reps i hi
    have r1 := hA3.p1
    have r2 := hA3.b2
    simp only at r2
    have hl5 : kn[i].length ≤ 1048576 := by have := h1.r.kn kn[i] (List.getElem_mem hi); have := h1.r.n500; omega
    have Hcnt : Hid (∀ q, Calls Tryz.prog 35 #[kv] (w3.drewN q) fun e w' => e = .returned (.int .i64 (cnt kn[i] : Int)) ∧ w' = w3.drewN q) := fun q => Count_any w3.heap.size kv kn[i] _ hl5 (SliceT.below k1 (below_drewN (Below.refl _ _) q)).toIn
    have HA3 : Hid (Amid F S W1 w.heap.size ⟨4, a, (i : Int), m, s⟩ pb x c rb evv room es kn w3) := hA3
    clear h1 h2 hA3 k1 e1 e2 hn
    generalize cnt kn[i] = z at *
    have hi0 : (0 : Int) ≤ (i : Int) := by omega
    have hi1 : (i : Int) < (kn.length : Int) := by omega
    go_wp2_with fail
    go_quiet (first | (go_at_call 35; exact Calls.mono (Hcnt.out _) (fun _ _ h => ⟨h.1, _, h.2⟩)))
    have HA4 : Hid (Amid F S W1 w.heap.size ⟨4, a, (i : Int), m, s⟩ pb x c rb evv room es kn (w3.drewN nq)) := HA3.out.below HP.out (below_drewN (Below.refl _ _) _)
    go_wp2_with (first | (go_at_call 32; refine (num_any _ _).mono ?_; rintro e w5 ⟨rfl, rfl⟩))
    go_ret
    exact ⟨rfl, hfin.out _ HA4.out⟩
  · have e1 : upR kn n = 2 := if_neg hn
    have e2 : knowsR kn n = (0, 2) := if_neg hn
    rw [e1, e2]
    have HA3 : Hid (Amid F S W1 w.heap.size ⟨4, a, n, m, s⟩ pb x c rb evv room es kn w3) := hA3
    clear hA3 e1 e2 hn
    go_wp2_with (first | (go_at_call 32; refine (num_any _ _).mono ?_; rintro e w5 ⟨rfl, rfl⟩))
    all_goals (go_ret; exact ⟨rfl, hfin.out _ HA3.out⟩)
end Go.Proofs.YtmnnojekcloblaaGreatDoor

namespace Go.Proofs.YtmnnojekcloblaaGreatDoor
open Go.RowKit

theorem doOut_exists (es : List Ev) (kn : List (List Bool)) (i : Int) (s : Thk.Bs) : ∃ r es' kn', DoOut es kn i s r es' kn' := by
  by_cases hi : 0 ≤ i ∧ i < kn.length
  · cases hr : Thk.read s with
    | inl k => exact ⟨_, _, _, DoOut.bad k hi hr⟩
    | inr c =>
      by_cases hl : 500 ≤ es.length
      · exact ⟨_, _, _, DoOut.full c hi hr hl⟩
      · exact ⟨_, _, _, DoOut.done c ⟨⟨c.path.toArray⟩, c.act, ⟨c.val.toArray⟩, c.n, kn.getD i.toNat []⟩ hi hr (by omega) rfl rfl rfl rfl rfl⟩
  · exact ⟨_, _, _, DoOut.rep hi⟩

theorem doOut_det {es : List Ev} {kn : List (List Bool)} {i : Int} {s : Thk.Bs} {r r2 : Int} {e1 e2 : List Ev} {k1 k2 : List (List Bool)} (h : DoOut es kn i s r e1 k1) (h2 : DoOut es kn i s r2 e2 k2) : r = r2 ∧ e1 = e2 ∧ k1 = k2 := by
  rcases h with ⟨hi, rfl, rfl, rfl⟩ | ⟨k, hi, hr, rfl, rfl, rfl⟩ | ⟨c, hi, hr, hl, rfl, rfl, rfl⟩ | ⟨c, e, hi, hr, hl, a1, a2, a3, a4, a5, rfl, rfl, rfl⟩ <;>
    rcases h2 with ⟨h3, rfl, rfl, rfl⟩ | ⟨k', h3, h4, rfl, rfl, rfl⟩ | ⟨c', h3, h4, h5, rfl, rfl, rfl⟩ | ⟨c', e', h3, h4, h5, b1, b2, b3, b4, b5, rfl, rfl, rfl⟩
  · exact ⟨rfl, rfl, rfl⟩
  · exact absurd h3 hi
  · exact absurd h3 hi
  · exact absurd h3 hi
  · exact absurd hi h3
  · rw [hr] at h4; cases h4; exact ⟨rfl, rfl, rfl⟩
  · rw [hr] at h4; cases h4
  · rw [hr] at h4; cases h4
  · exact absurd hi h3
  · rw [hr] at h4; cases h4
  · exact ⟨rfl, rfl, rfl⟩
  · omega
  · exact absurd hi h3
  · rw [hr] at h4; cases h4
  · omega
  · rw [hr] at h4
    cases h4
    obtain ⟨p, a, v, n, sw⟩ := e
    obtain ⟨p', a', v', n', sw'⟩ := e'
    simp only at a1 a2 a3 a4 a5 b1 b2 b3 b4 b5
    have hp : p = p' := toL_inj (a1.trans b1.symm)
    have hv : v = v' := toL_inj (a3.trans b3.symm)
    subst hp hv a2 a4 a5
    refine ⟨rfl, ?_, rfl⟩
    rw [b2, b4, b5]
end Go.Proofs.YtmnnojekcloblaaGreatDoor

namespace Go.Proofs.YtmnnojekcloblaaGreatDoor
open Go.RowKit
variable {F : World → Nat → (Nat → Prop) → List Ev → List (List Bool) → Prop}

/-- Between the program's Do and the document's. -/
structure Between (F : World → Nat → (Nat → Prop) → List Ev → List (List Bool) → Prop) (S : Nat → Prop) (w : World) (bx : Nat) (o : StepD) (pb x c rb : Nat) (evv : Value) (room : Nat) (es : List Ev) (kn : List (List Bool)) (es1 : List Ev) (kn1 : List (List Bool)) (wx : World) : Prop where
  f : ∃ S', F wx x S' es1 kn1 ∧ ∀ k, S' k → S k ∨ w.heap.size ≤ k
  r : RefAt wx c rb evv room es es.length es.length kn
  tag : Tagged wx pb 75
  p0 : wx.cell? ⟨pb, 0, none⟩ = some (.pointer (some ⟨x, 0, none⟩))
  p1 : wx.cell? ⟨pb, 1, none⟩ = some (.pointer (some ⟨c, 0, none⟩))
  b2 : wx.cell? ⟨bx, 2, none⟩ = some (.int .i64 o.n)
  b4 : wx.cell? ⟨bx, 4, none⟩ = some (.string o.s)
  bl : bx < wx.heap.size
  chg : Chg S w wx

theorem Between.below (hP : ProgFrame F) {S : Nat → Prop} {w : World} {bx : Nat} {o : StepD} {pb x c rb : Nat} {evv : Value} {room : Nat} {es : List Ev} {kn : List (List Bool)} {es1 : List Ev} {kn1 : List (List Bool)} {wx wy : World} (h : Between F S w bx o pb x c rb evv room es kn es1 kn1 wx) (hb : Below wx.heap.size wx wy) : Between F S w bx o pb x c rb evv room es kn es1 kn1 wy := by
  obtain ⟨S', h1, h2⟩ := h.f
  exact ⟨⟨S', hP.stable h1 (Chg.of_below (M := fun _ => False) hb) (fun _ _ h => h), h2⟩, h.r.below hb, h.tag.below hb, (hb.cell (p := ⟨pb, 0, none⟩) h.tag.lt).trans h.p0, (hb.cell (p := ⟨pb, 1, none⟩) h.tag.lt).trans h.p1,
    (hb.cell (p := ⟨bx, 2, none⟩) h.bl).trans h.b2, (hb.cell (p := ⟨bx, 4, none⟩) h.bl).trans h.b4, Nat.lt_of_lt_of_le h.bl hb.size, h.chg.below hb⟩

theorem Between.prog (hP : ProgFrame F) {S : Nat → Prop} {w : World} {bx : Nat} {o : StepD} {pb x c rb : Nat} {evv : Value} {room : Nat} {es : List Ev} {kn : List (List Bool)} {es1 : List Ev} {kn1 : List (List Bool)} {wx wy : World} (h : Between F S w bx o pb x c rb evv room es kn es kn wx) (hbS : w.heap.size ≤ bx) (hlt : ∀ k, S k → k < w.heap.size)
    {S1 S2 : Nat → Prop} (h1 : F wx x S1 es kn) (hs1 : ∀ k, S1 k → S k) (hf : F wy x S2 es1 kn1) (hs2 : ∀ k, S2 k → S1 k ∨ wx.heap.size ≤ k) (hc : Chg S1 wx wy) : Between F S w bx o pb x c rb evv room es kn es1 kn1 wy := by
  have hpb : ¬ S1 pb := fun hs => (hP.tags h1 hs h.tag).2.2.2.2.2.1 rfl
  have hbx : ¬ S1 bx := fun hs => by have := hlt bx (hs1 bx hs); omega
  have hcell : ∀ i, wy.cell? ⟨pb, i, none⟩ = wx.cell? ⟨pb, i, none⟩ := fun i => World.cell?_of_block (w := wx) (hc.block pb h.tag.lt hpb)
  have hcell2 : ∀ i, wy.cell? ⟨bx, i, none⟩ = wx.cell? ⟨bx, i, none⟩ := fun i => World.cell?_of_block (w := wx) (hc.block bx h.bl hbx)
  refine ⟨⟨S2, hf, fun k hk => (hs2 k hk).imp (hs1 k) (Nat.le_trans h.chg.size)⟩, h.r.chg hc ?_ ?_ ?_ ?_ ?_, h.tag.chg hc hpb, (hcell 0).trans h.p0, (hcell 1).trans h.p1, (hcell2 2).trans h.b2, (hcell2 4).trans h.b4, Nat.lt_of_lt_of_le h.bl hc.size, h.chg.trans ⟨hc.os, hc.tape, hc.output, hc.size, fun k hk hn => hc.block k hk (fun h3 => hn (hs1 k h3))⟩⟩
  · exact fun hs => (hP.tags h1 hs h.r.tc).1 rfl
  · exact fun hs => (hP.tags h1 hs h.r.trb).2.1 rfl
  · exact fun g hg hs => (hP.tags h1 hs (h.r.evLt g hg).2).2.2.1 rfl
  · exact fun b hb hs => (hP.tags h1 hs hb).2.2.2.1 rfl
  · exact fun b hb hs => (hP.tags h1 hs hb).2.2.2.2.1 rfl

/-- Behind both. -/
def Behind (F : World → Nat → (Nat → Prop) → List Ev → List (List Bool) → Prop) (S : Nat → Prop) (w : World) (pb x c rb : Nat) (evv : Value) (room : Nat) (es1 : List Ev) (kn1 : List (List Bool)) (wx : World) : Prop :=
  ∃ S' evv', PairAt F wx pb x S' c rb evv' room es1 kn1 ∧ (∀ k, S' k → S k ∨ w.heap.size ≤ k) ∧ Chg (fun k => S k ∨ k = c ∨ k = rb ∨ evv.ownBlock = some k) w wx ∧ (evv'.ownBlock = evv.ownBlock ∨ ∃ g, evv'.ownBlock = some g ∧ w.heap.size ≤ g)

theorem Between.ref (hP : ProgFrame F) {S : Nat → Prop} {w : World} {bx : Nat} {o : StepD} {pb x c rb : Nat} {evv : Value} {room : Nat} {es : List Ev} {kn : List (List Bool)} {es1 : List Ev} {kn1 : List (List Bool)} {wx : World} (h : Between F S w bx o pb x c rb evv room es kn es1 kn1 wx) (hs : o.s.size ≤ 1048576) {r : Int} (hd : DoOut es kn o.n (toL o.s) r es1 kn1) :
    Calls Tryz.prog 43 #[.pointer (some ⟨c, 0, none⟩), .int .i64 o.n, .string o.s] wx fun e w' => e = .returned (.int .i64 r) ∧ Behind F S w pb x c rb evv room es1 kn1 w' ∧ (¬ (bx = c ∨ bx = rb ∨ evv.ownBlock = some bx) → ∀ i, w'.cell? ⟨bx, i, none⟩ = wx.cell? ⟨bx, i, none⟩) := by
  refine Calls.mono (RefDo_any wx c rb evv room es kn h.r o.n o.s hs) ?_
  rintro e w' ⟨r', evv', es', kn', rfl, hd', hr, hc, hev⟩
  obtain ⟨rfl, rfl, rfl⟩ := doOut_det hd hd'
  obtain ⟨S', h1, h2⟩ := h.f
  have hpb : ¬ (pb = c ∨ pb = rb ∨ evv.ownBlock = some pb) := by
    rintro (e | e | e)
    · exact h.tag.ne h.r.tc (by decide) e
    · exact h.tag.ne h.r.trb (by decide) e
    · exact h.tag.ne (h.r.evLt pb e).2 (by decide) rfl
  have hcell : ∀ i, w'.cell? ⟨pb, i, none⟩ = wx.cell? ⟨pb, i, none⟩ := fun i => World.cell?_of_block (w := wx) (hc.block pb h.tag.lt hpb)
  refine ⟨rfl, ⟨S', evv', ⟨h.tag.chg hc hpb, (hcell 0).trans h.p0, (hcell 1).trans h.p1, hP.stable h1 hc ?_, hr⟩, h2, ?_, ?_⟩, fun hn i => World.cell?_of_block (w := wx) (hc.block bx h.bl hn)⟩
  · intro k hk hm
    rcases hm with rfl | rfl | hm
    · exact (hP.tags h1 hk h.r.tc).1 rfl
    · exact (hP.tags h1 hk h.r.trb).2.1 rfl
    · exact (hP.tags h1 hk (h.r.evLt k hm).2).2.2.1 rfl
  · refine ⟨hc.os.trans h.chg.os, hc.tape.trans h.chg.tape, hc.output.trans h.chg.output, Nat.le_trans h.chg.size hc.size, fun k hk hn => ?_⟩
    exact (hc.block k (Nat.lt_of_lt_of_le hk h.chg.size) (fun h3 => hn (Or.inr h3))).trans (h.chg.block k hk (fun h3 => hn (Or.inl h3)))
  · exact hev.imp id (fun ⟨g, h3, h4⟩ => ⟨g, h3, Nat.le_trans h.chg.size h4⟩)
end Go.Proofs.YtmnnojekcloblaaGreatDoor

namespace Go.Proofs.YtmnnojekcloblaaGreatDoor
open Go.RowKit
variable {F : World → Nat → (Nat → Prop) → List Ev → List (List Bool) → Prop}

theorem Between.drew (hP : ProgFrame F) {S : Nat → Prop} {w : World} {bx : Nat} {o : StepD} {pb x c rb : Nat} {evv : Value} {room : Nat} {es : List Ev} {kn : List (List Bool)} {es1 : List Ev} {kn1 : List (List Bool)} {wx : World} (h : Between F S w bx o pb x c rb evv room es kn es1 kn1 wx) : Between F S w bx o pb x c rb evv room es kn es1 kn1 wx.drew := h.below hP (Below.refl _ _).drew

set_option maxHeartbeats 4000000 in
set_option maxRecDepth 100000 in
theorem turns_do (hF : ProgOK F) (hP : ProgFrame F) (w : World) (hG : Glob w) (pb x : Nat) (S : Nat → Prop) (c rb : Nat) (evv : Value) (room : Nat) (es : List Ev) (kn : List (List Bool)) (h : PairAt F w pb x S c rb evv room es kn)
    (o : StepD) (ho : o.ok) (hk : o.kind = 2) :
    Calls Tryz.prog 19 #[.pointer (some ⟨pb, 0, none⟩), o.val] w fun e w' => e = .returned (.bool true) ∧ ∃ es1 kn1, Behind F S w pb x c rb evv room es1 kn1 w' := by
  have HP : Hid (ProgFrame F) := hP
  have hs : o.s.size ≤ 1048576 := ho.2.2.2.2
  obtain ⟨r, es1, kn1, hd⟩ := doOut_exists es kn o.n (toL o.s)
  unfold StepD.val
  have HA0 : Hid (Between F S w w.heap.size o pb x c rb evv room es kn es kn (w.alloc (.cells #[.int .i64 o.kind, .int .i64 o.a, .int .i64 o.n, .int .i64 o.m, .string o.s] 31))) := by
    have hb : Below w.heap.size w (w.alloc (.cells #[.int .i64 o.kind, .int .i64 o.a, .int .i64 o.n, .int .i64 o.m, .string o.s] 31)) := (Below.refl _ w).alloc (Nat.le_refl _) _
    have h2 := h.below hP hb
    exact ⟨⟨S, h2.f, fun k hk => Or.inl hk⟩, h2.r, h2.tag, h2.c0, h2.c1, World.cell?_alloc_at _ _ _ _ rfl, World.cell?_alloc_at _ _ _ _ rfl, by simp, Chg.of_below hb⟩
  have HX : Hid (∀ wx, Below w.heap.size w wx → Between F S w w.heap.size o pb x c rb evv room es kn es kn wx → Calls Tryz.prog 8 #[.pointer (some ⟨x, 0, none⟩), .int .i64 o.n, .string o.s] wx fun e w' => e = .returned (.int .i64 r) ∧ Between F S w w.heap.size o pb x c rb evv room es kn es1 kn1 w') := fun wx hb hx => by
    have hf := hP.stable h.f (Chg.of_below (M := fun _ => False) hb) (fun _ _ h => h)
    refine Calls.mono (hF.does wx x S es kn o.n o.s r es1 kn1 (hG.mono hb) hf hs hd) ?_
    rintro e w' ⟨rfl, S2, f2, s2, hc⟩
    exact ⟨rfl, hx.prog hP (Nat.le_refl _) (fun k hk => hP.lt h.f hk) hf (fun _ h => h) f2 s2 hc⟩
  have HY : Hid (∀ wx, Between F S w w.heap.size o pb x c rb evv room es kn es1 kn1 wx → Calls Tryz.prog 43 #[.pointer (some ⟨c, 0, none⟩), .int .i64 o.n, .string o.s] wx fun e w' => e = .returned (.int .i64 r) ∧ Behind F S w pb x c rb evv room es1 kn1 w' ∧ w'.cell? ⟨pb, 1, none⟩ = some (.pointer (some ⟨c, 0, none⟩)) ∧ w'.cell? ⟨w.heap.size, 2, none⟩ = some (.int .i64 o.n) ∧ w'.cell? ⟨w.heap.size, 4, none⟩ = some (.string o.s)) := fun wx hx => by
    refine Calls.mono (hx.ref hP hs hd) ?_
    rintro e w' ⟨rfl, hbe, hcc⟩
    have hn : ¬ (w.heap.size = c ∨ w.heap.size = rb ∨ evv.ownBlock = some w.heap.size) := by
      rintro (e | e | e)
      · have := h.r.tc.lt; omega
      · have := h.r.trb.lt; omega
      · have := (h.r.evLt _ e).1; omega
    have hp := hbe
    obtain ⟨S', evv', hp, _⟩ := hp
    exact ⟨rfl, hbe, hp.c1, (hcc hn 2).trans hx.b2, (hcc hn 4).trans hx.b4⟩
  have Hbz : Hid (∀ ob, Below w.heap.size w (w.alloc ob).drew) := fun ob => ((Below.refl _ w).alloc (Nat.le_refl _) ob).drew
  obtain ⟨k, a, n, m, s⟩ := o
  simp only at *
  subst hk
  clear hF hP hG h ho hd
  go_enter Tryz.func19, Tryz.ntmps19
  go_wp2_with fail
  have hA := HA0.out
  have hbz := Hbz.out (.cells #[.int .i64 2, .int .i64 a, .int .i64 n, .int .i64 m, .string s] 31)
  clear HA0 Hbz
  generalize w.alloc (.cells #[.int .i64 2, .int .i64 a, .int .i64 n, .int .i64 m, .string s] 31) = w2 at *
  have q0 := hA.p0
  have q2 := hA.b2
  have q4 := hA.b4
  simp only at q2 q4
  go_region_held3 (fun w' => w'.cell? ⟨pb, 0, none⟩ = some (.pointer (some ⟨x, 0, none⟩)) ∧ w'.cell? ⟨w.heap.size, 2, none⟩ = some (.int .i64 n) ∧ w'.cell? ⟨w.heap.size, 4, none⟩ = some (.string s)) ((refine ⟨?_, ?_, ?_⟩ <;> (first | assumption | (exact Between.p0 (by assumption)) | (exact Between.b2 (by assumption)) | (exact Between.b4 (by assumption))))) (first | (go_at_call 8; refine Calls.mono (HX.out _ hbz (hA.drew HP.out)) ?_; rintro e w3 ⟨rfl, hA3⟩))
  clear hA q0 q2 q4 hbz HX
  go_wp2_with fail
  have r1 := hA3.p1
  have r2 := hA3.b2
  have r4 := hA3.b4
  simp only at r2 r4
  go_region_held3 (fun w' => w'.cell? ⟨pb, 1, none⟩ = some (.pointer (some ⟨c, 0, none⟩)) ∧ w'.cell? ⟨w.heap.size, 2, none⟩ = some (.int .i64 n) ∧ w'.cell? ⟨w.heap.size, 4, none⟩ = some (.string s)) ((refine ⟨?_, ?_, ?_⟩ <;> assumption)) (first | (go_at_call 43; refine Calls.mono (HY.out _ (hA3.drew HP.out)) ?_; rintro e w4 ⟨rfl, hA4, c1, c2, c4⟩))
  have HA4 : Hid (Behind F S w pb x c rb evv room es1 kn1 w4) := hA4
  clear hA3 hA4 r1 r2 r4 c1 c2 c4
  go_wp2_with (first | (go_at_call 32; refine (num_any _ _).mono ?_; rintro e w5 ⟨rfl, rfl⟩))
  go_ret
  exact ⟨rfl, es1, kn1, HA4.out⟩
end Go.Proofs.YtmnnojekcloblaaGreatDoor

namespace Go.Proofs.YtmnnojekcloblaaGreatDoor
open Go.RowKit

set_option maxHeartbeats 4000000 in
set_option maxRecDepth 100000 in
theorem turns_idle (w : World) (pb : Nat) (o : StepD) (hk : o.kind ≤ 0) :
    Calls Tryz.prog 19 #[.pointer (some ⟨pb, 0, none⟩), o.val] w fun e w' => e = .returned (.bool true) ∧ Below w.heap.size w w' := by
  obtain ⟨k, a, n, m, s⟩ := o
  unfold StepD.val
  simp only at *
  have k2 : (k == 2) = false := beq_eq_false_iff_ne.2 (by omega)
  have k10 : (k == 10) = false := beq_eq_false_iff_ne.2 (by omega)
  have k11 : (k == 11) = false := beq_eq_false_iff_ne.2 (by omega)
  have k12 : (k == 12) = false := beq_eq_false_iff_ne.2 (by omega)
  have k13 : (k == 13) = false := beq_eq_false_iff_ne.2 (by omega)
  have Hb : Hid (∀ ob, Below w.heap.size w (w.alloc ob)) := fun ob => (Below.refl _ w).alloc (Nat.le_refl _) ob
  go_enter Tryz.func19, Tryz.ntmps19
  go_wp2_with (first | (go_at_call 32; refine (num_any _ _).mono ?_; rintro e w5 ⟨rfl, rfl⟩))
  go_ret
  exact ⟨rfl, Hb.out _⟩
end Go.Proofs.YtmnnojekcloblaaGreatDoor

namespace Go.Proofs.YtmnnojekcloblaaGreatDoor
open Go.RowKit Go.Maps Go.ChangeMaps Go.MapKept

/-- An element reads as itself. -/
def idR (v : Value) : Option (DataW Value × List MemPlace) := some (.held v, [])

/-- The datum D says of each key what m says. -/
def Says (P : Program) (k : TypeId) (D : DataW Value) (m : Value → Option Value) : Prop :=
  (∀ key kl, keyOf P k key = some kl → Maps.has D kl = (m key).isSome ∧ ∀ v, m key = some v → ∀ z, D.atKey kl z = .held v) ∧ ∀ key, (m key).isSome = true → ∃ kl, keyOf P k key = some kl

/-- Block b is a map of N entries that holds m. -/
def MapV (P : Program) (k : TypeId) (w : World) (b N : Nat) (m : Value → Option Value) : Prop := ∃ D, w.ownsMap P k idR b N D ∧ Maps.size D = N ∧ Says P k D m

/-- A range over it under way: which keys are still to come. -/
def RangeV (P : Program) (k : TypeId) (w : World) (b r N : Nat) (m : Value → Option Value) (left : Value → Prop) (cnt : Nat) : Prop :=
  ∃ D lf, w.ranges P k idR b r N D lf cnt ∧ Maps.size D = N ∧ Says P k D m ∧ (∀ key kl, keyOf P k key = some kl → (lf kl = true ↔ left key)) ∧ ∀ key, left key → ∃ kl, keyOf P k key = some kl

open Classical in
noncomputable def upd (m : Value → Option Value) (key v : Value) : Value → Option Value := fun x => if x = key then some v else m x
open Classical in
noncomputable def era (m : Value → Option Value) (key : Value) : Value → Option Value := fun x => if x = key then none else m x
theorem upd_same (m : Value → Option Value) (key v : Value) : upd m key v key = some v := by simp [upd]
theorem upd_other {m : Value → Option Value} {key v x : Value} (h : x ≠ key) : upd m key v x = m x := by simp [upd, h]
theorem era_same (m : Value → Option Value) (key : Value) : era m key key = none := by simp [era]
theorem era_other {m : Value → Option Value} {key x : Value} (h : x ≠ key) : era m key x = m x := by simp [era, h]

variable {P : Program} {k : TypeId} {w : World} {b r N cnt : Nat} {m : Value → Option Value} {left : Value → Prop}

theorem own_tight {D : DataW Value} {n : Nat} (h : w.ownsMap P k idR b n D) : w.ownsMap P k idR b (Maps.size D) D := by
  obtain ⟨es, clock, hb, F, hs, hD⟩ := h
  refine ⟨es, clock, hb, F, ?_, hD⟩
  rw [hD]; simp [Maps.size, length_sorted]

theorem MapV.lt (h : MapV P k w b N m) : b < w.heap.size := by obtain ⟨D, h1, _⟩ := h; exact h1.lt
theorem MapV.kept {w' : World} {row : Option Nat} (h : MapV P k w b N m) (hg : w.grownBy w' row) (hne : some b ≠ row) : MapV P k w' b N m := by
  obtain ⟨D, h1, h2⟩ := h; exact ⟨D, h1.kept hg hne, h2⟩
theorem MapV.block {w' : World} (h : MapV P k w b N m) (hb : w'.heap[b]? = w.heap[b]?) : MapV P k w' b N m := by
  obtain ⟨D, ⟨es, clock, h1, r⟩, h2⟩ := h; exact ⟨D, ⟨es, clock, hb.trans h1, r⟩, h2⟩
theorem RangeV.block {w' : World} (h : RangeV P k w b r N m left cnt) (hb : w'.heap[b]? = w.heap[b]?) (hr : w'.heap[r]? = w.heap[r]?) : RangeV P k w' b r N m left cnt := by
  obtain ⟨D, lf, ⟨es, clock, since, seen, c0, h1, F, hs, hD, h2, rest⟩, h3⟩ := h
  exact ⟨D, lf, ⟨es, clock, since, seen, c0, hb.trans h1, F, hs, hD, hr.trans h2, rest⟩, h3⟩
theorem RangeV.map (h : RangeV P k w b r N m left cnt) : MapV P k w b N m := by obtain ⟨D, lf, h1, h2, h3, _⟩ := h; exact ⟨D, h1.owns, h2, h3⟩
theorem RangeV.left_eq (h : RangeV P k w b r N m left cnt) : w.rangeLeft b r = cnt := by obtain ⟨D, lf, h1, _⟩ := h; exact h1.left_eq
theorem RangeV.ne (h : RangeV P k w b r N m left cnt) : r ≠ b := by obtain ⟨D, lf, h1, _⟩ := h; exact h1.ne
theorem RangeV.lt (h : RangeV P k w b r N m left cnt) : r < w.heap.size := by obtain ⟨D, lf, h1, _⟩ := h; exact h1.lt
theorem MapV.noTag {t : TypeId} {cur : Array Value} {fz : Nat × Nat} (h : MapV P k w b N m) : w.heap[b]? ≠ some (.cells cur t fz) := by
  obtain ⟨D, ⟨es, clock, h1, r⟩, h2⟩ := h; rw [h1]; intro e; cases e

theorem MapV.made (w : World) (P : Program) (k : TypeId) : MapV P k (w.alloc (.map #[] 0)) w.heap.size 0 (fun _ => none) :=
  ⟨_, World.ownsMap_made w P k idR, rfl, fun key kl _ => ⟨rfl, fun v h => by cases h⟩, fun key h => by cases h⟩

theorem Says.at {D : DataW Value} (h : Says P k D m) {key : Value} {kl : Lit} (hk : keyOf P k key = some kl) (z : Value) : D.atKey kl (.held z) = .held ((m key).getD z) := by
  obtain ⟨h1, h2⟩ := h.1 key kl hk
  cases hm : m key with
  | none => rw [hm] at h1; exact atKey_of_not_has h1 _
  | some v => exact h2 v hm _

theorem MapV.look {t e : TypeId} (h : MapV P k w b N m) (K : Keyed P k) (ht : P.underlying t = some (.map k e)) {z : Value} (hz : (zeroValue e).run P w = .ok z w) {key : Value} {kl : Lit} (hk : keyOf P k key = some kl) :
    (Instr.lookup t (.map (some b)) key false).run P w = .ok ((m key).getD z) w := by
  obtain ⟨D, h1, _, h2⟩ := h
  obtain ⟨v, ps, hr, hv⟩ := h1.lookup K ht hz (show idR z = some (.held z, []) from rfl) hk
  rw [h2.at hk z] at hv
  simp only [idR, Option.some.injEq, Prod.mk.injEq, DataW.held.injEq] at hv
  rw [hr, hv.1]

theorem MapV.look_ok {t e : TypeId} (h : MapV P k w b N m) (K : Keyed P k) (ht : P.underlying t = some (.map k e)) {z : Value} (hz : (zeroValue e).run P w = .ok z w) {key : Value} {kl : Lit} (hk : keyOf P k key = some kl) :
    (Instr.lookup t (.map (some b)) key true).run P w = .ok (.tuple #[(m key).getD z, .bool (m key).isSome]) w := by
  obtain ⟨D, h1, _, h2⟩ := h
  obtain ⟨v, ps, hr, hv⟩ := h1.look_ok K ht hz (show idR z = some (.held z, []) from rfl) hk
  rw [h2.at hk z] at hv
  simp only [idR, Option.some.injEq, Prod.mk.injEq, DataW.held.injEq] at hv
  rw [hr, hv.1, (h2.1 key kl hk).1]

theorem MapV.len {t e : TypeId} (h : MapV P k w b N m) (ht : P.underlying t = some (.map k e)) (ty : TypeId) : (Builtin.len_ #[t] ty #[.map (some b)]).run P w = .ok (.int .i64 (N : Int)) w := by
  obtain ⟨D, h1, h2, _⟩ := h
  rw [h1.len ht ty, h2]

theorem MapV.zero (h : MapV P k w b N m) (K : Keyed P k) (h0 : ∀ key, m key = none) : N = 0 := by
  obtain ⟨D, h1, h2, h3⟩ := h
  obtain ⟨es, clock, hb, F, hs, rfl⟩ := h1
  rw [← h2]
  simp only [Maps.size, length_sorted, List.length_map, Array.length_toList]
  rcases Nat.eq_zero_or_pos es.size with h | h
  · exact h
  · exfalso
    obtain ⟨x, hx⟩ : ∃ x, x ∈ es.toList := ⟨es[0], by simp⟩
    obtain ⟨y, hy⟩ := F.reads x hx
    have hkey := WideElems.rd_key hy
    have hh := (h3.1 _ _ hkey).1
    rw [h0] at hh
    have : Maps.has (DataW.map ((es.toList.map (WideElems.rg P k idR)).foldr DataW.insert [])) y.1 = true :=
      List.any_eq_true.2 ⟨WideElems.rg P k idR x, mem_sorted.2 (List.mem_map.2 ⟨x, hx, rfl⟩), by rw [WideElems.rg_of hy]; exact WideAt.sameKey_self (K.key hkey)⟩
    rw [this] at hh
    cases hh

theorem MapV.store {t e : TypeId} (h : MapV P k w b N m) (K : Keyed P k) (ht : P.underlying t = some (.map k e)) (hn : N < maxLen) {key : Value} (val : Value) {kl : Lit} (hk : keyOf P k key = some kl) :
    ∃ w', (Instr.mapUpdate t (.map (some b)) key val).run P w = .ok () w' ∧ MapV P k w' b (if (m key).isSome then N else N + 1) (upd m key val) ∧ w.grownBy w' (some b) ∧ w'.heap.size = w.heap.size := by
  obtain ⟨D, h1, h2, h3⟩ := h
  have tidy := h1.tidy K
  have hisl := K.key hk
  obtain ⟨w', hr, h4, h5⟩ := h1.store K ht hn hk (show idR val = some (.held val, []) from rfl)
  have hsz : w'.heap.size = w.heap.size := by obtain ⟨_, _, _, _, _, rfl⟩ := h5; simp [setBlock]
  have hN : Maps.size (D.put kl (.held val)) = if (m key).isSome then N else N + 1 := by rw [size_put tidy, (h3.1 key kl hk).1, h2]
  refine ⟨w', hr, ⟨_, hN ▸ own_tight h4, hN, ?_, ?_⟩, h5.grown, hsz⟩
  · intro key2 kl2 hk2
    by_cases e : key2 = key
    · subst e
      rw [hk] at hk2; cases hk2
      rw [upd_same]
      exact ⟨has_put_same tidy.isMap hisl _, fun v hv z => by cases hv; exact atKey_put_same tidy.isMap hisl _ _⟩
    · have hne : kl2 ≠ kl := fun e2 => e (K.inj hk2 (e2 ▸ hk))
      rw [upd_other e]
      exact ⟨(has_put_other hne _).trans (h3.1 key2 kl2 hk2).1, fun v hv z => (atKey_put_other hne _ _).trans ((h3.1 key2 kl2 hk2).2 v hv z)⟩
  · intro key2 h
    by_cases e : key2 = key
    · subst e; exact ⟨kl, hk⟩
    · rw [upd_other e] at h; exact h3.2 key2 h

theorem MapV.drop {t e : TypeId} (h : MapV P k w b N m) (K : Keyed P k) (ht : P.underlying t = some (.map k e)) {key : Value} {kl : Lit} (hk : keyOf P k key = some kl) (ty : TypeId) :
    ∃ w', (Builtin.delete_ #[t, k] ty #[.map (some b), key]).run P w = .ok (.tuple #[]) w' ∧ MapV P k w' b (if (m key).isSome then N - 1 else N) (era m key) ∧ w.grownBy w' (some b) ∧ w'.heap.size = w.heap.size := by
  obtain ⟨D, h1, h2, h3⟩ := h
  have tidy := h1.tidy K
  obtain ⟨w', hr, h4, h5⟩ := h1.drop K ht hk ty
  have hsz : w'.heap.size = w.heap.size := by obtain ⟨_, _, _, _, _, rfl⟩ := h5; simp [setBlock]
  have hN : Maps.size (D.del kl) = if (m key).isSome then N - 1 else N := by
    have := size_del (k := kl) tidy
    rw [(h3.1 key kl hk).1, h2] at this
    split at this <;> simp_all <;> omega
  refine ⟨w', hr, ⟨_, hN ▸ own_tight h4, hN, ?_, ?_⟩, h5.grown, hsz⟩
  · intro key2 kl2 hk2
    by_cases e : key2 = key
    · subst e
      rw [hk] at hk2; cases hk2
      rw [era_same]
      exact ⟨has_del_same, fun v hv => by cases hv⟩
    · have hne : kl2 ≠ kl := fun e2 => e (K.inj hk2 (e2 ▸ hk))
      rw [era_other e]
      exact ⟨(has_del_other hne).trans (h3.1 key2 kl2 hk2).1, fun v hv z => (atKey_del_other hne _).trans ((h3.1 key2 kl2 hk2).2 v hv z)⟩
  · intro key2 h
    by_cases e : key2 = key
    · subst e; exact ⟨kl, hk⟩
    · rw [era_other e] at h; exact h3.2 key2 h

theorem MapV.range {t e : TypeId} (h : MapV P k w b N m) (K : Keyed P k) (ht : P.underlying t = some (.map k e)) :
    ∃ w', (Instr.range t (.map (some b))).run P w = .ok (.pointer (some ⟨w.heap.size, 0, none⟩)) w' ∧ RangeV P k w' b w.heap.size N m (fun key => (m key).isSome = true) N ∧ w.grownBy w' none ∧ w'.heap.size = w.heap.size + 1 := by
  obtain ⟨D, h1, h2, h3⟩ := h
  obtain ⟨w', hr, h4, h5, h6⟩ := h1.range K ht
  exact ⟨w', hr, ⟨D, _, h2 ▸ h4, h2, h3, fun key kl hk => by rw [(h3.1 key kl hk).1], h3.2⟩, h5, h6⟩

theorem RangeV.next (h : RangeV P k w b r N m left cnt) (K : Keyed P k) (ty : TypeId) :
    (cnt = 0 ∧ (∀ key, ¬ left key) ∧ (Instr.next (.pointer (some ⟨r, 0, none⟩)) false ty).run P w = .ok (.tuple #[.bool false]) w) ∨
    ∃ key v w' cnt', left key ∧ m key = some v ∧ (Instr.next (.pointer (some ⟨r, 0, none⟩)) false ty).run P w = .ok (.tuple #[.bool true, key, v]) w' ∧
      RangeV P k w' b r N m (fun x => left x ∧ x ≠ key) cnt' ∧ cnt' < cnt ∧ w.grownBy w' (some r) ∧ w'.heap.size = w.heap.size ∧ (Instr.entry (.pointer (some ⟨r, 0, none⟩))).run P w' = .ok (.tuple #[key, v]) w' := by
  obtain ⟨D, lf, h1, h2, h3, h4, h5⟩ := h
  rcases h1.next K ty with ⟨h0, hl, hrun⟩ | ⟨key, v, kl, y, w', cnt', hkey, hlk, hv, hat, hrun, hrg, hlt, hgr, hsz, hen⟩
  · refine Or.inl ⟨h0, fun key hk => ?_, hrun⟩
    obtain ⟨kl, hkl⟩ := h5 key hk
    have := (h4 key kl hkl).2 hk
    rw [hl] at this; cases this
  · simp only [idR, Option.some.injEq] at hv
    subst hv
    have hmv : m key = some v := by
      have hh := (h3.1 key kl hkey).1
      rw [has_true_of_atKey hat] at hh
      obtain ⟨u, hu⟩ := Option.isSome_iff_exists.1 hh.symm
      have := (h3.1 key kl hkey).2 u hu (.held v)
      rw [hat] at this
      cases this
      exact hu
    refine Or.inr ⟨key, v, w', cnt', (h4 key kl hkey).1 hlk, hmv, hrun, ⟨D, _, hrg, h2, h3, ?_, fun x hx => h5 x hx.1⟩, hlt, hgr, hsz, hen⟩
    intro key2 kl2 hk2
    by_cases e : key2 = key
    · subst e
      rw [hkey] at hk2; cases hk2
      simp [WideAt.sameKey_self (K.key hkey)]
    · have hne : kl2 ≠ kl := fun e2 => e (K.inj hk2 (e2 ▸ hkey))
      simp only [sameKey_ne hne, Bool.not_false, Bool.and_true]
      rw [h4 key2 kl2 hk2]
      exact ⟨fun h => ⟨h, e⟩, fun h => h.1⟩

/-! ### at the operation, for the walk -/
section
variable {ops : Array Oper} {rest : List Oper} {o : Oper} {a : Act} {Q : Exit → Act → World → Prop}

theorem wpList_look (hg : o.guard = none) (mo x : Operand) (t : TypeId) (hop : o.op = Op.lookup t mo x false) (e : TypeId) (K : Keyed P k) (ht : P.underlying t = some (.map k e)) {z : Value} (hz : (zeroValue e).run P w = .ok z w)
    (hm : a.eval mo = .map (some b)) (h : MapV P k w b N m) (key : Value) (kl : Lit) (hx : a.eval x = key) (hk : keyOf P k key = some kl) (u : Value) (hu : (m key).getD z = u)
    (hK : wpList P ops Q rest (a.put o.dst u) w) : wpList P ops Q (o :: rest) a w := by
  refine wpList_plain hg fun K' hK' => ?_
  unfold Oper.wp
  simp [execOp, hop, hm, hx, h.look K ht hz hk, hu, Result.andThen]
  exact hK' _ _ hK

theorem wpList_look_ok (hg : o.guard = none) (mo x : Operand) (t : TypeId) (hop : o.op = Op.lookup t mo x true) (e : TypeId) (K : Keyed P k) (ht : P.underlying t = some (.map k e)) {z : Value} (hz : (zeroValue e).run P w = .ok z w)
    (hm : a.eval mo = .map (some b)) (h : MapV P k w b N m) (key : Value) (kl : Lit) (hx : a.eval x = key) (hk : keyOf P k key = some kl) (u : Value) (hu : (m key).getD z = u) (c : Bool) (hc : (m key).isSome = c)
    (hK : wpList P ops Q rest (a.put o.dst (.tuple #[u, .bool c])) w) : wpList P ops Q (o :: rest) a w := by
  refine wpList_plain hg fun K' hK' => ?_
  unfold Oper.wp
  simp [execOp, hop, hm, hx, h.look_ok K ht hz hk, hu, hc, Result.andThen]
  exact hK' _ _ hK

theorem wpList_store (hg : o.guard = none) (mo x v : Operand) (t : TypeId) (hop : o.op = Op.mapUpdate t mo x v) (e : TypeId) (K : Keyed P k) (ht : P.underlying t = some (.map k e))
    (hm : a.eval mo = .map (some b)) (h : MapV P k w b N m) (hn : N < maxLen) (key val : Value) (kl : Lit) (hx : a.eval x = key) (hv : a.eval v = val) (hk : keyOf P k key = some kl)
    (hK : ∀ w', MapV P k w' b (if (m key).isSome then N else N + 1) (upd m key val) → w.grownBy w' (some b) → w'.heap.size = w.heap.size → wpList P ops Q rest (a.put o.dst undef) w') : wpList P ops Q (o :: rest) a w := by
  refine wpList_plain hg fun K' hK' => ?_
  obtain ⟨w', hrun, r1, r2, r3⟩ := h.store K ht hn val hk
  unfold Oper.wp
  simp [execOp, hop, hm, hx, hv, hrun, Result.andThen]
  exact hK' _ _ (hK w' r1 r2 r3)

theorem wpList_drop (hg : o.guard = none) (mo x : Operand) (t : TypeId) (hop : o.op = Op.call { callee := Callee.builtin Builtin.delete, args := #[mo, x], argTypes := #[t, k] }) (e : TypeId) (K : Keyed P k) (ht : P.underlying t = some (.map k e))
    (hm : a.eval mo = .map (some b)) (h : MapV P k w b N m) (key : Value) (kl : Lit) (hx : a.eval x = key) (hk : keyOf P k key = some kl)
    (hK : ∀ w', MapV P k w' b (if (m key).isSome then N - 1 else N) (era m key) → w.grownBy w' (some b) → w'.heap.size = w.heap.size → wpList P ops Q rest (a.put o.dst (.tuple #[])) w') : wpList P ops Q (o :: rest) a w := by
  refine wpList_plain hg fun K' hK' => ?_
  obtain ⟨w', hrun, r1, r2, r3⟩ := h.drop K ht hk o.type
  unfold Oper.wp
  simp [execOp, hop, resolve, invoke, builtin, hm, hx, hrun, Result.andThen]
  exact hK' _ _ (hK w' r1 r2 r3)

theorem wpList_range (hg : o.guard = none) (mo : Operand) (t : TypeId) (hop : o.op = Op.range t mo) (e : TypeId) (K : Keyed P k) (ht : P.underlying t = some (.map k e))
    (hm : a.eval mo = .map (some b)) (h : MapV P k w b N m)
    (hK : ∀ w', RangeV P k w' b w.heap.size N m (fun key => (m key).isSome = true) N → w.grownBy w' none → w'.heap.size = w.heap.size + 1 → wpList P ops Q rest (a.put o.dst (.pointer (some ⟨w.heap.size, 0, none⟩))) w') : wpList P ops Q (o :: rest) a w := by
  refine wpList_plain hg fun K' hK' => ?_
  obtain ⟨w', hrun, r1, r2, r3⟩ := h.range K ht
  unfold Oper.wp
  simp [execOp, hop, hm, hrun, Result.andThen]
  exact hK' _ _ (hK w' r1 r2 r3)

/-- 'mk', 'mv' say the keys' and elements' shapes. -/
theorem wpList_next {α : Type} (hg : o.guard = none) (it : Operand) (hop : o.op = Op.next it false) (K : Keyed P k) (mk mv : α → Value) (hit : a.eval it = .pointer (some ⟨r, 0, none⟩)) (h : RangeV P k w b r N m left cnt)
    (hsh : ∀ key v, left key → m key = some v → ∃ x, key = mk x ∧ v = mv x)
    (hDone : cnt = 0 → (∀ key, ¬ left key) → wpList P ops Q rest (a.put o.dst (.tuple #[.bool false])) w)
    (hMore : ∀ (x : α) (w' : World) (cnt' : Nat), left (mk x) → m (mk x) = some (mv x) → RangeV P k w' b r N m (fun y => left y ∧ y ≠ mk x) cnt' → cnt' < cnt → w.grownBy w' (some r) → w'.heap.size = w.heap.size →
      (Instr.entry (.pointer (some ⟨r, 0, none⟩))).run P w' = .ok (.tuple #[mk x, mv x]) w' → wpList P ops Q rest (a.put o.dst (.tuple #[.bool true, mk x, mv x])) w') : wpList P ops Q (o :: rest) a w := by
  refine wpList_plain hg fun K' hK' => ?_
  unfold Oper.wp
  rcases h.next K o.type with ⟨h0, hl, hrun⟩ | ⟨key, v, w', cnt', hlk, hv, hrun, hrg, hlt, hgr, hsz, hen⟩
  · simp [execOp, hop, hit, hrun, Result.andThen]
    exact hK' _ _ (hDone h0 hl)
  · obtain ⟨x, rfl, rfl⟩ := hsh key v hlk hv
    simp [execOp, hop, hit, hrun, Result.andThen]
    exact hK' _ _ (hMore x w' cnt' hlk hv hrg hlt hgr hsz hen)
end
end Go.Proofs.YtmnnojekcloblaaGreatDoor

namespace Go.Proofs.YtmnnojekcloblaaGreatDoor
open Go.RowKit Go.Maps Go.WideMaps

/-- A dot's value. -/
abbrev dotV (a n : Int) : Value := .agg #[.int .i64 a, .int .i64 n]
abbrev unitV : Value := .agg #[]

theorem kInt : Keyed Tryz.prog 3 := int_keyed Tryz.underlying3
theorem laidA : laidOutB Tryz.prog = true := by kernel_rfl
theorem rowDot : 117 < Tryz.prog.types.size := of_decide_eq_true (by kernel_rfl)
theorem kDot : Keyed Tryz.prog 117 := Keyed.of_law (deep_law_laid laidA (m := 2) (by omega) rowDot (by kernel_rfl) (by kernel_rfl))
theorem zInt (w : World) : (zeroValue 3).run Tryz.prog w = .ok (.int .i64 0) w := by kernel_rfl
theorem zUnit (w : World) : (zeroValue 47).run Tryz.prog w = .ok unitV w := by kernel_rfl

theorem wf64 {n : Int} (h : -9223372036854775808 ≤ n ∧ n ≤ 9223372036854775807) : (Lit.int .i64 n).wf = true := WalkArith.wf_i64 (by omega)
theorem keyInt (a : Nat) (ha : a ≤ 1000) : keyOf Tryz.prog 3 (.int .i64 (a : Int)) = some (.int .i64 (a : Int)) := keyOf_int_mk Tryz.underlying3 (wf64 (by omega))
theorem keyLitsDot (d : Nat) (a n : Int) (h1 : (Lit.int .i64 a).wf = true) (h2 : (Lit.int .i64 n).wf = true) : Tryz.prog.keyLits (d + 2) 117 [.int .i64 a, .int .i64 n] = some [.int .i64 a, .int .i64 n] := by
  have hc : Tryz.prog.cellsOf 117 = 2 := by kernel_rfl
  have hi : Tryz.prog.cellsOf 3 = 1 := by kernel_rfl
  simp [Tryz.underlying117, hc, Program.keyLits, hi, Tryz.underlying3, h1, h2]
theorem keyDot (a n : Nat) (ha : a ≤ 1000) (hn : n ≤ 1000) : ∃ kl, keyOf Tryz.prog 117 (dotV a n) = some kl := by
  have h1 : (Lit.int .i64 (a : Int)).wf = true := wf64 (by omega)
  have h2 : (Lit.int .i64 (n : Int)).wf = true := wf64 (by omega)
  have hk : Tryz.prog.keyType 117 = true := by kernel_rfl
  have hf : (dotV a n).formed Tryz.prog 117 = true := by
    have hc : Tryz.prog.cellsOf 117 = 2 := by kernel_rfl
    simp [Value.formed, Tryz.underlying117, hc]
  obtain ⟨d, hd⟩ : ∃ d, Tryz.prog.types.size + 1 = d + 2 := ⟨Tryz.prog.types.size - 1, by have := rowDot; omega⟩
  refine ⟨.string (keyBytes [.int .i64 (a : Int), .int .i64 (n : Int)]), ?_⟩
  unfold keyOf
  rw [Tryz.underlying117, hd]
  simp only [hk, hf, Bool.and_self, if_true]
  rw [show (dotV a n).cells.toList = [.int .i64 (a : Int), .int .i64 (n : Int)] from rfl, keyLitsDot d _ _ h1 h2]
  rfl

end Go.Proofs.YtmnnojekcloblaaGreatDoor

namespace Go.Proofs.YtmnnojekcloblaaGreatDoor
open Go.RowKit Go.Maps Go.WideMaps

/-- A map, or nil. -/
def MapO (P : Program) (k : TypeId) (w : World) (v : Value) (N : Nat) (m : Value → Option Value) : Prop := (v = .map none ∧ N = 0 ∧ m = fun _ => none) ∨ ∃ b, v = .map (some b) ∧ MapV P k w b N m

section
variable {P : Program} {k : TypeId} {w : World} {v : Value} {N : Nat} {m : Value → Option Value}
theorem MapO.below {w' : World} (h : MapO P k w v N m) (hb : Below w.heap.size w w') : MapO P k w' v N m := by
  rcases h with h | ⟨b, h1, h2⟩
  · exact Or.inl h
  · exact Or.inr ⟨b, h1, h2.block (hb.block b h2.lt)⟩
theorem MapO.look {t e : TypeId} (h : MapO P k w v N m) (K : Keyed P k) (ht : P.underlying t = some (.map k e)) {z : Value} (hz : (zeroValue e).run P w = .ok z w) {key : Value} {kl : Lit} (hk : keyOf P k key = some kl) :
    (Instr.lookup t v key false).run P w = .ok ((m key).getD z) w := by
  rcases h with ⟨rfl, _, rfl⟩ | ⟨b, rfl, h2⟩
  · simpa using Maps.look_nil false K ht hz hk
  · exact h2.look K ht hz hk
theorem MapO.look_ok {t e : TypeId} (h : MapO P k w v N m) (K : Keyed P k) (ht : P.underlying t = some (.map k e)) {z : Value} (hz : (zeroValue e).run P w = .ok z w) {key : Value} {kl : Lit} (hk : keyOf P k key = some kl) :
    (Instr.lookup t v key true).run P w = .ok (.tuple #[(m key).getD z, .bool (m key).isSome]) w := by
  rcases h with ⟨rfl, _, rfl⟩ | ⟨b, rfl, h2⟩
  · simpa using Maps.look_nil true K ht hz hk
  · exact h2.look_ok K ht hz hk
theorem MapO.len {t e : TypeId} (h : MapO P k w v N m) (ht : P.underlying t = some (.map k e)) (ty : TypeId) : (Builtin.len_ #[t] ty #[v]).run P w = .ok (.int .i64 (N : Int)) w := by
  rcases h with ⟨rfl, rfl, rfl⟩ | ⟨b, rfl, h2⟩
  · exact Maps.len_nil ht ty
  · exact h2.len ht ty

variable {ops : Array Oper} {rest : List Oper} {o : Oper} {a : Act} {Q : Exit → Act → World → Prop}
theorem wpList_lookO (hg : o.guard = none) (mo x : Operand) (t : TypeId) (hop : o.op = Op.lookup t mo x false) (e : TypeId) (K : Keyed P k) (ht : P.underlying t = some (.map k e)) {z : Value} (hz : (zeroValue e).run P w = .ok z w)
    (hm : a.eval mo = v) (h : MapO P k w v N m) (key : Value) (kl : Lit) (hx : a.eval x = key) (hk : keyOf P k key = some kl) (u : Value) (hu : (m key).getD z = u)
    (hK : wpList P ops Q rest (a.put o.dst u) w) : wpList P ops Q (o :: rest) a w := by
  refine wpList_plain hg fun K' hK' => ?_
  unfold Oper.wp
  simp [execOp, hop, hm, hx, h.look K ht hz hk, hu, Result.andThen]
  exact hK' _ _ hK
theorem wpList_lookO_ok (hg : o.guard = none) (mo x : Operand) (t : TypeId) (hop : o.op = Op.lookup t mo x true) (e : TypeId) (K : Keyed P k) (ht : P.underlying t = some (.map k e)) {z : Value} (hz : (zeroValue e).run P w = .ok z w)
    (hm : a.eval mo = v) (h : MapO P k w v N m) (key : Value) (kl : Lit) (hx : a.eval x = key) (hk : keyOf P k key = some kl) (u : Value) (hu : (m key).getD z = u) (c : Bool) (hc : (m key).isSome = c)
    (hK : wpList P ops Q rest (a.put o.dst (.tuple #[u, .bool c])) w) : wpList P ops Q (o :: rest) a w := by
  refine wpList_plain hg fun K' hK' => ?_
  unfold Oper.wp
  simp [execOp, hop, hm, hx, h.look_ok K ht hz hk, hu, hc, Result.andThen]
  exact hK' _ _ hK
end

open Classical in
/-- The counts of a context: c at a. -/
noncomputable def cm (a c : Nat) : Value → Option Value := fun key => if c ≠ 0 ∧ key = .int .i64 (a : Int) then some (.int .i64 (c : Int)) else none
open Classical in
/-- The loose dots: those of a that L tells. -/
noncomputable def lm (a : Nat) (L : Nat → Bool) : Value → Option Value := fun key => if ∃ n, L n = true ∧ key = dotV a n then some unitV else none

theorem cm_get (a c : Nat) : (cm a c (.int .i64 (a : Int))).getD (.int .i64 0) = .int .i64 (c : Int) := by
  unfold cm
  by_cases h : c = 0
  · subst h; simp
  · simp [h]
theorem lm_some (a n : Nat) (L : Nat → Bool) : (lm a L (dotV a n)).isSome = L n := by
  unfold lm
  by_cases h : L n = true
  · rw [if_pos ⟨n, h, rfl⟩, h]; rfl
  · rw [if_neg, Bool.eq_false_iff.2 h]; rfl
    rintro ⟨n', h1, h2⟩
    have : n = n' := by simp [dotV] at h2; omega
    exact h (this ▸ h1)
theorem lm_getD (a : Nat) (L : Nat → Bool) (key : Value) : (lm a L key).getD unitV = unitV := by
  unfold lm; split <;> rfl

/-- A context that knows dots of replica a alone: the first c, and behind a gap those of L. -/
structure CtxV (w : World) (cv lv : Value) (a c : Nat) (L : Nat → Bool) : Prop where
  cs : ∃ N, MapO Tryz.prog 3 w cv N (cm a c)
  ls : ∃ N, MapO Tryz.prog 117 w lv N (lm a L)
  c501 : c ≤ 501
  l501 : ∀ n, L n = true → c < n ∧ n ≤ 501
  a5 : a ≤ 5

theorem CtxV.below {w w' : World} {cv lv : Value} {a c : Nat} {L : Nat → Bool} (h : CtxV w cv lv a c L) (hb : Below w.heap.size w w') : CtxV w' cv lv a c L := by
  obtain ⟨⟨N, h1⟩, ⟨N', h2⟩, h3, h4, h5⟩ := h
  exact ⟨⟨N, h1.below hb⟩, ⟨N', h2.below hb⟩, h3, h4, h5⟩

set_option maxHeartbeats 1000000 in
set_option maxRecDepth 100000 in
theorem next_any (w : World) (cv lv : Value) (a c : Nat) (L : Nat → Bool) (h : CtxV w cv lv a c L) :
    Calls Tryz.prog 98 #[.agg #[cv, lv], .int .i64 (a : Int)] w fun e w' => e = .returned (.agg #[.int .i64 (a : Int), .int .i64 ((c + 1 : Nat) : Int)]) ∧ Below w.heap.size w w' := by
  obtain ⟨⟨N, h1⟩, ⟨N', h2⟩, h3, h4, h5⟩ := h
  have H1 : Hid (∀ w', Below w.heap.size w w' → MapO Tryz.prog 3 w' cv N (cm a c)) := fun w' hb => h1.below hb
  have hk := keyInt a (by omega)
  have hu := cm_get a c
  clear h1 h2 h4
  go_enter Tryz.func98, Tryz.ntmps98
  go_wp2_with (first | (at_lookup; refine wpList_lookO rfl (.tmp 7) (.tmp 8) 100 rfl 3 kInt Tryz.underlying100 (zInt _) rfl (H1.out _ ?_) _ _ rfl hk _ hu ?_; (go_grown)))
  refine bodyPost_ret (v := dotV a ((c + 1 : Nat) : Int)) (by simp [results, Tryz.results98, go_sem]) rfl ⟨rfl, by go_grown⟩

set_option maxHeartbeats 1000000 in
set_option maxRecDepth 100000 in
theorem has_any (w : World) (cv lv : Value) (a c n : Nat) (L : Nat → Bool) (h : CtxV w cv lv a c L) (hn : n ≤ 1000) :
    Calls Tryz.prog 144 #[.agg #[cv, lv], dotV a n] w fun e w' => e = .returned (.bool (decide (n ≤ c) || L n)) ∧ Below w.heap.size w w' := by
  obtain ⟨⟨N, h1⟩, ⟨N', h2⟩, h3, h4, h5⟩ := h
  have H1 : Hid (∀ w', Below w.heap.size w w' → MapO Tryz.prog 3 w' cv N (cm a c)) := fun w' hb => h1.below hb
  have H2 : Hid (∀ w', Below w.heap.size w w' → MapO Tryz.prog 117 w' lv N' (lm a L)) := fun w' hb => h2.below hb
  have hk := keyInt a (by omega)
  obtain ⟨kl, hkl⟩ := keyDot a n (by omega) hn
  have hu := cm_get a c
  have hu2 := lm_getD a L (dotV a n)
  have hc2 := lm_some a n L
  generalize L n = ln at *
  clear h1 h2 h4
  by_cases hnc : n ≤ c
  · have hd : decide (n ≤ c) = true := by simpa using hnc
    rw [hd]
    go_enter Tryz.func144, Tryz.ntmps144
    go_wp2_with (first | (at_lookup; refine wpList_lookO rfl (.tmp 10) (.tmp 12) 100 rfl 3 kInt Tryz.underlying100 (zInt _) rfl (H1.out _ ?_) _ _ rfl hk _ hu ?_; (go_grown)))
    go_ret
    exact ⟨rfl, by go_grown⟩
  · have hd : decide (n ≤ c) = false := by simpa using hnc
    rw [hd]
    go_enter Tryz.func144, Tryz.ntmps144
    go_wp2_with (first | (at_lookup; refine wpList_lookO rfl (.tmp 10) (.tmp 12) 100 rfl 3 kInt Tryz.underlying100 (zInt _) rfl (H1.out _ ?_) _ _ rfl hk _ hu ?_; (go_grown)) | (at_lookup; refine wpList_lookO_ok rfl (.tmp 17) (.tmp 18) 101 rfl 47 kDot Tryz.underlying101 (zUnit _) rfl (H2.out _ ?_) _ _ rfl hkl _ hu2 _ hc2 ?_; (go_grown)))
    go_ret
    exact ⟨by simp, by go_grown⟩
end Go.Proofs.YtmnnojekcloblaaGreatDoor

namespace Go.Proofs.YtmnnojekcloblaaGreatDoor
open Go.RowKit Go.Maps Go.WideMaps Go.ChangeMaps Go.MapKept

/-- .. that may be written. -/
structure CtxW (w : World) (cb lb : Nat) (a c : Nat) (L : Nat → Bool) : Prop where
  cs : ∃ N, MapV Tryz.prog 3 w cb N (cm a c)
  ls : ∃ N, MapV Tryz.prog 117 w lb N (lm a L)
  ne : cb ≠ lb
  c501 : c ≤ 501
  l501 : ∀ n, L n = true → c < n ∧ n ≤ 501
  a5 : a ≤ 5
theorem CtxW.toV {w : World} {cb lb : Nat} {a c : Nat} {L : Nat → Bool} (h : CtxW w cb lb a c L) : CtxV w (.map (some cb)) (.map (some lb)) a c L := by
  obtain ⟨⟨N, h1⟩, ⟨N', h2⟩, _, h3, h4, h5⟩ := h
  exact ⟨⟨N, Or.inr ⟨_, rfl, h1⟩⟩, ⟨N', Or.inr ⟨_, rfl, h2⟩⟩, h3, h4, h5⟩
theorem CtxW.lt {w : World} {cb lb : Nat} {a c : Nat} {L : Nat → Bool} (h : CtxW w cb lb a c L) : cb < w.heap.size ∧ lb < w.heap.size := by
  obtain ⟨⟨N, h1⟩, ⟨N', h2⟩, _⟩ := h; exact ⟨h1.lt, h2.lt⟩
theorem CtxW.chg {M : Nat → Prop} {w w' : World} {cb lb : Nat} {a c : Nat} {L : Nat → Bool} (h : CtxW w cb lb a c L) (hc : Chg M w w') (h1 : ¬ M cb) (h2 : ¬ M lb) : CtxW w' cb lb a c L := by
  obtain ⟨⟨N, g1⟩, ⟨N', g2⟩, r1, r2, r3, r4⟩ := h
  exact ⟨⟨N, g1.block (hc.block _ g1.lt h1)⟩, ⟨N', g2.block (hc.block _ g2.lt h2)⟩, r1, r2, r3, r4⟩
theorem CtxW.below {w w' : World} {cb lb : Nat} {a c : Nat} {L : Nat → Bool} (h : CtxW w cb lb a c L) (hb : Below w.heap.size w w') : CtxW w' cb lb a c L := h.chg (M := fun _ => False) (Chg.of_below hb) (fun h => h) (fun h => h)

/-- Pigeons: different numbers below M are at most M. -/
theorem nodup_lt : ∀ (M : Nat) (l : List Nat), l.Pairwise (fun x y => x ≠ y) → (∀ x ∈ l, x < M) → l.length ≤ M := by
  intro M
  induction M with
  | zero => intro l _ h; cases l with | nil => simp | cons x r => exact absurd (h x (by simp)) (by omega)
  | succ M ih =>
    intro l hp h
    by_cases hm : M ∈ l
    · have h1 := ih (l.erase M) (hp.sublist List.erase_sublist) (fun x hx => by
        have h2 := List.mem_of_mem_erase hx
        have h3 := h x h2
        have h4 : x ≠ M := fun e => by
          subst e
          exact (List.Nodup.not_mem_erase (show l.Nodup from hp)) hx
        omega)
      have := List.length_erase_of_mem hm
      omega
    · have := ih l hp (fun x hx => by have := h x hx; have : x ≠ M := fun e => hm (e ▸ hx); omega)
      omega

/-- A map whose keys are f of numbers below M has at most M entries. -/
theorem MapV.bound {P : Program} {k : TypeId} {w : World} {b N M : Nat} {m : Value → Option Value} (h : MapV P k w b N m) (K : Keyed P k) (f : Nat → Value) (hf : ∀ key, (m key).isSome = true → ∃ n, n < M ∧ key = f n) : N ≤ M := by
  obtain ⟨D, h1, h2, h3⟩ := h
  obtain ⟨es, clock, hb, F, hs, rfl⟩ := h1
  have hst := (stamped_iff es clock).1 F.stamped
  rw [← h2]
  simp only [Maps.size, length_sorted, List.length_map]
  have hx : ∀ x ∈ es.toList, ∃ n, n < M ∧ x.key = f n := by
    intro x hx
    obtain ⟨y, hy⟩ := F.reads x hx
    have hkey := WideElems.rd_key hy
    refine hf _ ?_
    rw [← (h3.1 _ _ hkey).1]
    exact List.any_eq_true.2 ⟨WideElems.rg P k idR x, mem_sorted.2 (List.mem_map.2 ⟨x, hx, rfl⟩), by rw [WideElems.rg_of hy]; exact WideAt.sameKey_self (K.key hkey)⟩
  obtain ⟨g, hg⟩ : ∃ g : MapEntry → Nat, ∀ x ∈ es.toList, g x < M ∧ x.key = f (g x) := by
    refine ⟨fun x => @dite Nat (x ∈ es.toList) (Classical.propDecidable _) (fun h => Classical.choose (hx x h)) (fun _ => 0), fun x h => ?_⟩
    dsimp only
    rw [dif_pos h]
    exact Classical.choose_spec (hx x h)
  have hp : (es.toList.map g).Pairwise (fun x y => x ≠ y) := by
    rw [List.pairwise_map]
    refine List.Pairwise.imp_of_mem ?_ hst.2.2
    intro x y hx hy hne e
    exact hne (by rw [(hg x hx).2, (hg y hy).2, e])
  have := nodup_lt M _ hp (fun n hn => by obtain ⟨x, hx, rfl⟩ := List.mem_map.1 hn; exact (hg x hx).1)
  simpa using this

theorem loose_bound {w : World} {lb N a : Nat} {L : Nat → Bool} (h : MapV Tryz.prog 117 w lb N (lm a L)) (hl : ∀ n, L n = true → n ≤ 501) : N ≤ 502 := by
  refine h.bound kDot (fun n => dotV a n) ?_
  intro key hk
  unfold lm at hk
  split at hk
  · rename_i h; obtain ⟨n, h1, h2⟩ := h; exact ⟨n, by have := hl n h1; omega, h2⟩
  · cases hk
theorem counts_bound {w : World} {cb N a c : Nat} (h : MapV Tryz.prog 3 w cb N (cm a c)) : N ≤ 1 := by
  refine h.bound kInt (fun _ => .int .i64 (a : Int)) ?_
  intro key hk
  unfold cm at hk
  split at hk
  · rename_i h; exact ⟨0, by omega, h.2⟩
  · cases hk

theorem cm_upd (a c : Nat) : upd (cm a c) (.int .i64 (a : Int)) (.int .i64 ((c + 1 : Nat) : Int)) = cm a (c + 1) := by
  funext key
  by_cases e : key = .int .i64 (a : Int)
  · subst e; rw [upd_same]; simp [cm]
  · rw [upd_other e]; simp [cm, e]
theorem lm_upd (a n : Nat) (L : Nat → Bool) : upd (lm a L) (dotV a n) unitV = lm a (fun k => L k || k == n) := by
  funext key
  by_cases e : key = dotV a n
  · subst e; rw [upd_same]; unfold lm; rw [if_pos ⟨n, by simp, rfl⟩]
  · rw [upd_other e]
    unfold lm
    congr 1
    apply propext
    constructor
    · rintro ⟨k, h1, h2⟩; exact ⟨k, by simp [h1], h2⟩
    · rintro ⟨k, h1, h2⟩
      simp at h1
      rcases h1 with h1 | h1
      · exact ⟨k, h1, h2⟩
      · subst h1; exact absurd h2 e
theorem lm_era (a n : Nat) (L : Nat → Bool) : era (lm a L) (dotV a n) = lm a (fun k => L k && k != n) := by
  funext key
  by_cases e : key = dotV a n
  · subst e; rw [era_same]; unfold lm; rw [if_neg]
    rintro ⟨k, h1, h2⟩
    simp [dotV] at h1 h2
    omega
  · rw [era_other e]
    unfold lm
    congr 1
    apply propext
    constructor
    · rintro ⟨k, h1, h2⟩; exact ⟨k, by simp [h1]; rintro rfl; exact e h2, h2⟩
    · rintro ⟨k, h1, h2⟩; simp at h1; exact ⟨k, h1.1, h2⟩

/-- In the midst of closeGap: the context stands, and the box that holds it. -/
structure CG (w : World) (B cb lb a : Nat) (c : Nat) (L : Nat → Bool) (wx : World) : Prop where
  ctx : CtxW wx cb lb a c L
  b0 : wx.cell? ⟨B, 0, none⟩ = some (.map (some cb))
  b1 : wx.cell? ⟨B, 1, none⟩ = some (.map (some lb))
  old : cb < w.heap.size ∧ lb < w.heap.size
  new : w.heap.size ≤ B
  lt : B < wx.heap.size
  chg : Chg (fun k => k = cb ∨ k = lb) w wx
theorem CG.below {w : World} {B cb lb a : Nat} {c : Nat} {L : Nat → Bool} {wx wy : World} (h : CG w B cb lb a c L wx) (hb : Below wx.heap.size wx wy) : CG w B cb lb a c L wy :=
  ⟨h.ctx.below hb, (hb.cell (p := ⟨B, 0, none⟩) h.lt).trans h.b0, (hb.cell (p := ⟨B, 1, none⟩) h.lt).trans h.b1, h.old, h.new, Nat.lt_of_lt_of_le h.lt hb.size, h.chg.below hb⟩
theorem CG.grown {w : World} {B cb lb a : Nat} {c c' : Nat} {L L' : Nat → Bool} {wx wy : World} {k : Nat} (h : CG w B cb lb a c L wx) (hg : wx.grownBy wy (some k)) (hk : k = cb ∨ k = lb) (hc : CtxW wy cb lb a c' L') : CG w B cb lb a c' L' wy := by
  have hB : some B ≠ some k := fun e => by cases e; have := h.old; have := h.new; omega
  have hcell : ∀ i, wy.cell? ⟨B, i, none⟩ = wx.cell? ⟨B, i, none⟩ := fun i => World.cell?_of_block (w := wx) (hg.block B h.lt hB)
  exact ⟨hc, (hcell 0).trans h.b0, (hcell 1).trans h.b1, h.old, h.new, Nat.lt_of_lt_of_le h.lt hg.size, h.chg.grown hg (fun j e => by cases e; exact Or.inl hk)⟩
end Go.Proofs.YtmnnojekcloblaaGreatDoor

namespace Go.Proofs.YtmnnojekcloblaaGreatDoor
open Go.RowKit Go.Maps Go.WideMaps

theorem CG.drop {w : World} {B cb lb a : Nat} {c n N : Nat} {L : Nat → Bool} {wx wy : World} (h : CG w B cb lb a c L wx) (hg : wx.grownBy wy (some lb)) (hm : MapV Tryz.prog 117 wy lb N (era (lm a L) (dotV a n))) : CG w B cb lb a c (fun k => L k && k != n) wy := by
  obtain ⟨N', h1⟩ := h.ctx.cs
  refine h.grown hg (Or.inr rfl) ⟨⟨N', h1.kept hg (fun e => h.ctx.ne (by cases e; rfl))⟩, ⟨N, by rw [lm_era] at hm; exact hm⟩, h.ctx.ne, h.ctx.c501, fun k hk => h.ctx.l501 k (by simp at hk; exact hk.1), h.ctx.a5⟩
theorem CG.inc {w : World} {B cb lb a : Nat} {c N : Nat} {L : Nat → Bool} {wx wy : World} (h : CG w B cb lb a c L wx) (hg : wx.grownBy wy (some cb)) (hm : MapV Tryz.prog 3 wy cb N (upd (cm a c) (.int .i64 (a : Int)) (.int .i64 ((c + 1 : Nat) : Int)))) (h1 : c + 1 ≤ 501) (h2 : L (c + 1) = false) : CG w B cb lb a (c + 1) L wy := by
  obtain ⟨N', h3⟩ := h.ctx.ls
  refine h.grown hg (Or.inl rfl) ⟨⟨N, by rw [cm_upd] at hm; exact hm⟩, ⟨N', h3.kept hg (fun e => h.ctx.ne (by cases e; rfl))⟩, h.ctx.ne, h1, fun k hk => ?_, h.ctx.a5⟩
  have := h.ctx.l501 k hk
  refine ⟨?_, this.2⟩
  rcases Nat.lt_or_ge (c + 1) k with h | h
  · exact h
  · have : k = c + 1 := by omega
    subst this; rw [h2] at hk; cases hk
theorem CG.put {w : World} {B cb lb a : Nat} {c n N : Nat} {L : Nat → Bool} {wx wy : World} (h : CG w B cb lb a c L wx) (hg : wx.grownBy wy (some lb)) (hm : MapV Tryz.prog 117 wy lb N (upd (lm a L) (dotV a n) unitV)) (h1 : c < n) (h2 : n ≤ 501) : CG w B cb lb a c (fun k => L k || k == n) wy := by
  obtain ⟨N', h3⟩ := h.ctx.cs
  refine h.grown hg (Or.inr rfl) ⟨⟨N', h3.kept hg (fun e => h.ctx.ne (by cases e; rfl))⟩, ⟨N, by rw [lm_upd] at hm; exact hm⟩, h.ctx.ne, h.ctx.c501, fun k hk => ?_, h.ctx.a5⟩
  simp at hk
  rcases hk with hk | hk
  · exact h.ctx.l501 k hk
  · omega

/-- The same dots. -/
def SameD (c : Nat) (L : Nat → Bool) (c' : Nat) (L' : Nat → Bool) : Prop := ∀ n, (n ≤ c' ∨ L' n = true) ↔ (n ≤ c ∨ L n = true)

set_option maxHeartbeats 4000000 in
set_option maxRecDepth 100000 in
theorem closeGap_any (w : World) (cb lb a c : Nat) (L : Nat → Bool) (h : CtxW w cb lb a c L) :
    Calls Tryz.prog 145 #[.agg #[.map (some cb), .map (some lb)], .int .i64 (a : Int)] w fun e w' => e = .returned (.tuple #[]) ∧ ∃ c' L', CtxW w' cb lb a c' L' ∧ L' (c' + 1) = false ∧ SameD c L c' L' ∧ Chg (fun k => k = cb ∨ k = lb) w w' := by
  have hk := keyInt a (by have := h.a5; omega)
  have HG : Hid (∀ ob, ob = .cells #[.map (some cb), .map (some lb)] 103 → CG w w.heap.size cb lb a c L (w.alloc ob)) := fun ob hob => by
    subst hob
    have hb : Below w.heap.size w (w.alloc (.cells #[.map (some cb), .map (some lb)] 103)) := (Below.refl _ w).alloc (Nat.le_refl _) _
    exact ⟨h.below hb, World.cell?_alloc_at _ _ _ _ rfl, World.cell?_alloc_at _ _ _ _ rfl, h.lt, Nat.le_refl _, by simp, Chg.of_below hb⟩
  clear h
  go_enter Tryz.func145, Tryz.ntmps145
  go_wp2
  go_loopg [6] (501 - c) (fun g v6 wx => ∃ (c' : Nat) (L' : Nat → Bool), g = 501 - c' ∧ CG w w.heap.size cb lb a c' L' wx ∧ SameD c L c' L')
  case atStart => exact ⟨c, L, rfl, HG.out _ rfl, fun n => Iff.rfl⟩
  case round =>
    obtain ⟨c', L', rfl, hC, hS⟩ := hrel
    have HC : Hid (CG w w.heap.size cb lb a c' L' wr) := hC
    have HS : Hid (SameD c L c' L') := hS
    have b0 := hC.b0
    have b1 := hC.b1
    have c501 := hC.ctx.c501
    have a5 := hC.ctx.a5
    have Hn : Hid (_) := next_any wr _ _ a c' L' hC.ctx.toV
    clear hC hS HG
    go_wp2_with fail
    refine Calls.mono Hn.out ?_
    rintro e w1 ⟨rfl, hb1⟩
    have HC1 : Hid (CG w w.heap.size cb lb a c' L' w1) := HC.out.below hb1
    have hb1' : Hid (Below wr.heap.size wr w1) := hb1
    have b0 := HC1.out.b0
    have b1 := HC1.out.b1
    have hlt := HC1.out.lt
    have hw := HC1.out.new
    obtain ⟨kl, hkl⟩ := keyDot a (c' + 1) (by omega) (by omega)
    have hu2 := lm_getD a L' (dotV a (c' + 1 : Nat))
    have hc2 := lm_some a (c' + 1) L'
    have hu := cm_get a c'
    clear Hn hb1 HC
    obtain ⟨Nl, hNl⟩ := HC1.out.ctx.ls
    have hNb : Nl ≤ 502 := loose_bound hNl (fun n hn => (HC1.out.ctx.l501 n hn).2)
    have HL : Hid (∀ wy, Below w1.heap.size w1 wy → MapV Tryz.prog 117 wy lb Nl (lm a L')) := fun wy hb => hNl.block (hb.block _ hNl.lt)
    have HCb : Hid (∀ wy, Below w1.heap.size w1 wy → CG w w.heap.size cb lb a c' L' wy) := fun wy hb => HC1.out.below hb
    clear hNl
    cases hl : L' (c' + 1) with
    | false =>
      rw [hl] at hc2
      go_wp2_with (first | (at_lookup; refine wpList_look_ok rfl (.tmp 12) (.tmp 13) 101 rfl 47 kDot Tryz.underlying101 (zUnit _) rfl (HL.out _ ?_) (dotV a ((c' + 1 : Nat) : Int)) kl rfl hkl _ hu2 _ hc2 ?_; (go_grown)))
      refine bodyPost_ret (results_none rfl _ _ _) rfl ?_
      refine ⟨rfl, c', L', (HCb.out _ ?_).ctx, hl, HS.out, (HCb.out _ ?_).chg⟩ <;> go_grown
    | true =>
      rw [hl] at hc2
      have h501 : c' + 1 ≤ 501 := (HC1.out.ctx.l501 _ hl).2
      go_wp2_with (first | (at_lookup; refine wpList_look_ok rfl (.tmp 12) (.tmp 13) 101 rfl 47 kDot Tryz.underlying101 (zUnit _) rfl (HL.out _ ?_) (dotV a ((c' + 1 : Nat) : Int)) kl rfl hkl _ hu2 _ hc2 ?_; (go_grown)) | (at_delete; refine wpList_drop rfl (.tmp 20) (.tmp 21) 101 rfl 47 kDot Tryz.underlying101 rfl (HL.out _ ?_) (dotV a ((c' + 1 : Nat) : Int)) kl rfl hkl ?_; (go_grown); intro w2 hm2 hg2 hs2; have hC2 : CG w w.heap.size cb lb a c' (fun k => L' k && k != (c' + 1)) w2 := (by refine CG.drop (n := c' + 1) (HCb.out _ ?_) hg2 hm2; go_grown); have b0 := hC2.b0; obtain ⟨Nc, hNc⟩ := hC2.ctx.cs; have hcb : Nc ≤ 1 := counts_bound hNc; have hmx : Nc < maxLen := (by unfold maxLen; omega)) | (at_lookup; refine wpList_look rfl (.tmp 23) (.tmp 24) 100 rfl 3 kInt Tryz.underlying100 (zInt _) rfl hNc (.int .i64 (a : Int)) _ rfl hk _ hu ?_) | (at_mapUpdate; refine wpList_store rfl (.tmp 23) (.tmp 24) (.tmp 26) 100 rfl 3 kInt Tryz.underlying100 rfl hNc hmx (.int .i64 (a : Int)) (.int .i64 ((c' + 1 : Nat) : Int)) _ rfl (by first | rfl | simp) hk ?_; intro w3 hm3 hg3 hs3; have hC3 : CG w w.heap.size cb lb a (c' + 1) (fun k => L' k && k != (c' + 1)) w3 := (CG.inc hC2 hg3 hm3 h501 (by simp)); go_frame))
      all_goals
        go_roundg (501 - (c' + 1))
        case measure => omega
        case rel => exact ⟨c' + 1, _, rfl, hC3, fun n => by
            rw [← HS.out n]
            simp only [Bool.and_eq_true, bne_iff_ne, ne_eq]
            constructor
            · rintro (h | ⟨h, _⟩)
              · by_cases e : n = c' + 1
                · subst e; exact Or.inr hl
                · left; omega
              · exact Or.inr h
            · rintro (h | h)
              · left; omega
              · by_cases e : n = c' + 1
                · left; omega
                · exact Or.inr ⟨h, e⟩⟩
end Go.Proofs.YtmnnojekcloblaaGreatDoor

namespace Go.Proofs.YtmnnojekcloblaaGreatDoor
open Go.RowKit Go.Maps Go.WideMaps

/-- A context (to be written) that knows the dots of S of replica a. -/
def CtxS (w : World) (cb lb a : Nat) (S : Nat → Prop) : Prop := ∃ c L, CtxW w cb lb a c L ∧ L (c + 1) = false ∧ ∀ n, 1 ≤ n → (S n ↔ n ≤ c ∨ L n = true)
/-- .. (to be read). -/
def CtxR (w : World) (cv lv : Value) (a : Nat) (S : Nat → Prop) : Prop := ∃ c L, CtxV w cv lv a c L ∧ L (c + 1) = false ∧ ∀ n, 1 ≤ n → (S n ↔ n ≤ c ∨ L n = true)
theorem CtxS.toR {w : World} {cb lb a : Nat} {S : Nat → Prop} (h : CtxS w cb lb a S) : CtxR w (.map (some cb)) (.map (some lb)) a S := by
  obtain ⟨c, L, h1, h2, h3⟩ := h; exact ⟨c, L, h1.toV, h2, h3⟩
theorem CtxS.chg {M : Nat → Prop} {w w' : World} {cb lb a : Nat} {S : Nat → Prop} (h : CtxS w cb lb a S) (hc : Chg M w w') (h1 : ¬ M cb) (h2 : ¬ M lb) : CtxS w' cb lb a S := by
  obtain ⟨c, L, g1, g2, g3⟩ := h; exact ⟨c, L, g1.chg hc h1 h2, g2, g3⟩
theorem CtxS.below {w w' : World} {cb lb a : Nat} {S : Nat → Prop} (h : CtxS w cb lb a S) (hb : Below w.heap.size w w') : CtxS w' cb lb a S := by
  obtain ⟨c, L, g1, g2, g3⟩ := h; exact ⟨c, L, g1.below hb, g2, g3⟩
theorem CtxR.below {w w' : World} {cv lv : Value} {a : Nat} {S : Nat → Prop} (h : CtxR w cv lv a S) (hb : Below w.heap.size w w') : CtxR w' cv lv a S := by
  obtain ⟨c, L, g1, g2, g3⟩ := h; exact ⟨c, L, g1.below hb, g2, g3⟩
theorem CtxS.lt {w : World} {cb lb a : Nat} {S : Nat → Prop} (h : CtxS w cb lb a S) : cb < w.heap.size ∧ lb < w.heap.size := by obtain ⟨c, L, g1, g2, g3⟩ := h; exact g1.lt
theorem CtxS.ne {w : World} {cb lb a : Nat} {S : Nat → Prop} (h : CtxS w cb lb a S) : cb ≠ lb := by obtain ⟨c, L, g1, g2, g3⟩ := h; exact g1.ne
theorem CtxS.iff {w : World} {cb lb a : Nat} {S S' : Nat → Prop} (h : CtxS w cb lb a S) (hS : ∀ n, 1 ≤ n → (S' n ↔ S n)) : CtxS w cb lb a S' := by
  obtain ⟨c, L, g1, g2, g3⟩ := h; exact ⟨c, L, g1, g2, fun n hn => (hS n hn).trans (g3 n hn)⟩

set_option maxHeartbeats 4000000 in
set_option maxRecDepth 100000 in
theorem add_any (w : World) (cb lb a n : Nat) (S : Nat → Prop) (h : CtxS w cb lb a S) (h1 : 1 ≤ n) (hn : n ≤ 501) :
    Calls Tryz.prog 100 #[.agg #[.map (some cb), .map (some lb)], dotV a n] w fun e w' => e = .returned (.tuple #[]) ∧ CtxS w' cb lb a (fun k => S k ∨ k = n) ∧ Chg (fun k => k = cb ∨ k = lb) w w' := by
  obtain ⟨c, L, h, hcan, hS⟩ := h
  have HS : Hid (∀ n, 1 ≤ n → (S n ↔ n ≤ c ∨ L n = true)) := hS
  have a5 := h.a5
  have HG : Hid (∀ ob, ob = .cells #[.map (some cb), .map (some lb)] 103 → ∀ ob', CG w w.heap.size cb lb a c L ((w.alloc ob).alloc ob')) := fun ob hob ob' => by
    subst hob
    have hb : Below w.heap.size w (w.alloc (.cells #[.map (some cb), .map (some lb)] 103)) := (Below.refl _ w).alloc (Nat.le_refl _) _
    refine CG.below (wx := w.alloc (.cells #[.map (some cb), .map (some lb)] 103)) ?_ ((Below.refl _ _).alloc (Nat.le_refl _) _)
    exact ⟨h.below hb, World.cell?_alloc_at _ _ _ _ rfl, World.cell?_alloc_at _ _ _ _ rfl, h.lt, Nat.le_refl _, by simp, Chg.of_below hb⟩
  have HD : Hid (∀ ob, ob = .cells #[.int .i64 (a : Int), .int .i64 (n : Int)] 117 → ∀ ob', ((w.alloc ob').alloc ob).cell? ⟨w.heap.size + 1, 0, none⟩ = some (.int .i64 (a : Int)) ∧ ((w.alloc ob').alloc ob).cell? ⟨w.heap.size + 1, 1, none⟩ = some (.int .i64 (n : Int))) := fun ob hob ob' => by
    subst hob
    have e : (w.alloc ob').heap.size = w.heap.size + 1 := by simp
    exact ⟨by rw [← e]; exact World.cell?_alloc_at _ _ _ _ rfl, by rw [← e]; exact World.cell?_alloc_at _ _ _ _ rfl⟩
  clear h hS
  go_enter Tryz.func100, Tryz.ntmps100
  go_wp2_with fail
  have hC := HG.out _ rfl (.cells #[.int .i64 (a : Int), .int .i64 (n : Int)] 117)
  have hD := HD.out _ rfl (.cells #[.map (some cb), .map (some lb)] 103)
  clear HG HD
  generalize hw2 : (w.alloc (.cells #[.map (some cb), .map (some lb)] 103)).alloc (.cells #[.int .i64 (a : Int), .int .i64 (n : Int)] 117) = w2 at *
  have hs2 : w2.heap.size = w.heap.size + 2 := by rw [← hw2]; simp
  clear hw2
  refine Calls.mono (has_any w2 _ _ a c n L hC.ctx.toV (by omega)) ?_
  rintro e w3 ⟨rfl, hb3⟩
  have hC3 := hC.below hb3
  have d0 : w3.cell? ⟨w.heap.size + 1, 0, none⟩ = some (.int .i64 (a : Int)) := (hb3.cell (p := ⟨w.heap.size + 1, 0, none⟩) (by show w.heap.size + 1 < _; omega)).trans hD.1
  have d1 : w3.cell? ⟨w.heap.size + 1, 1, none⟩ = some (.int .i64 (n : Int)) := (hb3.cell (p := ⟨w.heap.size + 1, 1, none⟩) (by show w.heap.size + 1 < _; omega)).trans hD.2
  have hs3 : w.heap.size + 1 < w3.heap.size := by have := hb3.size; omega
  have b0 := hC3.b0
  have b1 := hC3.b1
  have HC3 : Hid (CG w w.heap.size cb lb a c L w3) := hC3
  clear hC hD hb3 hs2
  cases hh : (decide (n ≤ c) || L n) with
  | true =>
    have hin : n ≤ c ∨ L n = true := by simpa using hh
    clear hC3
    go_wp2
    refine bodyPost_ret (results_none rfl _ _ _) rfl ?_
    exact ⟨rfl, ⟨c, L, HC3.out.ctx, hcan, fun k hk => by
      show (S k ∨ k = n) ↔ _
      rw [HS.out k hk]
      constructor
      · rintro (h | rfl)
        · exact h
        · exact hin
      · exact Or.inl⟩, HC3.out.chg⟩
  | false =>
    have hnin : c < n ∧ L n = false := by simp at hh; omega
    obtain ⟨kl, hkl⟩ := keyDot a n (by omega) (by omega)
    obtain ⟨Nl, hNl⟩ := hC3.ctx.ls
    have hNb : Nl ≤ 502 := loose_bound hNl (fun n hn => (hC3.ctx.l501 n hn).2)
    have hmx : Nl < maxLen := by unfold maxLen; omega
    have hlo := hC3.old
    have HL : Hid (MapV Tryz.prog 117 w3 lb Nl (lm a L)) := hNl
    clear hC3 hNl
    go_wp2_with (first | (at_mapUpdate; refine wpList_store rfl (.tmp 8) (.tmp 9) (.tmp 10) 101 rfl 47 kDot Tryz.underlying101 rfl HL.out hmx (dotV a n) unitV _ rfl rfl hkl ?_; intro w4 hm4 hg4 hs4; have hC4 : CG w w.heap.size cb lb a c (fun k => L k || k == n) w4 := (CG.put HC3.out hg4 hm4 hnin.1 hn); have b0 := hC4.b0; have b1 := hC4.b1; have d0 : w4.cell? ⟨w.heap.size + 1, 0, none⟩ = some (.int .i64 (a : Int)) := (World.cell?_of_block (w := w3) (hg4.block (w.heap.size + 1) hs3 (fun e => by cases e; omega))).trans d0))
    refine Calls.mono (closeGap_any w4 cb lb a c _ hC4.ctx) ?_
    rintro e w5 ⟨rfl, c', L', h5, hcan5, hsame, hch5⟩
    have HF : Hid (CtxS w5 cb lb a (fun k => S k ∨ k = n)) := ⟨c', L', h5, hcan5, fun k hk => by
      show (S k ∨ k = n) ↔ _
      rw [hsame k, HS.out k hk]
      simp only [Bool.or_eq_true, beq_iff_eq]
      exact ⟨fun h => h.elim (fun h => h.elim Or.inl (fun h => Or.inr (Or.inl h))) (fun h => Or.inr (Or.inr h)), fun h => h.elim (fun h => Or.inl (Or.inl h)) (fun h => h.elim (fun h => Or.inl (Or.inr h)) Or.inr)⟩⟩
    have HCh : Hid (Chg (fun k => k = cb ∨ k = lb) w w5) := hC4.chg.trans hch5
    clear h5 hsame hch5 hC4 b0 b1 d0
    go_wp2
    go_end0
    exact ⟨rfl, HF.out, HCh.out⟩
end Go.Proofs.YtmnnojekcloblaaGreatDoor

