import Derived.Deep.OwnRows
import Derived.WalkKit
import Derived.Maps.AppendAt
import Derived.Deep.LoopGhost
import Derived.Deep.RegionHeld3
import Derived.Lib.AppendStr
import Derived.Test.YtoiiaankpnhppaaGreatDoorPart10
set_option linter.unusedVariables false
set_option linter.unusedSimpArgs false
namespace Go.Proofs.YtoiiaankpnhppaaGreatDoor
open Go.RowKit Go.Maps Go.WideMaps

theorem bl_alloc {w w' : World} (h : Below w.heap.size w w') (o : Obj) : Below w.heap.size w (w'.alloc o) := h.alloc h.size o
theorem bl_set {w w' : World} (h : Below w.heap.size w w') {b i : Nat} (hb : w.heap.size ≤ b) (u : Value) : Below w.heap.size w (w'.setCell ⟨b, i, none⟩ u) := h.setCell (p := ⟨b, i, none⟩) hb u

theorem zfacts {w1 w3 : World} {x y : Value} {t : TypeId} (h : Below (w1.alloc (.cells #[x, y] t)).drew.heap.size (w1.alloc (.cells #[x, y] t)).drew w3) : w3.cell? ⟨w1.heap.size, 0, none⟩ = some x ∧ w3.cell? ⟨w1.heap.size, 1, none⟩ = some y ∧ ∀ i, w3.frozen? ⟨w1.heap.size, i, none⟩ = false := by
  have k : Blk w3 w1.heap.size #[x, y] t := (h.block _ (by show _ < (w1.alloc _).heap.size; simp)).trans (Blk.new w1 _ _)
  exact ⟨(k.cell 0).trans rfl, (k.cell 1).trans rfl, k.frozen⟩
theorem kcfact1 {w1 w3 : World} {b : Nat} {cs : Array Value} {t : TypeId} (h : Below w1.drew.heap.size w1.drew w3) (k : Blk w1 b cs t) : Blk w3 b cs t := (h.block b k.lt).trans k
theorem kcfact2 {w1 w3 : World} {o : Obj} {b : Nat} {cs : Array Value} {t : TypeId} (h : Below (w1.alloc o).drew.heap.size (w1.alloc o).drew w3) (k : Blk w1 b cs t) : Blk w3 b cs t := (h.block b (by have := k.lt; show b < (w1.alloc o).heap.size; simp; omega)).trans (k.alloc o)
theorem zblk {w1 w3 : World} {x y : Value} {t : TypeId} (h : Below (w1.alloc (.cells #[x, y] t)).drew.heap.size (w1.alloc (.cells #[x, y] t)).drew w3) : Blk w3 w1.heap.size #[x, y] t := (h.block _ (by show _ < (w1.alloc _).heap.size; simp)).trans (Blk.new w1 _ _)
theorem blk_set2 {w : World} {b : Nat} {x y u v : Value} {t : TypeId} (h : Blk w b #[x, y] t) : Blk ((w.setCell ⟨b, 0, none⟩ u).setCell ⟨b, 1, none⟩ v) b #[u, v] t := by
  unfold Blk at *
  simp [World.setCell, Array.getElem?_modify, h]
theorem blk_oth {w : World} {b b' i : Nat} {u : Value} {cs : Array Value} {t : TypeId} (h : Blk w b cs t) (hne : b ≠ b') : Blk (w.setCell ⟨b', i, none⟩ u) b cs t := (Below.heap_setCell w ⟨b', i, none⟩ u b hne).trans h
theorem bl_drew {w w' : World} (h : Below w.heap.size w w') : Below w.heap.size w w'.drew := h.drew

theorem accept_join {w wz : World} {rb a d : Nat} {K : Nat → Nat} {io co lo : Option Nat} {C : Nat → Option Thk.Ch} {c : Thk.Ch} {ns : List Nat} {gi gc gl xi xc xl B : Nat} (HR : ∀ wx, Below w.heap.size w wx → RepP wx rb a io co lo K C) (hC : ∀ k, C k ≠ none → 1 ≤ nth k ∧ nth k ≤ K (who k)) (hd : nth d = K (who d) + 1) (hwd : who d = a) (hCp : ∀ k e, C k = some e → e.path.length ≤ 1048576)
    (hns : ∀ k, k ∈ ns ↔ ∃ e, C k = some e ∧ covC c.path c.act (toL (keptVal c.act ⟨c.val.toArray⟩)) e = true) (hb : Below w.heap.size w wz) (hg : StoreS wz gi gc gl (fun k => k ∈ ns) (fun _ => none)) (hx : StoreS wz xi xc xl (fun k => k = d) (fun k => if k = d ∧ effB c.act = true then some (chV c) else none))
    (hB : w.heap.size ≤ B) (hgn : w.heap.size ≤ gi ∧ w.heap.size ≤ gc ∧ w.heap.size ≤ gl) (hxn : B ≤ xi ∧ B ≤ xc ∧ B ≤ xl) (hn : K a + 1 ≤ 500) (a5 : a ≤ 5) (hcp : c.path.length ≤ 1048576) :
    Calls Tryz.prog 74 #[.slice (some ⟨wz.heap.size, 0, none⟩) 3 3] (wz.alloc (.cells #[.map io, .map co, .map lo, .map (some gi), .map (some gc), .map (some gl), .map (some xi), .map (some xc), .map (some xl)] 106)).drew
      fun e w9 => ∃ ib cb lb, e = .returned (.agg #[.map (some ib), .map (some cb), .map (some lb)]) ∧ w9.cell? ⟨rb, 1, none⟩ = some (.map io) ∧ w9.cell? ⟨rb, 2, none⟩ = some (.map co) ∧ w9.cell? ⟨rb, 3, none⟩ = some (.map lo) ∧ (∀ i, w9.frozen? ⟨rb, i, none⟩ = false) ∧
        RepP (((w9.setCell ⟨rb, 1, none⟩ (.map (some ib))).setCell ⟨rb, 2, none⟩ (.map (some cb))).setCell ⟨rb, 3, none⟩ (.map (some lb))) rb a (some ib) (some cb) (some lb) (inc K a) (stepC C c d) ∧ (w.heap.size ≤ ib ∧ w.heap.size ≤ cb ∧ w.heap.size ≤ lb) ∧ Chg (fun k => k = rb) w (((w9.setCell ⟨rb, 1, none⟩ (.map (some ib))).setCell ⟨rb, 2, none⟩ (.map (some cb))).setCell ⟨rb, 3, none⟩ (.map (some lb))) := by
  have hbz : Below wz.heap.size wz (wz.alloc (.cells #[.map io, .map co, .map lo, .map (some gi), .map (some gc), .map (some gl), .map (some xi), .map (some xc), .map (some xl)] 106)).drew := ((Below.refl _ wz).alloc (Nat.le_refl _) _).drew
  have kS : Blk (wz.alloc (.cells #[.map io, .map co, .map lo, .map (some gi), .map (some gc), .map (some gl), .map (some xi), .map (some xc), .map (some xl)] 106)).drew wz.heap.size #[.map io, .map co, .map lo, .map (some gi), .map (some gc), .map (some gl), .map (some xi), .map (some xc), .map (some xl)] 106 := Blk.new wz _ _
  have hbw : Below w.heap.size w (wz.alloc (.cells #[.map io, .map co, .map lo, .map (some gi), .map (some gc), .map (some gl), .map (some xi), .map (some xc), .map (some xl)] 106)).drew := hb.trans (hbz.mono hb.size)
  generalize (wz.alloc (.cells #[.map io, .map co, .map lo, .map (some gi), .map (some gc), .map (some gl), .map (some xi), .map (some xc), .map (some xl)] 106)).drew = wy at *
  obtain ⟨s1, hs1⟩ : ∃ s : StD, s = ⟨io, co, lo, fun k => nth k ≤ K (who k), itOf C⟩ := ⟨_, rfl⟩
  obtain ⟨s2, hs2⟩ : ∃ s : StD, s = ⟨some gi, some gc, some gl, fun k => k ∈ ns, fun _ => none⟩ := ⟨_, rfl⟩
  obtain ⟨s3, hs3⟩ : ∃ s : StD, s = ⟨some xi, some xc, some xl, fun k => k = d, fun k => if k = d ∧ effB c.act = true then some (chV c) else none⟩ := ⟨_, rfl⟩
  have hR := HR _ hbw
  have hSl : SliceS wy wz.heap.size 0 [s1, s2, s3] := by
    refine ⟨kS.lt, ?_, ?_, ?_, ?_⟩
    · intro j hj
      match j, hj with
      | 0, _ => rw [kS.cell]; simp [hs1]
      | 1, _ => rw [kS.cell]; simp [hs2]
      | 2, _ => rw [kS.cell]; simp [hs3]
    · intro j hj
      match j, hj with
      | 0, _ => rw [kS.cell]; simp [hs1]
      | 1, _ => rw [kS.cell]; simp [hs2]
      | 2, _ => rw [kS.cell]; simp [hs3]
    · intro j hj
      match j, hj with
      | 0, _ => rw [kS.cell]; simp [hs1]
      | 1, _ => rw [kS.cell]; simp [hs2]
      | 2, _ => rw [kS.cell]; simp [hs3]
    · intro s hs
      simp only [List.mem_cons, List.mem_nil_iff, or_false] at hs
      rcases hs with rfl | rfl | rfl
      · rw [hs1]; exact ⟨hR.st, fun k v h => itOf_item h⟩
      · rw [hs2]; exact ⟨(hg.below hbz).toR, fun k v h => by cases h⟩
      · rw [hs3]; exact ⟨(hx.below hbz).toR, fun k v h => by simp only at h; split at h; (cases h; exact ⟨_, _, _, _, rfl⟩); cases h⟩
  refine Calls.mono (Join_any wy wz.heap.size 0 3 [s1, s2, s3] hSl (by simp) (by simp)) ?_
  rintro e w9 ⟨ib, cb, lb, It, rfl, hst, p1, p2, hnew, hb9⟩
  have hmath := accept_math hC hd hns (s1 := s1) (s2 := s2) (s3 := s3) (by rw [hs1]) (by rw [hs1]) (by rw [hs2]) (by rw [hs2]) (by rw [hs3]) (by rw [hs3]) p1 p2
  have hR9 := hR.below hb9
  have hy := hbw.size
  have hrb : rb < w.heap.size := by
    have := (HR w (Below.refl _ w)).blk.lt; exact this
  refine ⟨ib, cb, lb, rfl, (hR9.blk.cell 1).trans rfl, (hR9.blk.cell 2).trans rfl, (hR9.blk.cell 3).trans rfl, hR9.blk.frozen, ?_, by omega, ?_⟩
  · have hch : Chg (fun k => k = rb) w9 (((w9.setCell ⟨rb, 1, none⟩ (.map (some ib))).setCell ⟨rb, 2, none⟩ (.map (some cb))).setCell ⟨rb, 3, none⟩ (.map (some lb))) := (((Chg.refl (fun k => k = rb) w9).setCell (p := ⟨rb, 1, none⟩) rfl _).setCell (p := ⟨rb, 2, none⟩) rfl _).setCell (p := ⟨rb, 3, none⟩) rfl _
    have hst2 := hst.chg hch (by omega) (by omega) (by omega)
    refine ⟨?_, ?_, ?_, fun x => ?_, a5⟩
    · have := hR9.blk
      unfold Blk at this ⊢
      simp [World.setCell, Array.getElem?_modify, this]
    · rw [← hmath.1]
      have h3 : StoreS _ ib cb lb (fun k => nth k ≤ inc K a (who k)) It := ⟨hst2.ctx.iff (fun k hk => by have := (hmath.2 k hk).symm; rw [hwd] at this; exact this), hst2.its, hst2.ne, fun k hk => by have := hst2.ok k hk; exact ⟨this.1, by have h9 := (hmath.2 k this.1.2.1).1 this.2; rw [hwd] at h9; exact h9⟩⟩
      exact h3.toR
    · intro k e he
      unfold stepC at he
      split at he
      · split at he
        · cases he; exact hcp
        · cases he
      · cases hk : C k with
        | none => rw [hk] at he; cases he
        | some e' =>
          rw [hk] at he
          simp only at he
          split at he
          · cases he
          · cases he; exact hCp k _ hk
    · by_cases e : x = a
      · subst e; rw [inc_same]; exact hn
      · rw [inc_oth e]; exact hR.k500 x
  · have h1 : Chg (fun k => k = rb) w w9 := Chg.of_below (hbw.trans (hb9.mono hbw.size))
    exact ((h1.setCell (p := ⟨rb, 1, none⟩) rfl _).setCell (p := ⟨rb, 2, none⟩) rfl _).setCell (p := ⟨rb, 3, none⟩) rfl _

set_option maxHeartbeats 8000000 in
set_option maxRecDepth 100000 in
theorem Accept_any (w : World) (rb a : Nat) (io co lo : Option Nat) (K : Nat → Nat) (C : Nat → Option Thk.Ch) (hR : RepP w rb a io co lo K C) (c : Thk.Ch) (hnK : K a + 1 ≤ 500) (hcp : c.path.length ≤ 1048576) (m : Int) (hm : w.cell? ⟨0, 0, none⟩ = some (.int .i64 m)) :
    Calls Tryz.prog 40 #[.pointer (some ⟨rb, 0, none⟩), chV c] w fun e w' => e = .returned (.tuple #[]) ∧ ∃ io' co' lo', RepP w' rb a (some io') (some co') (some lo') (inc K a) (stepC C c (mkD a (K a + 1))) ∧ (w.heap.size ≤ io' ∧ w.heap.size ≤ co' ∧ w.heap.size ≤ lo') ∧ Chg (fun k => k = rb) w w' := by
  have h0l : 0 < w.heap.size := block_lt_of_cell hm
  have hrl := hR.blk.lt
  have HR : Hid (∀ wx, Below w.heap.size w wx → RepP wx rb a io co lo K C) := fun wx hb => hR.below hb
  have HCk : Hid (∀ k, C k ≠ none → 1 ≤ nth k ∧ nth k ≤ K (who k)) := fun k hk => by have := hR.st.ok k (itOf_none.2 hk); exact ⟨this.1.2.1, this.2⟩
  have HCok : Hid (∀ k, C k ≠ none → okD k) := fun k hk => (hR.st.ok k (itOf_none.2 hk)).1
  obtain ⟨n, hKn⟩ : ∃ n, K a = n := ⟨_, rfl⟩
  have HKn : Hid (K a = n) := hKn
  rw [hKn]
  have hn : n + 1 ≤ 500 := by omega
  clear hKn
  have HE : Hid (dotV (a : Int) ((n + 1 : Nat) : Int) = dotE (mkD a (n + 1))) := dotV_mk (by omega)
  have hwm : who (mkD a (n + 1)) = a := who_mk (by omega)
  have hnm : nth (mkD a (n + 1)) = n + 1 := nth_mk (by omega)
  have Hok1 : Hid (okD (mkD a (n + 1))) := ⟨by rw [hwm]; exact hR.a5, by rw [hnm]; omega, by rw [hnm]; omega⟩
  have HCp : Hid (∀ k e, C k = some e → e.path.length ≤ 1048576) := hR.ok
  have a5 := hR.a5
  have hmB : Hid (∀ wx, Below w.heap.size w wx → wx.cell? ⟨0, 0, none⟩ = some (.int .i64 m)) := fun wx hx => (hx.cell (p := ⟨0, 0, none⟩) h0l).trans hm
  have HX : Hid (∀ wx, Below w.heap.size w wx → Calls Tryz.prog 69 #[.agg #[.map io, .map co, .map lo], .int .i64 (a : Int)] wx fun e w' => e = .returned (.agg #[.int .i64 (a : Int), .int .i64 ((n + 1 : Nat) : Int)]) ∧ Below w.heap.size w w' ∧ Below wx.heap.size wx w') := fun wx hb => by
    refine Calls.mono (Next_any wx io co lo a K (HR.out wx hb).ctx a5) ?_
    rintro e w' ⟨he, hb2⟩
    rw [HKn.out] at he
    exact ⟨he, hb.trans (hb2.mono hb.size), hb2⟩
  have Hcell : Hid (∀ wx, Below w.heap.size w wx → wx.cell? ⟨rb, 0, none⟩ = some (.int .i64 (a : Int)) ∧ wx.cell? ⟨rb, 1, none⟩ = some (.map io) ∧ wx.cell? ⟨rb, 2, none⟩ = some (.map co) ∧ wx.cell? ⟨rb, 3, none⟩ = some (.map lo)) := fun wx hb => ⟨((HR.out wx hb).blk.cell 0).trans rfl, ((HR.out wx hb).blk.cell 1).trans rfl, ((HR.out wx hb).blk.cell 2).trans rfl, ((HR.out wx hb).blk.cell 3).trans rfl⟩
  clear hR hm
  unfold chV
  go_enter Tryz.func40, Tryz.ntmps40
  go_wp2_with fail
  have hb1 : Below w.heap.size w (w.alloc (.cells #[.string ⟨c.path.toArray⟩, .int .u8 (c.act.toNat : Int), .string (keptVal c.act ⟨c.val.toArray⟩), .int .i64 c.n] 81)) := (Below.refl _ w).alloc (Nat.le_refl _) _
  have kc : Blk (w.alloc (.cells #[.string ⟨c.path.toArray⟩, .int .u8 (c.act.toNat : Int), .string (keptVal c.act ⟨c.val.toArray⟩), .int .i64 c.n] 81)) w.heap.size #[.string ⟨c.path.toArray⟩, .int .u8 (c.act.toNat : Int), .string (keptVal c.act ⟨c.val.toArray⟩), .int .i64 c.n] 81 := Blk.new w _ _
  generalize w.alloc (.cells #[.string ⟨c.path.toArray⟩, .int .u8 (c.act.toNat : Int), .string (keptVal c.act ⟨c.val.toArray⟩), .int .i64 c.n] 81) = w1 at *
  have q0 := (Hcell.out _ hb1).1
  have q1 := (Hcell.out _ hb1).2.1
  have q2 := (Hcell.out _ hb1).2.2.1
  have q3 := (Hcell.out _ hb1).2.2.2
  have hb0 : Below w.heap.size w w1.drew := hb1.drew
  have HKC : Hid (Blk w1 w.heap.size #[.string ⟨c.path.toArray⟩, .int .u8 (c.act.toNat : Int), .string (keptVal c.act ⟨c.val.toArray⟩), .int .i64 c.n] 81) := kc
  clear kc
  have HB1 : Hid (Below w.heap.size w w1) := hb1
  have qA0 : ∀ o, (w1.alloc o).cell? ⟨rb, 0, none⟩ = some (.int .i64 (a : Int)) := fun o => (Hcell.out _ (bl_alloc hb1 o)).1
  have qA1 : ∀ o, (w1.alloc o).cell? ⟨rb, 1, none⟩ = some (.map io) := fun o => (Hcell.out _ (bl_alloc hb1 o)).2.1
  have qA2 : ∀ o, (w1.alloc o).cell? ⟨rb, 2, none⟩ = some (.map co) := fun o => (Hcell.out _ (bl_alloc hb1 o)).2.2.1
  have qA3 : ∀ o, (w1.alloc o).cell? ⟨rb, 3, none⟩ = some (.map lo) := fun o => (Hcell.out _ (bl_alloc hb1 o)).2.2.2
  have hw1 : w.heap.size + 1 ≤ w1.heap.size := HKC.out.lt
  go_cut [4] from 7 to 15 (fun v4 wx => ∃ B4, v4 = .pointer (some ⟨B4, 0, none⟩) ∧ Blk wx B4 #[.int .i64 (a : Int), .int .i64 ((n + 1 : Nat) : Int)] 121 ∧ w.heap.size < B4 ∧ Below w.heap.size w wx ∧ Blk wx w.heap.size #[.string ⟨c.path.toArray⟩, .int .u8 (c.act.toNat : Int), .string (keptVal c.act ⟨c.val.toArray⟩), .int .i64 c.n] 81)
  case first =>
    go_region_with (first | (go_at_call 69; refine Calls.mono (HX.out _ (by (repeat' (first | assumption | (exact Below.size (by assumption)) | apply bl_drew | apply bl_alloc | apply bl_set)))) ?_; rintro e w3 ⟨rfl, hb3, hb13⟩; (first | (have hz := zfacts hb13; have z0 := hz.1; have z1 := hz.2.1; have zf := hz.2.2) | skip)))
    all_goals
      go_wp2_with fail
      go_meet
      first
        | exact ⟨_, rfl, Blk.new w3 _ _, (by have := hb13.size; have e : w1.drew.heap.size = w1.heap.size := rfl; omega), bl_alloc hb3 _, (kcfact1 hb13 HKC.out).alloc _⟩
        | exact ⟨_, rfl, blk_set2 (zblk hb13), (by omega), bl_set (bl_set hb3 (by omega) _) (by omega) _, blk_oth (blk_oth (kcfact2 hb13 HKC.out) (by omega)) (by omega)⟩
  case rest =>
  obtain ⟨B4, rfl, k4, hB4, hb3, kc3⟩ := hcut
  clear q0 q1 q2 q3 qA0 qA1 qA2 qA3 hb0 hb1 HKC HX HB1 hw1
  have g0 := (kc3.cell 0).trans rfl
  have g1 := (kc3.cell 1).trans rfl
  have g2 := (kc3.cell 2).trans rfl
  have g3 := (kc3.cell 3).trans rfl
  have HK4 : Hid (Blk wc B4 #[.int .i64 (a : Int), .int .i64 ((n + 1 : Nat) : Int)] 121 ∧ Blk wc w.heap.size #[.string ⟨c.path.toArray⟩, .int .u8 (c.act.toNat : Int), .string (keptVal c.act ⟨c.val.toArray⟩), .int .i64 c.n] 81 ∧ Below w.heap.size w wc) := ⟨k4, kc3, hb3⟩
  clear k4 kc3 hb3
  go_wp2_with fail
  refine Calls.mono (covered_any wc rb a io co lo K C (HR.out _ HK4.out.2.2) ⟨c.path.toArray⟩ (keptVal c.act ⟨c.val.toArray⟩) c.act c.n (by show c.path.toArray.size ≤ _; simpa using hcp) m (hmB.out _ HK4.out.2.2)) ?_
  rintro e w4 ⟨v, ns, rfl, hsl, hnl, hns, hb4⟩
  have hsh : ∃ ao cap, v = .slice ao ns.length cap := by
    rcases hsl with ⟨rfl, rfl⟩ | ⟨b, off, cap, rfl, _⟩
    · exact ⟨none, 0, rfl⟩
    · exact ⟨_, cap, rfl⟩
  obtain ⟨ao, cap, rfl⟩ := hsh
  have HK5 : Hid (Blk w4 B4 #[.int .i64 (a : Int), .int .i64 ((n + 1 : Nat) : Int)] 121 ∧ Blk w4 w.heap.size #[.string ⟨c.path.toArray⟩, .int .u8 (c.act.toNat : Int), .string (keptVal c.act ⟨c.val.toArray⟩), .int .i64 c.n] 81 ∧ Below w.heap.size w w4) := ⟨HK4.out.1.below hb4, HK4.out.2.1.below hb4, HK4.out.2.2.trans (hb4.mono HK4.out.2.2.size)⟩
  have Hns : Hid (∀ k, k ∈ ns ↔ ∃ e, C k = some e ∧ covC c.path c.act (toL (keptVal c.act ⟨c.val.toArray⟩)) e = true) := fun k => by have := hns k; simpa [toL] using this
  have hns501 : ∀ k ∈ ns, okD k := fun k hk => by
    obtain ⟨e, he, _⟩ := (Hns.out k).1 hk
    exact HCok.out k (by rw [he]; simp)
  have Hgone : Hid (_) := Gone_any w4 _ ns hsl (by omega) hns501
  clear HK4 hns hsl hb4 g0 g1 g2 g3
  go_wp2_with fail
  refine Calls.mono Hgone.out ?_
  rintro e w5 ⟨gi, gc, gl, rfl, hg5, hgn, hb5⟩
  have hs4 := HK5.out.2.2.size
  have hbw5 : Below w.heap.size w w5 := HK5.out.2.2.trans (hb5.mono hs4)
  have k45 := HK5.out.1.below hb5
  have HK6 : Hid (Blk w5 B4 #[.int .i64 (a : Int), .int .i64 ((n + 1 : Nat) : Int)] 121 ∧ Blk w5 w.heap.size #[.string ⟨c.path.toArray⟩, .int .u8 (c.act.toNat : Int), .string (keptVal c.act ⟨c.val.toArray⟩), .int .i64 c.n] 81 ∧ Below w.heap.size w w5 ∧ StoreS w5 gi gc gl (fun k => k ∈ ns) (fun _ => none)) := ⟨k45, HK5.out.2.1.below hb5, hbw5, hg5⟩
  have hgn' : w.heap.size ≤ gi ∧ w.heap.size ≤ gc ∧ w.heap.size ≤ gl := by omega
  have d0A : ∀ o, (w5.alloc o).cell? ⟨B4, 0, none⟩ = some (.int .i64 (a : Int)) := fun o => ((k45.alloc o).cell 0).trans rfl
  have d1A : ∀ o, (w5.alloc o).cell? ⟨B4, 1, none⟩ = some (.int .i64 ((n + 1 : Nat) : Int)) := fun o => ((k45.alloc o).cell 1).trans rfl
  have Hgone2 : Hid (∀ ob, Calls Tryz.prog 70 #[.slice (some ⟨w5.heap.size + 1, 0, none⟩) 1 1] ((w5.alloc ob).alloc (.cells #[.int .i64 (a : Int), .int .i64 ((n + 1 : Nat) : Int)] 121)) fun e w' => ∃ ib cb lb, e = .returned (.agg #[.map (some ib), .map (some cb), .map (some lb)]) ∧ StoreS w' ib cb lb (fun k => k ∈ [mkD a (n + 1)]) (fun _ => none) ∧ (w5.heap.size ≤ ib ∧ w5.heap.size ≤ cb ∧ w5.heap.size ≤ lb) ∧ Below (w5.heap.size + 2) ((w5.alloc ob).alloc (.cells #[.int .i64 (a : Int), .int .i64 ((n + 1 : Nat) : Int)] 121)) w') := fun ob => by
    have hk := Blk.new (w5.alloc ob) #[.int .i64 (a : Int), .int .i64 ((n + 1 : Nat) : Int)] 121
    rw [World.size_alloc] at hk
    refine Calls.mono (Gone_any _ _ [mkD a (n + 1)] (Or.inr ⟨w5.heap.size + 1, 0, 1, rfl, by simp, hk.lt, fun j hj => ?_⟩) (by simp) (fun k hk => by simp at hk; subst hk; exact Hok1.out)) ?_
    · simp at hj
      subst hj
      exact ⟨by rw [hk.cell]; simp [hwm], by rw [hk.cell]; simp [hnm]⟩
    · rintro e w' ⟨ib, cb, lb, rfl, h1, h2, h3⟩
      simp only [World.size_alloc] at h2 h3
      exact ⟨ib, cb, lb, rfl, h1, by omega, h3⟩
  clear HK5 hg5 k45 Hgone hb5 hgn hbw5
  go_wp2_with fail
  refine Calls.mono (Hgone2.out _) ?_
  rintro e w6 ⟨mi, mc, ml, rfl, hm6, hmn, hb6⟩
  have hs5 : w.heap.size ≤ w5.heap.size := HK6.out.2.2.1.size
  have hs6 := hb6.size
  simp only [World.size_alloc] at hs6
  have hB4l : B4 < w5.heap.size := HK6.out.1.lt
  have hcw5 : w.heap.size < w5.heap.size := HK6.out.2.1.lt
  have hb56 : Below w5.heap.size w5 w6 := (((Below.refl _ w5).alloc (Nat.le_refl _) _).alloc (by simp) _).trans (hb6.mono (by omega))
  have kb5 : Blk w6 w5.heap.size #[.map (some gi), .map (some gc), .map (some gl)] 106 := (hb6.block _ (by omega)).trans ((Blk.new w5 _ _).alloc _)
  have hm6' : StoreS w6 mi mc ml (fun k => k = mkD a (n + 1)) (fun _ => none) := ⟨hm6.ctx.iff (fun k _ => by simp), hm6.its, hm6.ne, fun k hk => absurd rfl hk⟩
  have HK7 : Hid (Blk w6 B4 #[.int .i64 (a : Int), .int .i64 ((n + 1 : Nat) : Int)] 121 ∧ Blk w6 w.heap.size #[.string ⟨c.path.toArray⟩, .int .u8 (c.act.toNat : Int), .string (keptVal c.act ⟨c.val.toArray⟩), .int .i64 c.n] 81 ∧ Below w.heap.size w w6 ∧ StoreS w6 gi gc gl (fun k => k ∈ ns) (fun _ => none) ∧ StoreS w6 mi mc ml (fun k => k = mkD a (n + 1)) (fun _ => none) ∧ Blk w6 w5.heap.size #[.map (some gi), .map (some gc), .map (some gl)] 106) := ⟨HK6.out.1.below hb56, HK6.out.2.1.below hb56, HK6.out.2.2.1.trans (hb56.mono hs5), HK6.out.2.2.2.below hb56, hm6', kb5⟩
  have hs65 : w5.heap.size < w6.heap.size := kb5.lt
  have hgl6' : gi < w6.heap.size ∧ gc < w6.heap.size ∧ gl < w6.heap.size := HK7.out.2.2.2.1.lt
  clear HK6 hm6 hm6' hb6 kb5 hb56 d0A d1A Hgone2
  have HEf : Hid (∀ wx, Calls Tryz.prog 72 #[.agg #[.string ⟨c.path.toArray⟩, .int .u8 (c.act.toNat : Int), .string (keptVal c.act ⟨c.val.toArray⟩), .int .i64 c.n]] wx fun e w' => e = .returned (.bool (effB c.act)) ∧ Below wx.heap.size wx w') := fun wx => IsEffect_any ⟨c.path.toArray⟩ c.act (keptVal c.act ⟨c.val.toArray⟩) c.n wx
  have g0 : ∀ o, (w6.alloc o).cell? ⟨w.heap.size, 0, none⟩ = some (.string ⟨c.path.toArray⟩) := fun o => ((HK7.out.2.1.alloc o).cell 0).trans rfl
  have g1 : ∀ o, (w6.alloc o).cell? ⟨w.heap.size, 1, none⟩ = some (.int .u8 (c.act.toNat : Int)) := fun o => ((HK7.out.2.1.alloc o).cell 1).trans rfl
  have g2 : ∀ o, (w6.alloc o).cell? ⟨w.heap.size, 2, none⟩ = some (.string (keptVal c.act ⟨c.val.toArray⟩)) := fun o => ((HK7.out.2.1.alloc o).cell 2).trans rfl
  have g3 : ∀ o, (w6.alloc o).cell? ⟨w.heap.size, 3, none⟩ = some (.int .i64 c.n) := fun o => ((HK7.out.2.1.alloc o).cell 3).trans rfl
  go_wp2_with fail
  refine Calls.mono (HEf.out _) ?_
  rintro e w7 ⟨rfl, hb7⟩
  have hba : Below w6.heap.size w6 w7 := ((Below.refl _ w6).alloc (Nat.le_refl _) _).trans (hb7.mono (by simp))
  have kb6 : Blk w7 w6.heap.size #[.map (some mi), .map (some mc), .map (some ml)] 106 := (Blk.new w6 _ _).below hb7
  have hs7 := hba.size
  have hs76 : w6.heap.size < w7.heap.size := kb6.lt
  have HK8 : Hid (Blk w7 B4 #[.int .i64 (a : Int), .int .i64 ((n + 1 : Nat) : Int)] 121 ∧ Blk w7 w.heap.size #[.string ⟨c.path.toArray⟩, .int .u8 (c.act.toNat : Int), .string (keptVal c.act ⟨c.val.toArray⟩), .int .i64 c.n] 81 ∧ Below w.heap.size w w7 ∧ StoreS w7 gi gc gl (fun k => k ∈ ns) (fun _ => none) ∧ StoreS w7 mi mc ml (fun k => k = mkD a (n + 1)) (fun _ => none) ∧ Blk w7 w5.heap.size #[.map (some gi), .map (some gc), .map (some gl)] 106 ∧ Blk w7 w6.heap.size #[.map (some mi), .map (some mc), .map (some ml)] 106) := ⟨HK7.out.1.below hba, HK7.out.2.1.below hba, HK7.out.2.2.1.trans (hba.mono (by omega)), HK7.out.2.2.2.1.below hba, HK7.out.2.2.2.2.1.below hba, HK7.out.2.2.2.2.2.below hba, kb6⟩
  clear HK7 hb7 hba kb6 HEf g0 g1 g2 g3
  cases he : effB c.act with
  | false =>
    go_upto_region 6 with fail
    have HZ : Hid (Blk w7 w6.heap.size #[.map (some mi), .map (some mc), .map (some ml)] 106 ∧ Blk w7 w5.heap.size #[.map (some gi), .map (some gc), .map (some gl)] 106 ∧ Below w.heap.size w w7 ∧ StoreS w7 gi gc gl (fun k => k ∈ ns) (fun _ => none) ∧ StoreS w7 mi mc ml (fun k => k = mkD a (n + 1)) (fun k => if k = mkD a (n + 1) ∧ effB c.act = true then some (chV c) else none) ∧ w5.heap.size ≤ mi ∧ w5.heap.size ≤ mc ∧ w5.heap.size ≤ ml) := ⟨HK8.out.2.2.2.2.2.2, HK8.out.2.2.2.2.2.1, HK8.out.2.2.1, HK8.out.2.2.2.1, by have h := HK8.out.2.2.2.2.1; simpa [he] using h, hmn⟩
    clear HK8
    have y0 := (HZ.out.1.cell 0).trans rfl
    have y1 := (HZ.out.1.cell 1).trans rfl
    have y2 := (HZ.out.1.cell 2).trans rfl
    have z0 := (HZ.out.2.1.cell 0).trans rfl
    have z1 := (HZ.out.2.1.cell 1).trans rfl
    have z2 := (HZ.out.2.1.cell 2).trans rfl
    have q1 := (Hcell.out _ HZ.out.2.2.1).2.1
    have q2 := (Hcell.out _ HZ.out.2.2.1).2.2.1
    have q3 := (Hcell.out _ HZ.out.2.2.1).2.2.2
    have HJ : Hid (_) := accept_join HR.out HCk.out (by rw [hwm, hnm, HKn.out]) hwm HCp.out Hns.out HZ.out.2.2.1 HZ.out.2.2.2.1 HZ.out.2.2.2.2.1 hs5 hgn' HZ.out.2.2.2.2.2 hnK a5 hcp
    go_region_with (first | (go_at_call 74; refine Calls.mono HJ.out ?_; rintro e w9 ⟨ib, cb, lb, rfl, hq1, hq2, hq3, hqf, hfin⟩))
    all_goals
      go_wp2_with fail
      go_end0
      exact ⟨rfl, ib, cb, lb, hfin⟩
  | true =>
    have d0 := (HK8.out.1.cell 0).trans rfl
    have d1 := (HK8.out.1.cell 1).trans rfl
    have g0 := (HK8.out.2.1.cell 0).trans rfl
    have g1 := (HK8.out.2.1.cell 1).trans rfl
    have g2 := (HK8.out.2.1.cell 2).trans rfl
    have g3 := (HK8.out.2.1.cell 3).trans rfl
    have HOne : Hid (_) := One_any w7 (mkD a (n + 1)) (.string ⟨c.path.toArray⟩) (.int .u8 (c.act.toNat : Int)) (.string (keptVal c.act ⟨c.val.toArray⟩)) (.int .i64 c.n) Hok1.out ⟨_, _, _, _, rfl, rfl, rfl, rfl⟩
    rw [← HE.out] at HOne
    go_wp2_with fail
    refine Calls.mono HOne.out ?_
    rintro e w8 ⟨xi, xc, xl, rfl, hx8, hxn, hb8⟩
    have kb8 := HK8.out.2.2.2.2.2.2.below hb8
    have f0 := (kb8.cell 0).trans rfl
    have f1 := (kb8.cell 1).trans rfl
    have f2 := (kb8.cell 2).trans rfl
    have ff := kb8.frozen
    have HK9 : Hid (Blk w8 w6.heap.size #[.map (some mi), .map (some mc), .map (some ml)] 106 ∧ Blk w8 w5.heap.size #[.map (some gi), .map (some gc), .map (some gl)] 106 ∧ Below w.heap.size w w8 ∧ StoreS w8 gi gc gl (fun k => k ∈ ns) (fun _ => none) ∧ StoreS w8 xi xc xl (fun k => k = mkD a (n + 1)) (fun k => if k = mkD a (n + 1) ∧ effB c.act = true then some (chV c) else none)) := ⟨kb8, HK8.out.2.2.2.2.2.1.below hb8, HK8.out.2.2.1.trans (hb8.mono (by omega)), HK8.out.2.2.2.1.below hb8, by simpa [he, chV] using hx8⟩
    have hgl := HK9.out.2.2.2.1.lt
    have hgl6 : gi < w6.heap.size ∧ gc < w6.heap.size ∧ gl < w6.heap.size := hgl6'
    clear HK8 hx8 hb8 kb8 d0 d1 g0 g1 g2 g3 HOne
    go_upto_region 6 with fail
    have hbx : w.heap.size ≤ w6.heap.size := by omega
    have hch : Chg (fun k => k = w6.heap.size) w8 (((w8.setCell ⟨w6.heap.size, 0, none⟩ (.map (some xi))).setCell ⟨w6.heap.size, 1, none⟩ (.map (some xc))).setCell ⟨w6.heap.size, 2, none⟩ (.map (some xl))) := (((Chg.refl (fun k => k = w6.heap.size) w8).setCell (p := ⟨w6.heap.size, 0, none⟩) rfl _).setCell (p := ⟨w6.heap.size, 1, none⟩) rfl _).setCell (p := ⟨w6.heap.size, 2, none⟩) rfl _
    have HZ : Hid (Blk (((w8.setCell ⟨w6.heap.size, 0, none⟩ (.map (some xi))).setCell ⟨w6.heap.size, 1, none⟩ (.map (some xc))).setCell ⟨w6.heap.size, 2, none⟩ (.map (some xl))) w6.heap.size #[.map (some xi), .map (some xc), .map (some xl)] 106 ∧ Blk (((w8.setCell ⟨w6.heap.size, 0, none⟩ (.map (some xi))).setCell ⟨w6.heap.size, 1, none⟩ (.map (some xc))).setCell ⟨w6.heap.size, 2, none⟩ (.map (some xl))) w5.heap.size #[.map (some gi), .map (some gc), .map (some gl)] 106 ∧ Below w.heap.size w (((w8.setCell ⟨w6.heap.size, 0, none⟩ (.map (some xi))).setCell ⟨w6.heap.size, 1, none⟩ (.map (some xc))).setCell ⟨w6.heap.size, 2, none⟩ (.map (some xl))) ∧ StoreS (((w8.setCell ⟨w6.heap.size, 0, none⟩ (.map (some xi))).setCell ⟨w6.heap.size, 1, none⟩ (.map (some xc))).setCell ⟨w6.heap.size, 2, none⟩ (.map (some xl))) gi gc gl (fun k => k ∈ ns) (fun _ => none) ∧ StoreS (((w8.setCell ⟨w6.heap.size, 0, none⟩ (.map (some xi))).setCell ⟨w6.heap.size, 1, none⟩ (.map (some xc))).setCell ⟨w6.heap.size, 2, none⟩ (.map (some xl))) xi xc xl (fun k => k = mkD a (n + 1)) (fun k => if k = mkD a (n + 1) ∧ effB c.act = true then some (chV c) else none) ∧ w5.heap.size ≤ xi ∧ w5.heap.size ≤ xc ∧ w5.heap.size ≤ xl) := by
      refine ⟨?_, HK9.out.2.1.chg hch (by omega), bl_set (bl_set (bl_set HK9.out.2.2.1 hbx _) hbx _) hbx _, HK9.out.2.2.2.1.chg hch (by omega) (by omega) (by omega), HK9.out.2.2.2.2.chg hch (by omega) (by omega) (by omega), by omega⟩
      have := HK9.out.1
      unfold Blk at this ⊢
      simp [World.setCell, Array.getElem?_modify, this]
    clear HK9 hch f0 f1 f2 ff
    generalize (((w8.setCell ⟨w6.heap.size, 0, none⟩ (.map (some xi))).setCell ⟨w6.heap.size, 1, none⟩ (.map (some xc))).setCell ⟨w6.heap.size, 2, none⟩ (.map (some xl))) = wz at *
    have y0 := (HZ.out.1.cell 0).trans rfl
    have y1 := (HZ.out.1.cell 1).trans rfl
    have y2 := (HZ.out.1.cell 2).trans rfl
    have z0 := (HZ.out.2.1.cell 0).trans rfl
    have z1 := (HZ.out.2.1.cell 1).trans rfl
    have z2 := (HZ.out.2.1.cell 2).trans rfl
    have q1 := (Hcell.out _ HZ.out.2.2.1).2.1
    have q2 := (Hcell.out _ HZ.out.2.2.1).2.2.1
    have q3 := (Hcell.out _ HZ.out.2.2.1).2.2.2
    have HJ : Hid (_) := accept_join HR.out HCk.out (by rw [hwm, hnm, HKn.out]) hwm HCp.out Hns.out HZ.out.2.2.1 HZ.out.2.2.2.1 HZ.out.2.2.2.2.1 hs5 hgn' HZ.out.2.2.2.2.2 hnK a5 hcp
    go_region_with (first | (go_at_call 74; refine Calls.mono HJ.out ?_; rintro e w9 ⟨ib, cb, lb, rfl, hq1, hq2, hq3, hqf, hfin⟩))
    all_goals
      go_wp2_with fail
      go_end0
      exact ⟨rfl, ib, cb, lb, hfin⟩
end Go.Proofs.YtoiiaankpnhppaaGreatDoor
namespace Go.Proofs.YtoiiaankpnhppaaGreatDoor
open Go.RowKit Go.Maps Go.WideMaps Go.MuLone

theorem Chg.wide {M M' : Nat → Prop} {w w' : World} (h : Chg M w w') (hm : ∀ k, M k → M' k) : Chg M' w w' := ⟨h.os, h.tape, h.output, h.size, fun k hk hn => h.block k hk (fun e => hn (hm k e))⟩
theorem Chg.then {M : Nat → Prop} {w w1 w2 : World} (h : Chg M w w1) (h2 : Chg M w1 w2) : Chg M w w2 := ⟨h2.os.trans h.os, h2.tape.trans h.tape, h2.output.trans h.output, Nat.le_trans h.size h2.size, fun k hk hn => (h2.block k (Nat.lt_of_lt_of_le hk h.size) hn).trans (h.block k hk hn)⟩

theorem CluP.renew {w w' : World} {x q cap : Nat} {fv : Value} {st : Int} {ds : List RepD} {bs : List (Nat × ByteArray)} (h : CluP w x q cap fv st ds bs) (k : Nat) (hk : k < ds.length) {io co lo : Nat} {K' : Nat → Nat} {C' : Nat → Option Thk.Ch} (hr : RepP w' ds[k].rb k (some io) (some co) (some lo) K' C') (hn : w.heap.size ≤ io ∧ w.heap.size ≤ co ∧ w.heap.size ≤ lo) (hc : Chg (fun b => b = ds[k].rb) w w') :
    CluP w' x q cap fv st (ds.set k ⟨ds[k].rb, some io, some co, some lo, K', C'⟩) bs := by
  obtain ⟨cs, r1, r2⟩ := h.row
  have hx : ¬ x = ds[k].rb := fun e => h.xr k hk (Or.inl e)
  have hq : ¬ q = ds[k].rb := fun e => h.qr k hk (Or.inl e)
  have hrb : ∀ j (hj : j < ds.length), (ds.set k ⟨ds[k].rb, some io, some co, some lo, K', C'⟩)[j]'(by simpa using hj) = if k = j then ⟨ds[k].rb, some io, some co, some lo, K', C'⟩ else ds[j] := fun j hj => by rw [List.getElem_set]
  have hown : ∀ b, b < w.heap.size → (RepD.mk ds[k].rb (some io) (some co) (some lo) K' C').own b → b = ds[k].rb := fun b hb ho => by
    rcases ho with h | h | h | h
    · exact h
    · cases h; omega
    · cases h; omega
    · cases h; omega
  refine ⟨?_, ⟨cs, r1.chg hc hq, fun j hj => ?_⟩, ownsRow_chg h.fr hc (fun g hg e => Tagged.ne (h.frT g hg) ⟨_, (h.rep k hk).blk⟩ (by decide) e), fun j hj => ?_, fun i j hi hj hij => ?_, fun j hj => ?_, fun j hj => ?_, by simpa using h.len, h.x4, h.b500⟩
  · rw [List.length_set]; exact h.blk.chg hc hx
  · have hj' : j < ds.length := by simpa using hj
    rw [hrb j hj', r2 j hj']
    by_cases e : k = j
    · subst e; rw [if_pos rfl]
    · rw [if_neg e]
  · have hj' : j < ds.length := by simpa using hj
    rw [hrb j hj']
    by_cases e : k = j
    · subst e; rw [if_pos rfl]; exact hr
    · rw [if_neg e]
      exact (h.rep j hj').chg hc (fun e2 => h.apart k j hk hj' e (Or.inl e2.symm)) (fun b hb e2 => h.apart k j hk hj' e (by subst e2; exact Or.inr hb))
  · have hi' : i < ds.length := by simpa using hi
    have hj' : j < ds.length := by simpa using hj
    rw [hrb i hi', hrb j hj']
    by_cases e : k = i
    · subst e
      rw [if_pos rfl, if_neg hij]
      exact h.apart k j hk hj' hij
    · rw [if_neg e]
      by_cases e2 : k = j
      · subst e2
        rw [if_pos rfl]
        intro ho
        exact h.apart i k hi' hk hij (Or.inl (hown _ (h.rep i hi').blk.lt ho))
      · rw [if_neg e2]
        exact h.apart i j hi' hj' hij
  · have hj' : j < ds.length := by simpa using hj
    rw [hrb j hj']
    by_cases e : k = j
    · subst e; rw [if_pos rfl]; exact fun ho => hx (hown _ h.blk.lt ho)
    · rw [if_neg e]; exact h.xr j hj'
  · have hj' : j < ds.length := by simpa using hj
    rw [hrb j hj']
    by_cases e : k = j
    · subst e; rw [if_pos rfl]; exact fun ho => hq (hown _ r1.lt ho)
    · rw [if_neg e]; exact h.qr j hj'

def DoD (w : World) (ds : List RepD) (i : Int) (s : ByteArray) (r : Int) (ds' : List RepD) : Prop :=
  (¬ (0 ≤ i ∧ i < ds.length) ∧ r = 2 ∧ ds' = ds) ∨
  (∃ m : Nat, (0 ≤ i ∧ i < ds.length) ∧ Thk.read (toL s) = .inl m ∧ r = (m : Int) ∧ ds' = ds) ∨
  (∃ c : Thk.Ch, (0 ≤ i ∧ i < ds.length) ∧ Thk.read (toL s) = .inr c ∧ 500 ≤ sumN ds ds.length ∧ r = 7 ∧ ds' = ds) ∨
  ∃ (c : Thk.Ch) (k : Nat) (hk : k < ds.length) (io co lo : Nat), i = (k : Int) ∧ Thk.read (toL s) = .inr c ∧ sumN ds ds.length < 500 ∧ (w.heap.size ≤ io ∧ w.heap.size ≤ co ∧ w.heap.size ≤ lo) ∧
    r = 0 ∧ ds' = ds.set k ⟨ds[k].rb, some io, some co, some lo, inc ds[k].K k, stepC ds[k].C c (mkD k (ds[k].K k + 1))⟩
section
variable {w : World} {ds : List RepD} {i : Int} {s : ByteArray}
theorem DoD.rep (h : ¬ (0 ≤ i ∧ i < ds.length)) : DoD w ds i s 2 ds := Or.inl ⟨h, rfl, rfl⟩
theorem DoD.bad (m : Nat) (h : 0 ≤ i ∧ i < ds.length) (hr : Thk.read (toL s) = .inl m) : DoD w ds i s m ds := Or.inr (Or.inl ⟨m, h, hr, rfl, rfl⟩)
theorem DoD.full (c : Thk.Ch) (h : 0 ≤ i ∧ i < ds.length) (hr : Thk.read (toL s) = .inr c) (hl : 500 ≤ sumN ds ds.length) : DoD w ds i s 7 ds := Or.inr (Or.inr (Or.inl ⟨c, h, hr, hl, rfl, rfl⟩))
theorem DoD.done (c : Thk.Ch) (k : Nat) (hk : k < ds.length) (io co lo : Nat) (h : i = (k : Int)) (hr : Thk.read (toL s) = .inr c) (hl : sumN ds ds.length < 500) (hn : w.heap.size ≤ io ∧ w.heap.size ≤ co ∧ w.heap.size ≤ lo) :
    DoD w ds i s 0 (ds.set k ⟨ds[k].rb, some io, some co, some lo, inc ds[k].K k, stepC ds[k].C c (mkD k (ds[k].K k + 1))⟩) := Or.inr (Or.inr (Or.inr ⟨c, k, hk, io, co, lo, h, hr, hl, hn, rfl, rfl⟩))
end
theorem sumN_part (ds : List RepD) (k : Nat) (hk : k < ds.length) : ∀ m, k < m → m ≤ ds.length → ds[k].K k ≤ sumN ds m
  | 0, h, _ => by omega
  | m + 1, h, hm => by
    rw [sumN_succ ds m (by omega)]
    by_cases e : k = m
    · subst e; omega
    · have := sumN_part ds k hk m (by omega) (by omega); omega

theorem readV_inl (m : Nat) : readV (.inl m) = .tuple #[.agg #[.string ⟨#[]⟩, .int .u8 0, .string ⟨#[]⟩, .int .i64 0], .int .i64 (m : Int)] := rfl
theorem readV_inr (c : Thk.Ch) : readV (.inr c) = .tuple #[.agg #[.string ⟨c.path.toArray⟩, .int .u8 (c.act.toNat : Int), .string (keptVal c.act ⟨c.val.toArray⟩), .int .i64 c.n], .int .i64 0] := rfl

set_option maxHeartbeats 4000000 in
set_option maxRecDepth 100000 in
theorem CDo_any (w : World) (hG : Glob w) (x q cap : Nat) (fv : Value) (ds : List RepD) (bs : List (Nat × ByteArray)) (hC : CluP w x q cap fv 0 ds bs) (i : Int) (s : ByteArray) (hs : s.size ≤ 1048576) :
    Calls Tryz.prog 19 #[.pointer (some ⟨x, 0, none⟩), .int .i64 i, .string s] w fun e w' => ∃ r ds', e = .returned (.int .i64 r) ∧ DoD w ds i s r ds' ∧ CluP w' x q cap fv 0 ds' bs ∧ Chg (fun k => k = x ∨ ∃ j, ∃ h : j < ds.length, k = ds[j].rb) w w' := by
  have HC : Hid (CluP w x q cap fv 0 ds bs) := hC
  have k0 : w.cell? ⟨x, 0, none⟩ = some (.int .i32 0) := (hC.blk.cell 0).trans rfl
  have z0 : w.frozen? ⟨x, 0, none⟩ = false := hC.blk.frozen 0
  have HC1 : Hid (CluP (w.setCell ⟨x, 0, none⟩ (.int .i32 1)) x q cap fv 1 ds bs) := hC.turn 1
  have HG : Hid (Glob w) := hG
  clear hC hG
  go_enter_defers Tryz.func19, Tryz.ntmps19
  go_wp2_with (go_at_call 34; refine (lock_free YtoiiaankpnhppaaGreatDoor.muLib ⟨x, 0, none⟩ _ k0 z0).mono ?_; rintro e w' ⟨rfl, rfl⟩)
  have h1b : Below (w.setCell ⟨x, 0, none⟩ (.int .i32 1)).heap.size (w.setCell ⟨x, 0, none⟩ (.int .i32 1)) ((w.setCell ⟨x, 0, none⟩ (.int .i32 1)).alloc (.cells #[.int .i64 i] 3)) := (Below.refl _ _).alloc (Nat.le_refl _) _
  have hgc : ((w.setCell ⟨x, 0, none⟩ (.int .i32 1)).alloc (.cells #[.int .i64 i] 3)).cell? ⟨w.heap.size, 0, none⟩ = some (.int .i64 i) := by
    have := (Blk.new (w.setCell ⟨x, 0, none⟩ (.int .i32 1)) #[.int .i64 i] 3).cell 0
    simpa using this
  have hch : Chg (fun k => k = x) w ((w.setCell ⟨x, 0, none⟩ (.int .i32 1)).alloc (.cells #[.int .i64 i] 3)) := (chg_turn (M := fun k => k = x) rfl _).below h1b
  have HB := HC1.out.below h1b
  refine Calls.mono (named_any _ x q cap fv 1 ds bs HB w.heap.size i hgc) ?_
  rintro e w1 ⟨rfl, hw1⟩
  rw [← hw1] at HB hch
  clear hgc h1b hw1 HC1 k0 z0
  have G1 : Hid (Glob w1) := HG.out.chg4 hch (fun k e => by subst e; exact HC.out.x4)
  have HC1 : Hid (CluP w1 x q cap fv 1 ds bs) := HB
  have Hch : Hid (Chg (fun k => k = x) w w1) := hch
  clear HB hch HC HG
  by_cases hi : 0 ≤ i ∧ i < ds.length
  · obtain ⟨k, rfl⟩ := Int.eq_ofNat_of_zero_le hi.1
    have hk : k < ds.length := by omega
    have Hi : Hid (_) := hi
    have hn : namedR ds.length (k : Int) = 0 := by unfold namedR; rw [if_pos hi]
    rw [hn]
    clear hn hi
    have HP : Hid (_) := ProgRead_any s w1 hs G1.out
    go_wp2_with fail
    refine Calls.mono HP.out ?_
    rintro e w2 ⟨rfl, hb2⟩
    have HC2 : Hid (CluP w2 x q cap fv 1 ds bs) := HC1.out.below hb2
    have Hch2 : Hid (Chg (fun k => k = x) w w2) := Hch.out.below hb2
    have G2 : Hid (Glob w2) := G1.out.mono hb2
    clear HP HC1 Hch G1 hb2
    cases hp : Thk.read (toL s) with
    | inl m =>
      have Hp : Hid (_) := hp
      have hm := Thk.read_err _ _ hp
      clear hp G2
      rw [readV_inl]
      have HC3 : Hid (CluP (w2.alloc (.cells #[.string ⟨#[]⟩, .int .u8 0, .string ⟨#[]⟩, .int .i64 0] 81)) x q cap fv 1 ds bs) := HC2.out.below ((Below.refl _ _).alloc (Nat.le_refl _) _)
      have Hch3 : Hid (Chg (fun k => k = x) w (w2.alloc (.cells #[.string ⟨#[]⟩, .int .u8 0, .string ⟨#[]⟩, .int .i64 0] 81))) := Hch2.out.below ((Below.refl _ _).alloc (Nat.le_refl _) _)
      go_wp2_with fail
      refine leaves_cons (f := 35) (args := #[.pointer (some ⟨x, 0, none⟩)]) (by simp) (by simp [go_sem]) ?_
      refine (unlock_deferred YtoiiaankpnhppaaGreatDoor.muLib ⟨x, 0, none⟩ .returning _ ((HC3.out.blk.cell 0).trans rfl) (HC3.out.blk.frozen 0)).mono ?_
      rintro e u' w9 ⟨rfl, rfl, rfl⟩
      exact ⟨_, results_tmp rfl _ _ _, _, _, rfl, DoD.bad m Hi.out Hp.out, HC3.out.turn 0, Chg.setCell (M := fun k => k = x ∨ ∃ j, ∃ h : j < ds.length, k = ds[j].rb) (p := ⟨x, 0, none⟩) (Hch3.out.wide (fun k e => Or.inl e)) (Or.inl rfl) _⟩
    | inr c =>
      have Hp : Hid (_) := hp
      have Hcp : Hid (c.path.length ≤ 1048576) := Nat.le_trans (Thk.read_ok _ _ hp).1 (by decide)
      clear hp
      rw [readV_inr]
      have hba : Below w2.heap.size w2 (w2.alloc (.cells #[.string ⟨c.path.toArray⟩, .int .u8 (c.act.toNat : Int), .string (keptVal c.act ⟨c.val.toArray⟩), .int .i64 c.n] 81)) := (Below.refl _ _).alloc (Nat.le_refl _) _
      have HC3 : Hid (CluP (w2.alloc (.cells #[.string ⟨c.path.toArray⟩, .int .u8 (c.act.toNat : Int), .string (keptVal c.act ⟨c.val.toArray⟩), .int .i64 c.n] 81)) x q cap fv 1 ds bs) := HC2.out.below hba
      have Hch3 : Hid (Chg (fun k => k = x) w (w2.alloc (.cells #[.string ⟨c.path.toArray⟩, .int .u8 (c.act.toNat : Int), .string (keptVal c.act ⟨c.val.toArray⟩), .int .i64 c.n] 81))) := Hch2.out.below hba
      have G3 : Hid (Glob (w2.alloc (.cells #[.string ⟨c.path.toArray⟩, .int .u8 (c.act.toNat : Int), .string (keptVal c.act ⟨c.val.toArray⟩), .int .i64 c.n] 81))) := G2.out.mono hba
      have Hch4 : Hid (Blk (w2.alloc (.cells #[.string ⟨c.path.toArray⟩, .int .u8 (c.act.toNat : Int), .string (keptVal c.act ⟨c.val.toArray⟩), .int .i64 c.n] 81)) w2.heap.size #[.string ⟨c.path.toArray⟩, .int .u8 (c.act.toNat : Int), .string (keptVal c.act ⟨c.val.toArray⟩), .int .i64 c.n] 81) := Blk.new w2 _ _
      have HC2x := HC2
      clear hba HC2 Hch2 G2
      go_wp2_with fail
      refine Calls.mono (events_any _ x q cap fv 1 ds bs HC3.out) ?_
      rintro e w3 ⟨rfl, hb3⟩
      have HC4 : Hid (CluP w3 x q cap fv 1 ds bs) := HC3.out.below hb3
      have Hch5 : Hid (Chg (fun k => k = x) w w3) := Hch3.out.below hb3
      have G4 : Hid (Glob w3) := G3.out.mono hb3
      have HK4 : Hid (Blk w3 w2.heap.size #[.string ⟨c.path.toArray⟩, .int .u8 (c.act.toNat : Int), .string (keptVal c.act ⟨c.val.toArray⟩), .int .i64 c.n] 81) := Hch4.out.below hb3
      clear hb3 HC3 Hch3 G3 Hch4
      by_cases h5 : 500 ≤ sumN ds ds.length
      · have H5 : Hid (_) := h5
        go_wp2_with fail
        refine leaves_cons (f := 35) (args := #[.pointer (some ⟨x, 0, none⟩)]) (by simp) (by simp [go_sem]) ?_
        refine (unlock_deferred YtoiiaankpnhppaaGreatDoor.muLib ⟨x, 0, none⟩ .returning _ ((HC4.out.blk.cell 0).trans rfl) (HC4.out.blk.frozen 0)).mono ?_
        rintro e u' w9 ⟨rfl, rfl, rfl⟩
        exact ⟨_, results_tmp rfl _ _ _, _, _, rfl, DoD.full c Hi.out Hp.out H5.out, HC4.out.turn 0, Chg.setCell (M := fun k => k = x ∨ ∃ j, ∃ h : j < ds.length, k = ds[j].rb) (p := ⟨x, 0, none⟩) (Hch5.out.wide (fun k e => Or.inl e)) (Or.inl rfl) _⟩
      · have H5 : Hid (sumN ds ds.length < 500) := by unfold Hid; omega
        have hn5 : ds[k].K k + 1 ≤ 500 := by have := sumN_part ds k hk ds.length hk (Nat.le_refl _); omega
        obtain ⟨m, hm⟩ := G4.out.len
        have c2 : w3.cell? ⟨x, 2, none⟩ = some (.slice (some ⟨q, 0, none⟩) ds.length cap) := (HC4.out.blk.cell 2).trans rfl
        have cq := HC4.out.cell k hk
        have v0 : w3.cell? ⟨w2.heap.size, 0, none⟩ = some (.string ⟨c.path.toArray⟩) := (HK4.out.cell 0).trans rfl
        have v1 : w3.cell? ⟨w2.heap.size, 1, none⟩ = some (.int .u8 (c.act.toNat : Int)) := (HK4.out.cell 1).trans rfl
        have v2 : w3.cell? ⟨w2.heap.size, 2, none⟩ = some (.string (keptVal c.act ⟨c.val.toArray⟩)) := (HK4.out.cell 2).trans rfl
        have v3 : w3.cell? ⟨w2.heap.size, 3, none⟩ = some (.int .i64 c.n) := (HK4.out.cell 3).trans rfl
        have hrne : ¬ w2.heap.size = ds[k].rb := fun e => by have := (HC2x.out.rep k hk).blk.lt; omega
        have HA : Hid (Calls Tryz.prog 40 #[.pointer (some ⟨ds[k].rb, 0, none⟩), .agg #[.string ⟨c.path.toArray⟩, .int .u8 (c.act.toNat : Int), .string (keptVal c.act ⟨c.val.toArray⟩), .int .i64 c.n]] w3.drew fun e w' => e = .returned (.tuple #[]) ∧ (∃ io co lo, CluP w' x q cap fv 1 (ds.set k ⟨ds[k].rb, some io, some co, some lo, inc ds[k].K k, stepC ds[k].C c (mkD k (ds[k].K k + 1))⟩) bs ∧ (w.heap.size ≤ io ∧ w.heap.size ≤ co ∧ w.heap.size ≤ lo) ∧ Chg (fun k => k = x ∨ ∃ j, ∃ h : j < ds.length, k = ds[j].rb) w w') ∧
            w'.cell? ⟨x, 2, none⟩ = some (.slice (some ⟨q, 0, none⟩) ds.length cap) ∧ w'.cell? ⟨q, k, none⟩ = some (.pointer (some ⟨ds[k].rb, 0, none⟩)) ∧ w'.cell? ⟨w2.heap.size, 0, none⟩ = some (.string ⟨c.path.toArray⟩) ∧ w'.cell? ⟨w2.heap.size, 1, none⟩ = some (.int .u8 (c.act.toNat : Int)) ∧ w'.cell? ⟨w2.heap.size, 2, none⟩ = some (.string (keptVal c.act ⟨c.val.toArray⟩)) ∧ w'.cell? ⟨w2.heap.size, 3, none⟩ = some (.int .i64 c.n)) := by
          have hdr : Below w3.heap.size w3 w3.drew := (Below.refl _ w3).drew
          have hcl := HC4.out.below hdr
          refine Calls.mono (Accept_any w3.drew _ _ _ _ _ _ _ (hcl.rep k hk) c hn5 Hcp.out m hm) ?_
          rintro e w' ⟨rfl, io, co, lo, hr, hnw, hc⟩
          have hcx := hcl.renew k hk hr hnw hc
          have hz : w.heap.size ≤ w3.drew.heap.size := Nat.le_trans Hch5.out.size hdr.size
          have hx : ¬ x = ds[k].rb := fun e => HC4.out.xr k hk (Or.inl e)
          have hq : ¬ q = ds[k].rb := fun e => HC4.out.qr k hk (Or.inl e)
          have hK5 := (HK4.out.below hdr).chg hc hrne
          have hX5 := (hcl.blk.cell 2)
          obtain ⟨cs, r1, r2⟩ := hcl.row
          refine ⟨rfl, ⟨io, co, lo, hcx, ⟨by omega, by omega, by omega⟩, ((Hch5.out.below hdr).wide (fun _ e => Or.inl e)).then (hc.wide (fun _ e => Or.inr ⟨k, hk, e⟩))⟩, ((hcl.blk.chg hc hx).cell 2).trans rfl, ((r1.chg hc hq).cell k).trans (r2 k hk), (hK5.cell 0).trans rfl, (hK5.cell 1).trans rfl, (hK5.cell 2).trans rfl, (hK5.cell 3).trans rfl⟩
        clear hm HC4 Hch5 G4 HK4 hrne HC2x
        go_wp2_with fail
        go_region_held3 (fun w' => w'.cell? ⟨x, 2, none⟩ = some (.slice (some ⟨q, 0, none⟩) ds.length cap) ∧ w'.cell? ⟨q, k, none⟩ = some (.pointer (some ⟨ds[k].rb, 0, none⟩)) ∧ w'.cell? ⟨w2.heap.size, 0, none⟩ = some (.string ⟨c.path.toArray⟩) ∧ w'.cell? ⟨w2.heap.size, 1, none⟩ = some (.int .u8 (c.act.toNat : Int)) ∧ w'.cell? ⟨w2.heap.size, 2, none⟩ = some (.string (keptVal c.act ⟨c.val.toArray⟩)) ∧ w'.cell? ⟨w2.heap.size, 3, none⟩ = some (.int .i64 c.n)) ((refine ⟨?_, ?_, ?_, ?_, ?_, ?_⟩ <;> assumption)) (first | (go_at_call 40; refine Calls.mono HA.out ?_; rintro e w4 ⟨rfl, hE, d0, d1, d2, d3, d4, d5⟩))
        obtain ⟨io, co, lo, hcx, hnw, hch⟩ := hE
        have HX : Hid (_) := hcx
        have HN : Hid (_) := hnw
        have HH : Hid (_) := hch
        clear hcx hnw hch HA c2 cq v0 v1 v2 v3 d0 d1 d2 d3 d4 d5
        go_wp2_with fail
        refine leaves_cons (f := 35) (args := #[.pointer (some ⟨x, 0, none⟩)]) (by simp) (by simp [go_sem]) ?_
        refine (unlock_deferred YtoiiaankpnhppaaGreatDoor.muLib ⟨x, 0, none⟩ .returning _ ((HX.out.blk.cell 0).trans rfl) (HX.out.blk.frozen 0)).mono ?_
        rintro e u' w9 ⟨rfl, rfl, rfl⟩
        exact ⟨_, results_tmp rfl _ _ _, _, _, rfl, DoD.done c k hk io co lo rfl Hp.out H5.out HN.out, HX.out.turn 0, Chg.setCell (M := fun k => k = x ∨ ∃ j, ∃ h : j < ds.length, k = ds[j].rb) (p := ⟨x, 0, none⟩) HH.out (Or.inl rfl) _⟩
  · have hn : namedR ds.length i = 2 := by unfold namedR; rw [if_neg hi]
    have Hi : Hid (_) := hi
    rw [hn]
    clear hn hi
    go_wp2_with fail
    refine leaves_cons (f := 35) (args := #[.pointer (some ⟨x, 0, none⟩)]) (by simp) (by simp [go_sem]) ?_
    refine (unlock_deferred YtoiiaankpnhppaaGreatDoor.muLib ⟨x, 0, none⟩ .returning _ ((HC1.out.blk.cell 0).trans rfl) (HC1.out.blk.frozen 0)).mono ?_
    rintro e u' w9 ⟨rfl, rfl, rfl⟩
    exact ⟨_, results_tmp rfl _ _ _, _, _, rfl, DoD.rep Hi.out, HC1.out.turn 0, Chg.setCell (M := fun k => k = x ∨ ∃ j, ∃ h : j < ds.length, k = ds[j].rb) (p := ⟨x, 0, none⟩) (Hch.out.wide (fun k e => Or.inl e)) (Or.inl rfl) _⟩
end Go.Proofs.YtoiiaankpnhppaaGreatDoor
namespace Go.Proofs.YtoiiaankpnhppaaGreatDoor
open Go.RowKit Go.Deep

def repCells (av : Value) : List Value := [.slice none 0 0, .bool false, .slice none 0 0, .slice none 0 0, .bool false, .int .i64 0, .int .i64 0, .bool false, .int .i64 0, .int .i64 0, .slice none 0 0, av, .int .i64 0]
def repFlat (avs : List Value) : List Value := avs.flatMap repCells
theorem repFlat_get : ∀ (avs : List Value) (i : Nat) (h : i < avs.length) (j : Nat), j < 13 → (repFlat avs)[i * 13 + j]? = (repCells avs[i])[j]? := by
  intro avs
  induction avs with
  | nil => intro i h; simp at h
  | cons a r ih =>
    intro i h j hj
    have e : repFlat (a :: r) = repCells a ++ repFlat r := rfl
    have hl : (repCells a).length = 13 := rfl
    rw [e]
    cases i with
    | zero => rw [List.getElem?_append_left (by rw [hl]; omega)]; simp
    | succ i =>
      rw [List.getElem?_append_right (by rw [hl]; omega), hl, show (i + 1) * 13 + j - 13 = i * 13 + j by omega]
      exact ih i (by simpa using h) j hj
theorem repFlat_snoc (avs : List Value) (av : Value) : repFlat (avs ++ [av]) = repFlat avs ++ repCells av := by unfold repFlat; simp

def AvAt (w : World) (r B : Nat) (v : Value) : Prop := ∃ b, ∃ kl : List Int, v = .slice (some ⟨b, 0, none⟩) r r ∧ B ≤ b ∧ kl.length = r ∧ SliceT 3 w v (ints kl)
def AvsAt (w : World) (r B : Nat) (avs : List Value) : Prop := ∀ a ∈ avs, AvAt w r B a
theorem AvAt.chg {M : Nat → Prop} {w w' : World} {r B : Nat} {v : Value} (h : AvAt w r B v) (hc : Chg M w w') (hM : ∀ b, Tagged w b 3 → ¬ M b) : AvAt w' r B v := by
  obtain ⟨b, kl, h1, h2, h3, h4⟩ := h
  exact ⟨b, kl, h1, h2, h3, h4.chg hc hM⟩
theorem AvAt.new (w : World) (r : Nat) (o : Obj) : AvAt ((w.alloc (.cells (madeCells #[.int .i64 0] r) 3)).alloc o) r w.heap.size (.slice (some ⟨w.heap.size, 0, none⟩) r r) := by
  have hm : (madeCells #[.int .i64 0] r).toList = List.replicate r (.int .i64 0) := by
    apply List.ext_getElem
    · simp [madeCells]
    · intro i h1 h2
      simp [madeCells, Nat.mod_one]
  have hb : ((w.alloc (.cells (madeCells #[.int .i64 0] r) 3)).alloc o).heap[w.heap.size]? = some (.cells (madeCells #[.int .i64 0] r) 3 (0, 0)) := (((Below.refl (w.alloc (.cells (madeCells #[.int .i64 0] r) 3)).heap.size _).alloc (Nat.le_refl _) o).block w.heap.size (by simp)).trans (heap_alloc_new w _)
  refine ⟨w.heap.size, List.replicate r 0, rfl, Nat.le_refl _, by simp, Or.inr ⟨w.heap.size, 0, r, by simp [ints], by simp [ints], ⟨_, hb⟩, fun j hj => ?_⟩⟩
  have hj' : j < r := by simpa [ints] using hj
  simp only [World.cell?, hb, Nat.zero_add]
  show (madeCells #[.int .i64 0] r)[j]? = _
  rw [← Array.getElem?_toList, hm]
  simp [ints, hj']
theorem own_tag {w : World} {B n size : Nat} {e : TypeId} {v : Value} {xs : List Value} (h : w.ownsRow B e size v n xs) : ∀ g, v.ownBlock = some g → Tagged w g e := by
  intro g hg
  obtain ⟨_, h1 | ⟨g', cap, cur, rfl, _, hh, _⟩⟩ := h
  · rw [h1.1] at hg; cases hg
  · cases hg; exact ⟨cur, hh⟩
theorem own_noint {w : World} {B n size : Nat} {e : TypeId} {v : Value} {xs : List Value} (h : w.ownsRow B e size v n xs) (he : e ≠ 3) : ∀ b, Tagged w b 3 → ¬ v.ownBlock = some b := fun b hb hg => Tagged.ne (own_tag h b hg) hb he rfl

theorem Tryz.infoRep : (Tryz.prog.info? 147).map (fun i => (i.zero, i.size, i.bytes)) = some (some (.agg (repCells (.slice none 0 0)).toArray), 13, 184) := by kernel_rfl

theorem Blk5.set1 {b : Nat} {v0 v1 v2 v3 v4 : Value} {w : World} (h : Blk5 b v0 v1 v2 v3 v4 w) (u : Value) (ht : ∀ j, (w.setCell ⟨b, 1, none⟩ u).frozen? ⟨b, j, none⟩ = false) : Blk5 b v0 u v2 v3 v4 (w.setCell ⟨b, 1, none⟩ u) :=
  ⟨(cs_oth (Or.inr (by omega))).trans h.c0, cs_same h.c1, (cs_oth (Or.inr (by omega))).trans h.c2, (cs_oth (Or.inr (by omega))).trans h.c3, (cs_oth (Or.inr (by omega))).trans h.c4, ht⟩

theorem fresh_ref {w : World} {c rb room r cap : Nat} {avs : List Value} (hb : Blk5 c (.int .i64 (room : Int)) (.slice (some ⟨rb, 0, none⟩) r cap) (.slice none 0 0) (.int .i64 0) (.slice none 0 0) w) (ht : Tagged w c 152)
    (base : Nat) (hown : w.ownsRow base 147 13 (.slice (some ⟨rb, 0, none⟩) r cap) r (repFlat avs)) (hl : avs.length = r) (hr6 : r ≤ 6) (h50 : room ≤ 50) : RefAt w c rb (.slice none 0 0) (.slice none 0 0) (fun i => avs.getD i .nilFunc) room [] 0 0 (List.replicate r []) := by
  have hcells : ∀ i, i < r → ∀ j, j < 13 → w.cell? ⟨rb, i * 13 + j, none⟩ = (repCells (avs.getD i .nilFunc))[j]? := by
    intro i hi j hj
    rw [hown.cellAt _ (by omega), repFlat_get avs i (by omega) j hj]
    congr 2
    rw [List.getD_eq_getElem?_getD, List.getElem?_eq_getElem (by omega)]; rfl
  obtain ⟨hx, ⟨h1, _⟩ | ⟨g, cp, cur, hv, _, hh, hcap, _⟩⟩ := hown
  · cases h1
  · simp only [Value.slice.injEq, Option.some.injEq, Addr.mk.injEq, true_and, and_true] at hv
    obtain ⟨rfl, rfl⟩ := hv
    refine ⟨ht, ⟨cur, hh⟩, h50, by simpa using hr6, by simp, hb.c0, ⟨cap, by simpa using hb.c1, by simpa using hcap⟩, hb.c2, by simpa using hb.c3, by omega, by omega, ⟨[], rfl, World.ownsRow_nil _ _ _ _, fun j h => by simp at h⟩, by simp, ?_, ?_, ?_, ?_⟩
    · intro i hi
      have hi' : i < r := by simpa using hi
      rw [List.getElem_replicate]
      have e0 := hcells i hi' 0 (by omega)
      rw [Nat.add_zero] at e0
      exact ⟨⟨_, e0, Or.inl ⟨rfl, rfl⟩⟩, hcells i hi' 1 (by omega), hcells i hi' 7 (by omega), ⟨0, hcells i hi' 9 (by omega), Nat.le_refl _⟩, ⟨_, [], hcells i hi' 10 (by omega), Or.inl ⟨rfl, rfl⟩, by simp⟩, ⟨0, hcells i hi' 12 (by omega), Nat.le_refl _⟩, ⟨hcells i hi' 2 (by omega), hcells i hi' 3 (by omega), hcells i hi' 4 (by omega), hcells i hi' 5 (by omega), hcells i hi' 6 (by omega), hcells i hi' 8 (by omega)⟩⟩
    · intro k hk; have := List.eq_of_mem_replicate hk; rw [this]; simp
    · exact hb.c4
    · intro i hi
      exact hcells i (by simpa using hi) 11 (by omega)

set_option maxHeartbeats 400000 in
theorem Fresh_bad (r room : Int) (w : World) (h : r < 1 ∨ 6 < r ∨ room < 0 ∨ 50 < room) :
    Calls Tryz.prog 81 #[.int .i64 r, .int .i64 room] w fun e w' => e = .returned (.pointer none) ∧ w' = w := by
  have hd : (decide (r < 1) || decide (6 < r) || decide (room < 0) || decide (50 < room)) = true := by simp; omega
  go_enter Tryz.func81, Tryz.ntmps81
  go_wp2
  all_goals first | (go_ret; exact ⟨rfl, rfl⟩) | (exfalso; omega)

set_option maxHeartbeats 4000000 in
set_option maxRecDepth 100000 in
theorem Fresh_good (r room : Nat) (w : World) (h1 : 1 ≤ r) (h6 : r ≤ 6) (h50 : room ≤ 50) :
    Calls Tryz.prog 81 #[.int .i64 (r : Int), .int .i64 (room : Int)] w fun e w' => ∃ rb avs, e = .returned (.pointer (some ⟨w.heap.size, 0, none⟩)) ∧ RefAt w' w.heap.size rb (.slice none 0 0) (.slice none 0 0) (fun i => avs.getD i .nilFunc) room [] 0 0 (List.replicate r []) ∧ AvsAt w' r w.heap.size avs ∧ avs.length = r ∧ Below w.heap.size w w' ∧ w.heap.size ≤ rb := by
  obtain ⟨iR, hiR, hzR0, hzR1, hzR2⟩ := info_parts Tryz.infoRep
  have hmk : ∀ wx : World, (Instr.makeSlice 42 (.int .i64 (r : Int)) (.int .i64 (r : Int))).run Tryz.prog wx = .ok (.slice (some ⟨wx.heap.size, 0, none⟩) r r) (wx.alloc (.cells (madeCells #[.int .i64 0] r) 3)) := fun wx => run_make_row' 42 3 (.int .i64 0) 8 Tryz.underlying42 Tryz.info3 rfl .i64 .i64 r (by omega) (by omega) wx
  go_enter Tryz.func81, Tryz.ntmps81
  go_wp2
  go_loopw [6] (fun i wr => ∃ (k : Nat) (avs : List Value) (rv : Value), k ≤ r ∧ i = .int .i64 (k : Int) ∧ (avs.length = k ∧ AvsAt wr r w.heap.size avs) ∧ Blk5 w.heap.size (.int .i64 (room : Int)) rv (.slice none 0 0) (.int .i64 0) (.slice none 0 0) wr ∧ Tagged wr w.heap.size 152 ∧ wr.ownsRow (w.heap.size + 1) 147 13 rv k (repFlat avs) ∧ Below w.heap.size w wr ∧ w.heap.size + 1 ≤ wr.heap.size) (fun i _ => r - (intOf i).toNat)
  case atStart => exact ⟨0, [], .slice none 0 0, by omega, rfl, ⟨rfl, fun a h => absurd h (by simp)⟩, blk5 (Below.refl (w.heap.size + 1) _) (by omega), ⟨_, heap_alloc_new w _⟩, World.ownsRow_nil _ _ _ _, (Below.refl _ _).alloc (Nat.le_refl _) _, by simp⟩
  case round =>
    obtain ⟨k, avs, rv, hk, rfl, ⟨hal, hav⟩, hB5, hT, hown, hnx, hsz⟩ := hrel
    have Hav : Hid (AvsAt wr r w.heap.size avs) := hav
    clear hav
    by_cases hlt : k < r
    · have Hown : Hid (wr.ownsRow (w.heap.size + 1) 147 13 rv k (repFlat avs)) := hown
      have HB5 : Hid (Blk5 w.heap.size (.int .i64 (room : Int)) rv (.slice none 0 0) (.int .i64 0) (.slice none 0 0) wr) := hB5
      have HT : Hid (Tagged wr w.heap.size 152) := hT
      have c1 := hB5.c1
      have hwl : w.heap.size < wr.heap.size := by omega
      have c1A : ∀ o, (wr.alloc o).cell? ⟨w.heap.size, 1, none⟩ = some rv := fun o => (((Below.refl _ wr).alloc (Nat.le_refl _) o).cell (p := ⟨w.heap.size, 1, none⟩) hwl).trans c1
      have c1B : ∀ o o', ((wr.alloc o).alloc o').cell? ⟨w.heap.size, 1, none⟩ = some rv := fun o o' => ((((Below.refl wr.heap.size wr).alloc (Nat.le_refl _) o).alloc (by simp) o').cell (p := ⟨w.heap.size, 1, none⟩) hwl).trans c1
      have m1 : Hid (k + 1 ≤ maxLen) := by unfold Hid maxLen; omega
      have m2 : Hid ((k + 1) * 184 ≤ 140737488355328) := by unfold Hid; omega
      have hone : Hid (∀ av : Value, av.oneCell' = true → ∀ u ∈ repCells av, u.oneCell' = true) := by
        intro av hav u hu; simp only [repCells, List.mem_cons, List.mem_nil_iff, or_false] at hu; rcases hu with rfl | rfl | rfl | rfl | rfl | rfl | rfl | rfl | rfl | rfl | rfl | rfl | rfl <;> first | rfl | exact hav
      clear hown hB5 hT
      have HAv : Hid (∀ o, AvAt ((wr.alloc (.cells (madeCells #[.int .i64 0] r) 3)).alloc o) r wr.heap.size (.slice (some ⟨wr.heap.size, 0, none⟩) r r)) := fun o => AvAt.new wr r o
      have HAvD : Hid (∀ o, AvAt ((wr.drew.alloc (.cells (madeCells #[.int .i64 0] r) 3)).alloc o) r wr.heap.size (.slice (some ⟨wr.heap.size, 0, none⟩) r r)) := fun o => AvAt.new wr.drew r o
      have hwz : Hid (w.heap.size ≤ wr.heap.size) := by unfold Hid; omega
      go_wp2_with fail
      go_region_law (refine step_append_own rfl (.tmp 33) (.tmp 37) 148 rfl (w.heap.size + 1) 147 iR (.agg (repCells (.slice none 0 0)).toArray) 13 184 Tryz.underlying148 hiR hzR0 hzR1 hzR2 rfl (by decide) rv k (repFlat avs) rfl ?_ _ 1 1 (repCells (.slice (some ⟨wr.heap.size, 0, none⟩) r r)) rfl rfl ?_ (hone.out _ rfl) m1.out m2.out ?_ ?_; (first | exact (Hown.out.alloc _).alloc _ | exact Hown.out.alloc _); (intro j u hj; match j, hj with | 0, hj => (cases hj; simp [Addr.add]) | 1, hj => (cases hj; simp [Addr.add]) | 2, hj => (cases hj; simp [Addr.add]) | 3, hj => (cases hj; simp [Addr.add]) | 4, hj => (cases hj; simp [Addr.add]) | 5, hj => (cases hj; simp [Addr.add]) | 6, hj => (cases hj; simp [Addr.add]) | 7, hj => (cases hj; simp [Addr.add]) | 8, hj => (cases hj; simp [Addr.add]) | 9, hj => (cases hj; simp [Addr.add]) | 10, hj => (cases hj; simp [Addr.add]) | 11, hj => (cases hj; simp [Addr.add]) | 12, hj => (cases hj; simp [Addr.add])); (simp; omega); intro v6 w6 hown6 hg6; obtain ⟨g6, c6, rfl⟩ := own_some hown6 (Nat.succ_pos _); have hC6 : Chg (fun x => rv.ownBlock = some x) wr w6 := Chg.grown (Chg.of_below (by go_grown)) hg6 (fun k hk => Or.inl hk); have hN6 : AvAt w6 r wr.heap.size (.slice (some ⟨wr.heap.size, 0, none⟩) r r) := AvAt.chg (by first | exact HAv.out _ | exact HAvD.out _) (Chg.grown (M := fun x => rv.ownBlock = some x) (Chg.refl _ _) hg6 (fun k hk => Or.inl hk)) (own_noint (by first | exact (Hown.out.alloc _).alloc _ | exact Hown.out.alloc _) (by decide)); have k1 := (World.cell?_of_block (w := wr) (a := ⟨w.heap.size, 1, none⟩) (hC6.block w.heap.size hwl (fun h => Tagged.ne (own_tag Hown.out _ h) HT.out (by decide) rfl))).trans c1; have kf : ∀ j, w6.frozen? ⟨w.heap.size, j, none⟩ = false := fun j => (World.frozen?_of_block (w := wr) (a := ⟨w.heap.size, j, none⟩) (hC6.block w.heap.size hwl (fun h => Tagged.ne (own_tag Hown.out _ h) HT.out (by decide) rfl))).trans (HT.out.frozen j))
      all_goals
        go_wp2
        go_roundw
        case rel =>
          have hB6 : Below (w.heap.size + 1) wr w6 := ⟨hC6.os, hC6.tape, hC6.output, hC6.size, fun i hi => hC6.block i (by omega) (fun h => by have := (Hown.out.lt i h).1; omega)⟩
          have hT6 : Tagged w6 w.heap.size 152 := by
            obtain ⟨cur, hh⟩ := HT.out
            exact ⟨cur, (hB6.block w.heap.size (by omega)).trans hh⟩
          have hB7 := (HB5.out.below hB6 (by omega)).set1 (.slice (some ⟨g6, 0, none⟩) (k + 1) c6) (fun j => (hT6.setCell _ _).frozen j)
          have hn6 : Below w.heap.size w (w6.setCell ⟨w.heap.size, 1, none⟩ (.slice (some ⟨g6, 0, none⟩) (k + 1) c6)) := (hnx.trans (hB6.mono (by omega))).setCell (p := ⟨w.heap.size, 1, none⟩) (Nat.le_refl _) _
          have hs7 : Chg (fun x => x = w.heap.size) w6 (w6.setCell ⟨w.heap.size, 1, none⟩ (.slice (some ⟨g6, 0, none⟩) (k + 1) c6)) := (Chg.refl (fun x => x = w.heap.size) w6).setCell (p := ⟨w.heap.size, 1, none⟩) rfl _
          have hav7 : AvsAt (w6.setCell ⟨w.heap.size, 1, none⟩ (.slice (some ⟨g6, 0, none⟩) (k + 1) c6)) r w.heap.size (avs ++ [.slice (some ⟨wr.heap.size, 0, none⟩) r r]) := by
            intro a ha
            rcases List.mem_append.1 ha with h1 | h1
            · exact ((Hav.out a h1).chg hC6 (own_noint Hown.out (by decide))).chg hs7 (fun b hb e => Tagged.ne hb hT6 (by decide) e)
            · have e : a = _ := List.mem_singleton.1 h1
              rw [e]
              obtain ⟨b, kl, h2, h3, h4⟩ := hN6
              exact AvAt.chg (w := w6) ⟨b, kl, h2, Nat.le_trans hwz.out h3, h4⟩ hs7 (fun b hb e => Tagged.ne hb hT6 (by decide) e)
          exact ⟨k + 1, avs ++ [.slice (some ⟨wr.heap.size, 0, none⟩) r r], .slice (some ⟨g6, 0, none⟩) (k + 1) c6, by omega, by go_num, ⟨by simp [hal], hav7⟩, hB7, hT6.setCell _ _, by rw [repFlat_snoc]; exact ownsRow_setCell_below hown6 (by show w.heap.size < w.heap.size + 1; omega) _, hn6, by have := hB6.size; simp; omega⟩
        case measure => simp [intOf]; omega
    · have hkr : k = r := by omega
      subst hkr
      obtain ⟨rb, cap, rfl⟩ := own_some hown (by omega)
      have HF : Hid (_) := fresh_ref hB5 hT _ hown hal h6 h50
      have hrb : w.heap.size ≤ rb := by have := (hown.lt rb rfl).1; omega
      clear hown hB5 hT
      go_wp2
      go_ret
      exact ⟨rb, avs, rfl, HF.out, Hav.out, hal, hnx, hrb⟩

end Go.Proofs.YtoiiaankpnhppaaGreatDoor
namespace Go.Proofs.YtoiiaankpnhppaaGreatDoor
open Go.RowKit Go.Maps Go.WideMaps Go.Deep

def ptrs (bs : List Nat) : List Value := bs.map fun b => .pointer (some ⟨b, 0, none⟩)
structure NewP (w0 : World) (w : World) (rv : Value) (rbs : List Nat) : Prop where
  blk : Blk w w0.heap.size #[.int .i32 0, .int .u32 0, rv, .slice none 0 0] 74
  row : w.ownsRow w0.heap.size 76 1 rv rbs.length (ptrs rbs)
  rep : ∀ j (h : j < rbs.length), Blk w rbs[j] #[.int .i64 (j : Int), .map none, .map none, .map none] 112 ∧ w0.heap.size ≤ rbs[j]
  bel : Below w0.heap.size w0 w
theorem blk_types {w : World} {b : Nat} {cs cs' : Array Value} {t t' : TypeId} (h : Blk w b cs t) (h' : Blk w b cs' t') : cs = cs' ∧ t = t' := by
  have e2 : some (Obj.cells _ _ _) = some (Obj.cells _ _ _) := (show w.heap[b]? = _ from h).symm.trans h'
  injection e2 with e2
  injection e2 with e1 e3
  exact ⟨e1, e3⟩
theorem NewP.ne {w0 w : World} {rv : Value} {rbs : List Nat} (h : NewP w0 w rv rbs) {b : Nat} {cs : Array Value} {t : TypeId} (hb : Blk w b cs t) (ht : t ≠ 76) : rv.ownBlock ≠ some b := by
  refine ownsRow_ne h.row (fun cur fz e => ?_)
  have e2 : some (Obj.cells _ _ _) = some (Obj.cells _ _ _) := (show w.heap[b]? = _ from hb).symm.trans e
  injection e2 with e2
  injection e2 with e1 e3
  exact ht e3
theorem NewP.more {w0 w w6 : World} {rv : Value} {rbs : List Nat} (h : NewP w0 w rv rbs) {g c : Nat}
    (ho : w6.ownsRow w0.heap.size 76 1 (.slice (some ⟨g, 0, none⟩) (rbs.length + 1) c) (rbs.length + 1) (ptrs rbs ++ [.pointer (some ⟨w.heap.size, 0, none⟩)]))
    (hg : ((w.alloc (.cells #[.int .i64 (rbs.length : Int), .map none, .map none, .map none] 112)).alloc (.cells #[.pointer (some ⟨w.heap.size, 0, none⟩)] 76)).grownBy w6 rv.ownBlock) :
    NewP w0 (w6.setCell ⟨w0.heap.size, 2, none⟩ (.slice (some ⟨g, 0, none⟩) (rbs.length + 1) c)) (.slice (some ⟨g, 0, none⟩) (rbs.length + 1) c) (rbs ++ [w.heap.size]) := by
  have hlr : (rbs ++ [w.heap.size]).length = rbs.length + 1 := by simp
  have hnr : Blk ((w.alloc (.cells #[.int .i64 (rbs.length : Int), .map none, .map none, .map none] 112)).alloc (.cells #[.pointer (some ⟨w.heap.size, 0, none⟩)] 76)) w.heap.size #[.int .i64 (rbs.length : Int), .map none, .map none, .map none] 112 := (Blk.new w _ _).alloc _
  have keep : ∀ {b : Nat} {cs : Array Value} {t : TypeId}, Blk w b cs t → t ≠ 76 → Blk w6 b cs t := fun hb ht => by
    have h2 := (hb.alloc (.cells #[.int .i64 (rbs.length : Int), .map none, .map none, .map none] 112)).alloc (.cells #[.pointer (some ⟨w.heap.size, 0, none⟩)] 76)
    exact (hg.block _ h2.lt (Ne.symm (h.ne hb ht))).trans h2
  have hB := keep h.blk (by decide)
  have hrn : Blk w6 w.heap.size #[.int .i64 (rbs.length : Int), .map none, .map none, .map none] 112 := by
    refine (hg.block _ hnr.lt (fun e => ?_)).trans hnr
    have := (h.row.lt _ e.symm).2
    omega
  have hbl : Below w0.heap.size w0 w6 := by
    have h1 : Below w0.heap.size w0 ((w.alloc (.cells #[.int .i64 (rbs.length : Int), .map none, .map none, .map none] 112)).alloc (.cells #[.pointer (some ⟨w.heap.size, 0, none⟩)] 76)) := (h.bel.alloc h.bel.size _).alloc (Nat.le_trans h.bel.size (by simp)) _
    exact h1.grown hg h1.size (fun k hk => (h.row.lt k hk).1)
  have hgx : g ≠ w0.heap.size := fun e => by
    subst e
    obtain ⟨_, ⟨h1, _⟩ | ⟨g', cp, cur, hv, _, hh, _⟩⟩ := ho
    · cases h1
    · simp only [Value.slice.injEq, Option.some.injEq, Addr.mk.injEq, true_and, and_true] at hv
      obtain ⟨rfl, rfl⟩ := hv
      exact absurd (blk_types hB hh).2 (by decide)
  refine ⟨?_, ?_, fun j hj => ?_, hbl.setCell (p := ⟨w0.heap.size, 2, none⟩) (Nat.le_refl _) _⟩
  · unfold Blk at hB ⊢
    simp [World.setCell, Array.getElem?_modify, hB]
  · rw [hlr]
    have e : ptrs (rbs ++ [w.heap.size]) = ptrs rbs ++ [.pointer (some ⟨w.heap.size, 0, none⟩)] := by simp [ptrs]
    rw [e]
    exact ownsRow_setCell_other ho (a := ⟨w0.heap.size, 2, none⟩) (fun e => hgx (by simpa [Value.ownBlock] using e)) _
  · by_cases hlt : j < rbs.length
    · rw [List.getElem_append_left hlt]
      obtain ⟨r1, r2⟩ := h.rep j hlt
      exact ⟨blk_oth (keep r1 (by decide)) (fun e => by rw [e] at r1; exact absurd (blk_types r1 h.blk).2 (by decide)), r2⟩
    · have hj' : j = rbs.length := by simp at hj; omega
      subst hj'
      rw [List.getElem_append_right (Nat.le_refl _)]
      simp only [Nat.sub_self, List.getElem_cons_zero]
      exact ⟨blk_oth hrn (fun e => absurd (blk_types (e ▸ hrn) hB).2 (by decide)), h.bel.size⟩
theorem NewP.done {w0 w : World} {rv : Value} {rbs : List Nat} (h : NewP w0 w rv rbs) (h4 : 4 ≤ w0.heap.size) (h1 : 1 ≤ rbs.length) (h6 : rbs.length ≤ 6) :
    ∃ q cap, rv = .slice (some ⟨q, 0, none⟩) rbs.length cap ∧ w0.heap.size ≤ q ∧ CluP w w0.heap.size q cap (.slice none 0 0) 0 (rbs.map fun b => ⟨b, none, none, none, fun _ => 0, fun _ => none⟩) [] := by
  obtain ⟨hx, ⟨e1, e2⟩ | ⟨q, cap, cur, rfl, hq, hh, hcap, _, hsz, htk⟩⟩ := h.row
  · omega
  · refine ⟨q, cap, rfl, hq, ?_, ⟨cur, hh, fun j hj => ?_⟩, World.ownsRow_nil _ _ _ _, fun j hj => ?_, fun i j hi hj hij => ?_, fun j hj => ?_, fun j hj => ?_, by simpa using h6, h4, by simp⟩
    · simpa using h.blk
    · have hj' : j < rbs.length := by simpa using hj
      have e : cur.toList[j]? = (ptrs rbs)[j]? := by rw [← htk, List.getElem?_take, if_pos (by omega)]
      rw [← Array.getElem?_toList, e]
      simp [ptrs, hj']
    · have hj' : j < rbs.length := by simpa using hj
      have hr := (h.rep j hj').1
      have hc : cm (fun _ => 0) = fun _ => none := (cm_ext (fun a => rfl) (fun key _ => rfl)).symm
      have hl : lm (fun _ => false) = fun _ => none := by funext key; simp [lm]
      have hi : itOf (fun _ => none) = fun _ => none := rfl
      simp only [List.getElem_map]
      exact ⟨hr, ⟨⟨fun _ => 0, fun _ => false, ⟨⟨0, Or.inl ⟨rfl, rfl, hc⟩⟩, ⟨0, Or.inl ⟨rfl, rfl, hl⟩⟩, fun _ => by omega, fun _ h => absurd rfl h, fun n h => (by cases h)⟩, fun _ => rfl, fun n _ => by simp [inK]⟩, ⟨0, Or.inl ⟨rfl, rfl, by rw [hi, im_none]⟩⟩, fun n h => absurd rfl h⟩, fun k c h => (by cases h), fun _ => by omega, by omega⟩
    · have hi' : i < rbs.length := by simpa using hi
      have hj' : j < rbs.length := by simpa using hj
      simp only [List.getElem_map]
      rintro (e | e | e | e)
      · have e0 : rbs[i] = rbs[j] := e
        have r1 := (h.rep i hi').1
        rw [e0] at r1
        have := (blk_types r1 (h.rep j hj').1).1
        simp at this
        omega
      · cases e
      · cases e
      · cases e
    · have hj' : j < rbs.length := by simpa using hj
      simp only [List.getElem_map]
      rintro (e | e | e | e)
      · have e0 : w0.heap.size = rbs[j] := e
        have r1 := (h.rep j hj').1
        rw [← e0] at r1
        exact absurd (blk_types r1 h.blk).2 (by decide)
      · cases e
      · cases e
      · cases e
    · have hj' : j < rbs.length := by simpa using hj
      simp only [List.getElem_map]
      rintro (e | e | e | e)
      · have e0 : q = rbs[j] := e
        have r1 := (h.rep j hj').1
        rw [← e0] at r1
        exact absurd (blk_types r1 hh).2 (by decide)
      · cases e
      · cases e
      · cases e

set_option maxHeartbeats 400000 in
theorem New_bad (r room : Int) (w : World) (h : r < 1 ∨ 6 < r ∨ room < 0 ∨ 50 < room) :
    Calls Tryz.prog 27 #[.int .i64 r, .int .i64 room] w fun e w' => e = .returned (.tuple #[.pointer none, .int .i64 1]) ∧ w' = w := by
  have hd : (decide (r < 1) || decide (6 < r) || decide (room < 0) || decide (50 < room)) = true := by simp; omega
  go_enter Tryz.func27, Tryz.ntmps27
  go_wp2
  all_goals first | (go_ret2; exact ⟨rfl, rfl⟩) | (exfalso; omega)

theorem Tryz.infoPR : (Tryz.prog.info? 76).map (fun i => (i.zero, i.size, i.bytes)) = some (some (.pointer none), 1, 8) := by kernel_rfl

set_option maxHeartbeats 4000000 in
set_option maxRecDepth 100000 in
theorem New_good (r room : Nat) (w : World) (h4 : 4 ≤ w.heap.size) (h1 : 1 ≤ r) (h6 : r ≤ 6) (h50 : room ≤ 50) :
    Calls Tryz.prog 27 #[.int .i64 (r : Int), .int .i64 (room : Int)] w fun e w' => ∃ rv rbs, e = .returned (.tuple #[.pointer (some ⟨w.heap.size, 0, none⟩), .int .i64 0]) ∧ rbs.length = r ∧ NewP w w' rv rbs := by
  obtain ⟨iR, hiR, hzR0, hzR1, hzR2⟩ := info_parts Tryz.infoPR
  go_enter Tryz.func27, Tryz.ntmps27
  go_wp2
  go_loopw [25] (fun i wr => ∃ (rbs : List Nat) (rv : Value), rbs.length ≤ r ∧ i = .int .i64 (rbs.length : Int) ∧ NewP w wr rv rbs) (fun i _ => r - (intOf i).toNat)
  case atStart =>
    exact ⟨[], .slice none 0 0, by simp, rfl, Blk.new w _ _, World.ownsRow_nil _ _ _ _, fun j h => absurd h (by simp), (Below.refl _ _).alloc (Nat.le_refl _) _⟩
  case round =>
    obtain ⟨rbs, rv, hk, rfl, hN⟩ := hrel
    by_cases hlt : rbs.length < r
    · have HN : Hid (NewP w wr rv rbs) := hN
      have hwl : w.heap.size < wr.heap.size := hN.blk.lt
      have c1 : wr.cell? ⟨w.heap.size, 2, none⟩ = some rv := (hN.blk.cell 2).trans rfl
      have c1A : ∀ o, (wr.alloc o).cell? ⟨w.heap.size, 2, none⟩ = some rv := fun o => ((HN.out.blk.alloc o).cell 2).trans rfl
      have c1B : ∀ o o', ((wr.alloc o).alloc o').cell? ⟨w.heap.size, 2, none⟩ = some rv := fun o o' => (((HN.out.blk.alloc o).alloc o').cell 2).trans rfl
      have c1C : ∀ o, (wr.drew.alloc o).cell? ⟨w.heap.size, 2, none⟩ = some rv := c1A
      have c1D : ∀ o o', ((wr.drew.alloc o).alloc o').cell? ⟨w.heap.size, 2, none⟩ = some rv := c1B
      have HD : Hid (NewP w wr.drew rv rbs) := ⟨hN.blk, hN.row, hN.rep, hN.bel.drew⟩
      have HE : Hid (∀ o o', Blk ((wr.drew.alloc o).alloc o') w.heap.size #[.int .i32 0, .int .u32 0, rv, .slice none 0 0] 74) := fun o o' => (HD.out.blk.alloc o).alloc o'
      have m1 : Hid (rbs.length + 1 ≤ maxLen) := by unfold Hid maxLen; omega
      have m2 : Hid ((rbs.length + 1) * 8 ≤ 140737488355328) := by unfold Hid; omega
      have hne : Hid (rv.ownBlock ≠ some w.heap.size) := hN.ne hN.blk (by decide)
      have ha5 : rbs.length ≤ 5 := by omega
      clear hN
      go_wp2_with fail
      go_region_law (first | (go_simp; refine Calls.mono (RepNew_any _ rbs.length ha5) ?_; rintro e w' ⟨rfl, rfl⟩) | (refine step_append_own rfl (.tmp 32) (.tmp 35) 71 rfl w.heap.size 76 iR (.pointer none) 1 8 Tryz.underlying71 hiR hzR0 hzR1 hzR2 rfl (by decide) rv rbs.length (ptrs rbs) rfl ?_ _ 1 1 [.pointer (some ⟨wr.heap.size, 0, none⟩)] rfl rfl ?_ ?_ m1.out m2.out ?_ ?_; (exact (HD.out.row.alloc _).alloc _); (intro j u hj; match j, hj with | 0, hj => (cases hj; simp [Addr.add])); (intro u hu; simp at hu; subst hu; rfl); (simp; omega); intro v6 w6 ho6 hg6; obtain ⟨g6, c6, rfl⟩ := own_some ho6 (Nat.succ_pos _); have k1 := hg6.cell (c1D _ _) (Ne.symm hne.out); have kf : w6.frozen? ⟨w.heap.size, 2, none⟩ = false := Blk.frozen (cs := #[.int .i32 0, .int .u32 0, rv, .slice none 0 0]) (t := 74) ((hg6.block _ (HE.out _ _).lt (Ne.symm hne.out)).trans (HE.out _ _)) 2))
      all_goals
        go_wp2
        go_roundw
        case rel =>
          have hm := HD.out.more ho6 hg6
          exact ⟨rbs ++ [wr.heap.size], .slice (some ⟨g6, 0, none⟩) (rbs.length + 1) c6, by simp <;> omega, by simp <;> go_num, hm⟩
        case measure => simp [intOf]; omega
    · have HN : Hid (NewP w wr rv rbs) := hN
      have hr : rbs.length = r := by omega
      clear hN
      go_wp2
      go_ret2
      exact ⟨rv, rbs, rfl, hr, HN.out⟩
end Go.Proofs.YtoiiaankpnhppaaGreatDoor
namespace Go.Proofs.YtoiiaankpnhppaaGreatDoor

def encN (n : Nat) : Thk.Bs := if n < 128 then [UInt8.ofNat n] else [UInt8.ofNat (n % 128 + 128), UInt8.ofNat (n / 128)]
def encD (d : Nat) : Thk.Bs := encN (who d) ++ encN (nth d)
def encR (r : Nat × Nat) : Thk.Bs := encD r.1 ++ encN r.2
def encI (x : Nat × Thk.Bs) : Thk.Bs := encD x.1 ++ encN x.2.length ++ x.2
def encS (rs : List (Nat × Nat)) (its : List (Nat × Thk.Bs)) : Thk.Bs := encN rs.length ++ rs.flatMap encR ++ encN its.length ++ its.flatMap encI
def encF (from' : Nat) (rs : List (Nat × Nat)) (its : List (Nat × Thk.Bs)) : Thk.Bs := encN 0 ++ encN from' ++ encS rs its
def encA (from' : Nat) : Thk.Bs := encN 1 ++ encN from'

def runD (r : Nat × Nat) : List Nat := (List.range r.2).map (fun k => r.1 + k)
def flatR (rs : List (Nat × Nat)) : List Nat := rs.flatMap runD
theorem runD_succ (d m : Nat) : runD (d, m + 1) = runD (d, m) ++ [d + m] := by simp [runD, List.range_succ]
theorem flatR_snoc (rs : List (Nat × Nat)) (r : Nat × Nat) : flatR (rs ++ [r]) = flatR rs ++ runD r := by simp [flatR]
theorem who_add {d k : Nat} (h : nth d + k < 512) : who (d + k) = who d := by unfold who nth at *; omega
theorem nth_add {d k : Nat} (h : nth d + k < 512) : nth (d + k) = nth d + k := by unfold nth at *; omega
theorem encN_one {n : Nat} (h : n < 128) : encN n = [UInt8.ofNat n] := if_pos h
theorem encN_two {n : Nat} (h : ¬ n < 128) : encN n = [UInt8.ofNat (n % 128 + 128), UInt8.ofNat (n / 128)] := if_neg h
theorem encN_len (n : Nat) : 1 ≤ (encN n).length ∧ (encN n).length ≤ 2 := by unfold encN; split <;> simp
end Go.Proofs.YtoiiaankpnhppaaGreatDoor
namespace Go.Proofs.YtoiiaankpnhppaaGreatDoor

theorem ofInt_nat (k n : Nat) (h : n < 2 ^ k) : (BitVec.ofInt k (n : Int)).toNat = n := by
  rw [BitVec.toNat_ofInt]
  have h2 : ((2 ^ k : Nat) : Int) = (2 : Int) ^ k := by simp
  rw [Int.emod_eq_of_lt (by omega) (by omega)]
  exact Int.toNat_natCast n
theorem bits_and_nat (k : IntKind) (x y : Nat) (hx : x < 2 ^ k.bits) (hy : y < 2 ^ k.bits) : bits .and k (x : Int) (y : Int) = k.wrap ((x &&& y : Nat) : Int) := by
  show k.wrap _ = _
  rw [BitVec.toNat_and, ofInt_nat _ _ hx, ofInt_nat _ _ hy]
theorem bits_or_nat (k : IntKind) (x y : Nat) (hx : x < 2 ^ k.bits) (hy : y < 2 ^ k.bits) : bits .or k (x : Int) (y : Int) = k.wrap ((x ||| y : Nat) : Int) := by
  show k.wrap _ = _
  rw [BitVec.toNat_or, ofInt_nat _ _ hx, ofInt_nat _ _ hy]
theorem wrap_i64 (n : Nat) (h : n < 9223372036854775808) : IntKind.i64.wrap (n : Int) = n := by
  simp [IntKind.wrap, IntKind.bits, IntKind.signed]; omega
theorem wrap_u8 (n : Nat) (h : n < 256) : IntKind.u8.wrap (n : Int) = n := by
  simp [IntKind.wrap, IntKind.bits, IntKind.signed]; omega
theorem and127 (n : Nat) : n &&& 127 = n % 128 := Nat.and_two_pow_sub_one_eq_mod n 7
theorem or_add (a b : Nat) (h : a < 128) : a ||| (b * 128) = a + b * 128 := by
  have := Nat.two_pow_add_eq_or_of_lt (i := 7) (b := a) h b
  rw [Nat.or_comm, ← Nat.mul_comm 128 b]
  rw [show (2 : Nat) ^ 7 = 128 from rfl] at this
  omega
theorem low_i64 (n : Nat) (h : n < 4611686018427387904) : bits .and .i64 (n : Int) 127 = ((n % 128 : Nat) : Int) := by
  have := bits_and_nat .i64 n 127 (Nat.lt_of_lt_of_le h (by decide)) (by decide)
  rw [and127, wrap_i64 _ (by omega)] at this
  exact this
theorem more_i64 (n : Nat) (h : n < 128) : bits .or .i64 (n : Int) 128 = ((n + 128 : Nat) : Int) := by
  have := bits_or_nat .i64 n 128 (Nat.lt_of_lt_of_le h (by decide)) (by decide)
  have e := or_add n 1 h
  rw [show (128 : Nat) = 1 * 128 from rfl, e, wrap_i64 _ (by omega)] at this
  exact this
theorem low_u8 (n : Nat) (h : n < 256) : bits .and .u8 (n : Int) 127 = ((n % 128 : Nat) : Int) := by
  have := bits_and_nat .u8 n 127 h (by decide)
  rw [and127, wrap_u8 _ (by omega)] at this
  exact this
theorem top_u8 (n : Nat) (h : n < 256) : bits .and .u8 (n : Int) 128 = if n < 128 then 0 else 128 := by
  have hall : ∀ m : Fin 256, bits .and .u8 ((m.val : Nat) : Int) 128 = if m.val < 128 then 0 else 128 := by decide +kernel
  exact hall ⟨n, h⟩
theorem or_i64 (a b : Nat) (h : a < 128) (hb : b < 1048576) : bits .or .i64 (a : Int) ((b * 128 : Nat) : Int) = ((a + b * 128 : Nat) : Int) := by
  have := bits_or_nat .i64 a (b * 128) (Nat.lt_of_lt_of_le h (by decide)) (Nat.lt_of_lt_of_le (show b * 128 < 134217728 by omega) (by decide))
  rw [or_add a b h, wrap_i64 _ (by omega)] at this
  exact this
theorem or_zero (b : Nat) (hb : b < 1048576) : bits .or .i64 0 (b : Int) = (b : Int) := by
  have := bits_or_nat .i64 0 b (by decide) (Nat.lt_of_lt_of_le hb (by decide))
  rw [Nat.zero_or, wrap_i64 _ (by omega)] at this
  exact this
end Go.Proofs.YtoiiaankpnhppaaGreatDoor
namespace Go.Proofs.YtoiiaankpnhppaaGreatDoor
open Go.RowKit Go.Maps

theorem Tryz.infoU8 : (Tryz.prog.info? 5).map (fun i => (i.zero, i.size, i.bytes)) = some (some (.int .u8 0), 1, 1) := by kernel_rfl
def bsV (l : Thk.Bs) : List Value := l.map fun b => .int .u8 (b.toNat : Int)
theorem bsV_app (l m : Thk.Bs) : bsV (l ++ m) = bsV l ++ bsV m := by simp [bsV]
def OutV (B : Nat) (w : World) (v : Value) (l : Thk.Bs) : Prop := w.ownsRow B 5 1 v l.length (bsV l)
def U8 (w : World) (k : Nat) : Prop := ∃ cs fz, w.heap[k]? = some (.cells cs 5 fz)
def OutF (B : Nat) (w w' : World) : Prop := Chg (fun k => B ≤ k ∧ U8 w k) w w'
theorem OutF.refl (B : Nat) (w : World) : OutF B w w := Chg.refl _ w
theorem OutF.trans {B : Nat} {a b c : World} (h : OutF B a b) (k : OutF B b c) : OutF B a c := by
  have hs := h.size
  refine ⟨k.os.trans h.os, k.tape.trans h.tape, k.output.trans h.output, Nat.le_trans hs k.size, fun i hi hm => ?_⟩
  have e := h.block i hi hm
  refine (k.block i (Nat.lt_of_lt_of_le hi hs) (fun hk => ?_)).trans e
  obtain ⟨h1, cs, fz, h2⟩ := hk
  exact hm ⟨h1, cs, fz, e ▸ h2⟩
theorem OutF.of_below {B : Nat} {w w' : World} (hb : Below w.heap.size w w') : OutF B w w' := Chg.of_below hb
theorem OutF.app {B : Nat} {w w' : World} {o : Obj} {v : Value} {l : Thk.Bs} (h : OutV B w v l) (hg : (w.alloc o).grownBy w' v.ownBlock) : OutF B w w' := by
  refine (Chg.of_below ((Below.refl _ w).alloc (Nat.le_refl _) o) : Chg (fun k => B ≤ k ∧ U8 w k) w (w.alloc o)).grown hg (fun k e => Or.inl ?_)
  rcases h.2 with ⟨rfl, _⟩ | ⟨g, cap, cur, rfl, hB, hg, _⟩
  · cases e
  · cases e; exact ⟨hB, cur, _, hg⟩
theorem OutF.app0 {B : Nat} {w w' : World} {v : Value} {l : Thk.Bs} (h : OutV B w v l) (hg : w.grownBy w' v.ownBlock) : OutF B w w' := by
  refine (Chg.refl _ w).grown hg (fun k e => Or.inl ?_)
  rcases h.2 with ⟨rfl, _⟩ | ⟨g, cap, cur, rfl, hB, hg, _⟩
  · cases e
  · cases e; exact ⟨hB, cur, _, hg⟩
theorem OutF.blk {B : Nat} {w w' : World} {b : Nat} {cs : Array Value} {t : TypeId} (h : OutF B w w') (k : Blk w b cs t) (ht : t ≠ 5) : Blk w' b cs t := by
  refine k.chg h (fun hm => ?_)
  obtain ⟨_, cs', fz, h2⟩ := hm
  rw [show w.heap[b]? = _ from k] at h2
  cases h2
  exact ht rfl
theorem OutF.below {B : Nat} {w w' : World} (h : OutF B w w') (hB : B ≤ w.heap.size) : Below B w w' := ⟨h.os, h.tape, h.output, h.size, fun k hk => h.block k (by omega) (fun hm => by have := hm.1; omega)⟩
theorem OutV.heap {B : Nat} {w w' : World} {v : Value} {l : Thk.Bs} (h : OutV B w v l) (e : w'.heap = w.heap) : OutV B w' v l := by
  unfold OutV World.ownsRow at h ⊢
  rw [e]
  exact h
theorem OutF.heap {B : Nat} {w w' : World} (hx : w'.heap = w.heap) (ho : w'.os = w.os) (ht : w'.tape = w.tape) (hp : w'.output = w.output) : OutF B w w' :=
  ⟨ho, ht, hp, by rw [hx]; exact Nat.le_refl _, fun k _ _ => by rw [hx]⟩
theorem OutV.nil (B : Nat) (w : World) : OutV B w (.slice none 0 0) [] := World.ownsRow_nil _ _ _ _

set_option maxHeartbeats 4000000 in
set_option maxRecDepth 100000 in
theorem Number_any (B : Nat) (w : World) (v : Value) (l : Thk.Bs) (n : Nat) (h : OutV B w v l) (hB : B ≤ w.heap.size) (hl : l.length ≤ 1000000) (hn : n < 16384) :
    Calls Tryz.prog 199 #[v, .int .i64 (n : Int)] w fun e w' => ∃ v', e = .returned v' ∧ OutV B w' v' (l ++ encN n) ∧ OutF B w w' := by
  obtain ⟨i0, hi, hz0, hz1, hz2⟩ := info_parts Tryz.infoU8
  have H : Hid (OutV B w v l) := h
  have h63 : l.length + 1 ≤ maxLen := by unfold maxLen; omega
  have h64 : (l.length + 1) * 1 ≤ 140737488355328 := by omega
  by_cases hs : n < 128
  · have hconv : IntKind.u8.wrap (n : Int) = n := wrap_u8 n (by omega)
    have hgt : ((n : Int) > 127) = False := by simp; omega
    have He : Hid (bsV (l ++ encN n) = bsV l ++ [.int .u8 (n : Int)]) := by
      unfold Hid
      rw [encN_one hs, bsV_app]
      simp [bsV, UInt8.toNat_ofNat']
      omega
    clear h
    go_enter Tryz.func199, Tryz.ntmps199
    go_wp2_with fail
    go_loopg [0, 1] 0 (fun g v0 v1 wx => v0 = v ∧ v1 = .int .i64 (n : Int) ∧ wx = w)
    case atStart => exact ⟨rfl, rfl, rfl⟩
    case round =>
      obtain ⟨rfl, rfl, rfl⟩ := hrel
      go_wp2_with (first | (at_builtin; refine wpList_append_own_at _ rfl (.tmp 16) (.tmp 19) 88 rfl B 5 i0 (.int .u8 0) 1 1 Tryz.underlying88 hi hz0 hz1 hz2 rfl (by decide) _ _ _ rfl (H.out.alloc _) ⟨wr.heap.size, 0, none⟩ 1 1 [.int .u8 (n : Int)] rfl rfl (cell_one_new _ _ _) (by intro u hu; simp at hu; subst hu; rfl) h63 h64 (by simp; omega) ?_; intro v6 w6 ho6 hg6 hn6 hl6))
      go_ret
      refine ⟨_, rfl, ?_, OutF.app H.out hg6⟩
      unfold OutV
      rw [He.out, List.length_append, encN_one hs]
      exact ho6
  · have hb0 : n % 128 + 128 < 256 := by omega
    obtain ⟨q, hq⟩ : ∃ q, n / 128 = q := ⟨_, rfl⟩
    obtain ⟨r, hr⟩ : ∃ r, n % 128 + 128 = r := ⟨_, rfl⟩
    have hlow : bits .and .i64 (n : Int) 127 = (n : Int) % 128 := by rw [low_i64 n (by omega)]; omega
    have hmore : bits .or .i64 ((n : Int) % 128) 128 = (r : Int) := by
      have := more_i64 (n % 128) (by omega)
      rw [← hr, ← this]
      congr 1
    have hcv0 : (r : Int) % 256 = r := by omega
    have hcv1 : (q : Int) % 256 = q := by omega
    have hdiv : (n : Int) / 128 = (q : Int) := by omega
    have hgt : (n : Int) > 127 := by omega
    have hd128 : q < 128 := by omega
    have He1 : Hid (bsV (l ++ [UInt8.ofNat r]) = bsV l ++ [.int .u8 (r : Int)]) := by
      unfold Hid
      rw [bsV_app]
      simp [bsV, UInt8.toNat_ofNat']
      omega
    have He2 : Hid (bsV (l ++ encN n) = bsV (l ++ [UInt8.ofNat r]) ++ [.int .u8 (q : Int)]) := by
      unfold Hid
      rw [encN_two hs, hr, hq, bsV_app, bsV_app, List.append_assoc]
      simp [bsV, UInt8.toNat_ofNat']
      omega
    have h65 : l.length + 1 + 1 ≤ maxLen := by unfold maxLen; omega
    have h66 : (l.length + 1 + 1) * 1 ≤ 140737488355328 := by omega
    clear hq hr hb0
    clear h
    go_enter Tryz.func199, Tryz.ntmps199
    go_wp2_with fail
    go_loopg [0, 1] 1 (fun g v0 v1 wx => (g = 1 ∧ v0 = v ∧ v1 = .int .i64 (n : Int) ∧ wx = w) ∨ (g = 0 ∧ v1 = .int .i64 (q : Int) ∧ wx.ownsRow B 5 1 v0 (l.length + 1) (bsV (l ++ [UInt8.ofNat r])) ∧ OutF B w wx))
    case atStart => exact Or.inl ⟨rfl, rfl, rfl, rfl⟩
    case round =>
      rcases hrel with ⟨hg, rfl, rfl, rfl⟩ | ⟨hg, rfl, hown, hF⟩
      · go_wp2_with (first | (at_builtin; refine wpList_append_own_at _ rfl (.tmp 7) (.tmp 12) 88 rfl B 5 i0 (.int .u8 0) 1 1 Tryz.underlying88 hi hz0 hz1 hz2 rfl (by decide) _ _ _ rfl (H.out.alloc _) ⟨wr.heap.size, 0, none⟩ 1 1 [.int .u8 (r : Int)] rfl rfl (cell_one_new _ _ _) (by intro u hu; simp at hu; subst hu; rfl) h63 h64 (by simp; omega) ?_; intro v6 w6 ho6 hg6 hn6 hl6; have HF6 := OutF.app H.out hg6; clear hg6 hl6))
        go_roundg 0
        case measure => omega
        case rel => exact Or.inr ⟨rfl, rfl, by rw [He1.out]; exact ho6, HF6⟩
      · have HF : Hid (OutF B w wr) := hF
        have HV : Hid (OutV B wr u0 (l ++ [UInt8.ofNat r])) := by unfold Hid OutV; rw [List.length_append]; exact hown
        have hBr : B ≤ wr.heap.size := Nat.le_trans hB hF.size
        have hgt2 : ¬ ((q : Int) > 127) := by omega
        have HO : Hid (∀ o, (wr.alloc o).ownsRow B 5 1 u0 (l.length + 1) (bsV (l ++ [UInt8.ofNat r]))) := fun o => hown.alloc o
        clear hF hown
        go_wp2_with (first | (at_builtin; refine wpList_append_own_at _ rfl (.tmp 16) (.tmp 19) 88 rfl B 5 i0 (.int .u8 0) 1 1 Tryz.underlying88 hi hz0 hz1 hz2 rfl (by decide) _ _ _ rfl (HO.out _) ⟨wr.heap.size, 0, none⟩ 1 1 [.int .u8 (q : Int)] rfl rfl (cell_one_new _ _ _) (by intro u hu; simp at hu; subst hu; rfl) h65 h66 (by simp; omega) ?_; intro v6 w6 ho6 hg6 hn6 hl6; have HF6 := OutF.app HV.out hg6; clear hg6 hl6))
        go_ret
        refine ⟨_, rfl, ?_, HF.out.trans HF6⟩
        unfold OutV
        rw [He2.out, List.length_append, encN_two hs]
        exact ho6

theorem strCells_bsV (s : ByteArray) : Lib.strCells s = bsV (toL s) := by
  unfold Lib.strCells bsV toL
  rfl

end Go.Proofs.YtoiiaankpnhppaaGreatDoor
namespace Go.Proofs.YtoiiaankpnhppaaGreatDoor
open Go.RowKit Go.Maps Go.WideMaps

abbrev runV (d m : Nat) : Value := .agg #[.int .i64 (who d : Int), .int .i64 (nth d : Int), .int .i64 (m : Int)]

set_option maxHeartbeats 1000000 in
set_option maxRecDepth 100000 in
theorem at_any (w : World) (d m k : Nat) (hk : nth d + k < 512) :
    Calls Tryz.prog 226 #[runV d m, .int .i64 (k : Int)] w fun e w' => e = .returned (dotE (d + k)) ∧ Below w.heap.size w w' := by
  unfold dotE runV
  rw [who_add hk, nth_add hk]
  generalize who d = a at *
  generalize nth d = n at *
  have hkr := Blk.new (w.alloc (.cells #[.int .i64 (a : Int), .int .i64 (n : Int), .int .i64 (m : Int)] 249)) #[.int .i64 0, .int .i64 0] 121
  rw [World.size_alloc] at hkr
  have r0 := (hkr.cell 0).trans rfl
  have r1 := (hkr.cell 1).trans rfl
  have f0 := hkr.frozen
  have hwr : wrap64 ((n : Int) + (k : Int)) = (n : Int) + (k : Int) := by unfold wrap64; omega
  clear hkr
  go_enter Tryz.func226, Tryz.ntmps226
  go_wp2_with fail
  refine bodyPost_ret (v := .agg #[.int .i64 (a : Int), .int .i64 ((n + k : Nat) : Int)]) (by simp [results, Tryz.results226, go_sem, r0, r1, hwr, cs_same, cs_oth, World.cell?_setCell_other]) rfl ⟨rfl, by go_grown⟩

set_option maxHeartbeats 4000000 in
set_option maxRecDepth 100000 in
theorem Dots_any (w : World) (d m : Nat) (hm : nth d + m ≤ 512) :
    Calls Tryz.prog 183 #[runV d m] w fun e w' => ∃ v, e = .returned v ∧ w'.ownsRow w.heap.size 121 2 v m (dcells (runD (d, m))) ∧ Below w.heap.size w w' := by
  obtain ⟨i0, hi, hz0, hz1, hz2⟩ := info_parts Tryz.infoDot
  have hnd := nth_lt d
  have kb := Blk.new w #[.int .i64 (who d : Int), .int .i64 (nth d : Int), .int .i64 (m : Int)] 249
  have hb0 : Below w.heap.size w (w.alloc (.cells #[.int .i64 (who d : Int), .int .i64 (nth d : Int), .int .i64 (m : Int)] 249)) := (Below.refl _ w).alloc (Nat.le_refl _) _
  go_enter Tryz.func183, Tryz.ntmps183
  generalize hw0 : w.alloc (.cells #[.int .i64 (who d : Int), .int .i64 (nth d : Int), .int .i64 (m : Int)] 249) = w0 at *
  have c2 : w0.cell? ⟨w.heap.size, 2, none⟩ = some (.int .i64 (m : Int)) := (kb.cell 2).trans rfl
  go_wp2_with fail
  go_loopg [3, 7] m (fun g v3 v7 wx => ∃ i : Nat, i + g = m ∧ v7 = .int .i64 (i : Int) ∧ wx.ownsRow w.heap.size 121 2 v3 i (dcells (runD (d, i))) ∧ Below w.heap.size w wx ∧ Blk wx w.heap.size #[.int .i64 (who d : Int), .int .i64 (nth d : Int), .int .i64 (m : Int)] 249)
  case atStart => exact ⟨0, by omega, rfl, World.ownsRow_nil _ _ _ _, hb0, kb⟩
  case round =>
    obtain ⟨i, hig, rfl, hown, hb, hk⟩ := hrel
    have HO : Hid (wr.ownsRow w.heap.size 121 2 u3 i (dcells (runD (d, i)))) := hown
    have HB : Hid (Below w.heap.size w wr) := hb
    have HK : Hid (Blk wr w.heap.size #[.int .i64 (who d : Int), .int .i64 (nth d : Int), .int .i64 (m : Int)] 249) := hk
    by_cases him : i < m
    · have k0 := (hk.cell 0).trans rfl
      have k1 := (hk.cell 1).trans rfl
      have k2 := (hk.cell 2).trans rfl
      have Hat : Hid (_) := at_any wr d m i (by omega)
      have HE : Hid (dcells (runD (d, i + 1)) = dcells (runD (d, i)) ++ [.int .i64 (who (d + i) : Int), .int .i64 (nth (d + i) : Int)]) := by unfold Hid; rw [runD_succ, dcells_snoc]
      clear hown hb hk kb hb0 c2
      generalize d + i = x at *
      go_wp2_with fail
      refine Calls.mono Hat.out ?_
      rintro e w1 ⟨rfl, hb1⟩
      have hB1 : Below w.heap.size w w1 := HB.out.trans (hb1.mono HB.out.size)
      have hO1 : w1.ownsRow w.heap.size 121 2 u3 i (dcells (runD (d, i))) := own_below HO.out hb1
      have hK1 := HK.out.below hb1
      have HO1 : Hid (∀ o, (w1.alloc o).ownsRow w.heap.size 121 2 u3 i (dcells (runD (d, i)))) := fun o => hO1.alloc o
      have HX : Hid (w1.ownsRow w.heap.size 121 2 u3 i (dcells (runD (d, i))) ∧ Below w.heap.size w w1 ∧ Blk w1 w.heap.size #[.int .i64 (who d : Int), .int .i64 (nth d : Int), .int .i64 (m : Int)] 249) := ⟨hO1, hB1, hK1⟩
      have hw1 : w.heap.size ≤ w1.heap.size := hB1.size
      have h63 : i + 1 ≤ maxLen := by unfold maxLen; omega
      have h64 : (i + 1) * 16 ≤ 140737488355328 := by omega
      have Hcn : Hid (∀ j u, ([.int .i64 (who x : Int), .int .i64 (nth x : Int)] : List Value)[j]? = some u → (w1.alloc (.cells #[.int .i64 (who x : Int), .int .i64 (nth x : Int)] 121)).cell? ((⟨w1.heap.size, 0, none⟩ : Addr).add j) = some u) := fun j u hj => by
        match j, hj with
        | 0, hj => cases hj; simp [Addr.add]
        | 1, hj => cases hj; simp [Addr.add]
      clear hO1 hB1 hK1 hb1 HO HB HK Hat k0 k1 k2
      go_wp2_with (first | (at_builtin; refine wpList_append_own_at _ rfl (.tmp 10) (.tmp 14) 124 rfl w.heap.size 121 i0 (.agg #[.int .i64 0, .int .i64 0]) 2 16 Tryz.underlying124 hi hz0 hz1 hz2 rfl (by decide) _ _ _ rfl (HO1.out _) ⟨w1.heap.size, 0, none⟩ 1 1 [.int .i64 (who x : Int), .int .i64 (nth x : Int)] rfl rfl Hcn.out (by simp [Value.oneCell']) h63 h64 (by simp; omega) ?_; intro v6 w6 ho6 hg6 hn6 hl6))
      have hb6 : Below w.heap.size w w6 := grown_below HX.out.2.1 (Nat.le_refl _) HX.out.1 hg6
      have hk6 : Blk w6 w.heap.size #[.int .i64 (who d : Int), .int .i64 (nth d : Int), .int .i64 (m : Int)] 249 := by
        refine ((HX.out.2.2.alloc _).chg (M := fun k => u3.ownBlock = some k) ((Chg.refl _ _).grown hg6 (fun k e => Or.inl e)) (fun e => ?_))
        exact ownsRow_ne HX.out.1 (fun cur fz h => by rw [show w1.heap[w.heap.size]? = _ from HX.out.2.2] at h; cases h) e
      go_roundg (m - (i + 1))
      case measure => omega
      case rel => exact ⟨i + 1, by omega, by go_num, by rw [HE.out]; exact ho6, hb6, hk6⟩
    · clear hown hb hk kb hb0 c2
      have e : i = m := by omega
      subst e
      go_wp2_with fail
      go_ret
      exact ⟨_, rfl, HO.out, HB.out⟩
end Go.Proofs.YtoiiaankpnhppaaGreatDoor

