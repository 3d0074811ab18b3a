import Derived.Deep.RegionHeld3
import Derived.Test.YtoiiaankpnhppaaGreatDoorPart20
import Derived.Test.YtoiiaankpnhppaaGreatDoorPart21
import Derived.Test.YtoiiaankpnhppaaGreatDoorPart22
import Derived.Test.YtoiiaankpnhppaaGreatDoorPart38
set_option linter.unusedVariables false
set_option linter.unusedSimpArgs false
namespace Go.Proofs.YtoiiaankpnhppaaGreatDoor
open Go.RowKit
variable {F G : Stt}

set_option maxHeartbeats 1000000 in
theorem LawI.more (hP : ProgFrame F) (hQ : RefFrame G) {B N : Nat} {w w6 : World} {b : Nat} {rv : Value} {l : List PairD} (h : LawI F G B w b rv l) (hN : ∀ j (hj : j < l.length) k, l[j].foot k → k < N) (hBN : B ≤ N) {x : Nat} {S : Nat → Prop} {c : Nat} {R : Nat → Prop} {s : St}
    (hf : F w x S s) (hr : G w c R s) (hS : ∀ k, S k → N ≤ k) (hRk : ∀ k, R k → N ≤ k) {g cap : Nat}
    (ho : w6.ownsRow B 93 1 (.slice (some ⟨g, 0, none⟩) (l.length + 1) cap) (l.length + 1) (pbs l ++ [.pointer (some ⟨w.heap.size, 0, none⟩)]))
    (hg : ((w.alloc (.cells #[.pointer (some ⟨x, 0, none⟩), .pointer (some ⟨c, 0, none⟩)] 141)).alloc (.cells #[.pointer (some ⟨w.heap.size, 0, none⟩)] 93)).grownBy w6 rv.ownBlock) :
    LawI F G B (w6.setCell ⟨b, 0, none⟩ (.slice (some ⟨g, 0, none⟩) (l.length + 1) cap)) b (.slice (some ⟨g, 0, none⟩) (l.length + 1) cap) (l ++ [⟨w.heap.size, x, S, c, R, s⟩]) ∧ Below B w (w6.setCell ⟨b, 0, none⟩ (.slice (some ⟨g, 0, none⟩) (l.length + 1) cap)) := by
  obtain ⟨wa, hwa⟩ : ∃ wa, wa = (w.alloc (.cells #[.pointer (some ⟨x, 0, none⟩), .pointer (some ⟨c, 0, none⟩)] 141)).alloc (.cells #[.pointer (some ⟨w.heap.size, 0, none⟩)] 93) := ⟨_, rfl⟩
  have hba : Below w.heap.size w wa := by rw [hwa]; exact ((Below.refl _ w).alloc (Nat.le_refl _) _).alloc (by simp) _
  have hpa : Blk wa w.heap.size #[.pointer (some ⟨x, 0, none⟩), .pointer (some ⟨c, 0, none⟩)] 141 := by rw [hwa]; exact (Blk.new w _ _).alloc _
  rw [← hwa] at hg
  clear hwa
  have ha := h.below hP hQ hba
  have hda : PairD.At F G wa ⟨w.heap.size, x, S, c, R, s⟩ :=
    ⟨⟨_, hpa⟩, (hpa.cell 0).trans rfl, (hpa.cell 1).trans rfl, hP.below hf hba, hQ.below hr hba⟩
  have hcM : Chg (fun k => rv.ownBlock = some k ∨ k = b) wa (w6.setCell ⟨b, 0, none⟩ (.slice (some ⟨g, 0, none⟩) (l.length + 1) cap)) :=
    Chg.setCell (p := ⟨b, 0, none⟩) ((Chg.refl (fun k => rv.ownBlock = some k ∨ k = b) wa).grown hg (fun k hk => Or.inl (Or.inl hk))) (Or.inr rfl) _
  have hM : ∀ k, (rv.ownBlock = some k ∨ k = b) → k < wa.heap.size → Tagged wa k 54 ∨ Tagged wa k 93 := by
    rintro k (hk | rfl) _
    · exact Or.inr (ha.rowTag k hk)
    · exact Or.inl ⟨_, ha.blk⟩
  have hMB : ∀ k, (rv.ownBlock = some k ∨ k = b) → B ≤ k := by
    rintro k (hk | rfl)
    · exact (ha.row.lt k hk).1
    · exact h.bB
  have hbr : rv.ownBlock ≠ some b := fun e => Tagged.ne (ha.rowTag b e) ⟨_, ha.blk⟩ (by decide) rfl
  have hb6 : Blk w6 b #[rv, .bool false] 54 := (hg.block b ha.blk.lt (Ne.symm hbr)).trans ha.blk
  have hgb : g ≠ b := fun e => by
    subst e
    obtain ⟨_, ⟨h1, _⟩ | ⟨g', cp, cur, hv, _, hh, _⟩⟩ := ho
    · cases h1
    · simp only [Value.slice.injEq, Option.some.injEq, Addr.mk.injEq, true_and, and_true] at hv
      obtain ⟨rfl, rfl⟩ := hv
      exact absurd (blk_types hb6 hh).2 (by decide)
  have hlen : (l ++ [(⟨w.heap.size, x, S, c, R, s⟩ : PairD)]).length = l.length + 1 := by simp
  have hget : ∀ j (hj : j < l.length), (l ++ [(⟨w.heap.size, x, S, c, R, s⟩ : PairD)])[j]'(by rw [hlen]; omega) = l[j] := fun j hj => List.getElem_append_left hj
  have hlast : ∀ j (hj : j < (l ++ [(⟨w.heap.size, x, S, c, R, s⟩ : PairD)]).length), ¬ j < l.length → (l ++ [(⟨w.heap.size, x, S, c, R, s⟩ : PairD)])[j] = ⟨w.heap.size, x, S, c, R, s⟩ := fun j hj hn => by
    rw [List.getElem_append_right (by omega)]
    have : j - l.length = 0 := by rw [hlen] at hj; omega
    simp [this]
  have hfoot : ∀ k, PairD.foot ⟨w.heap.size, x, S, c, R, s⟩ k → N ≤ k := by
    rintro k (hk | hk)
    · exact hS k hk
    · exact hRk k hk
  refine ⟨⟨(h.glob.mono hba).chg4 hcM (fun k hk => Nat.le_trans h.b4 (hMB k hk)), h.b4, h.bB, ?_, ?_, fun j hj => ?_, fun j hj k hk => ?_, fun i j hi hj hij k hk => ?_⟩, ?_⟩
  · unfold Blk at hb6 ⊢
    simp [World.setCell, Array.getElem?_modify, hb6]
  · rw [hlen]
    have e : pbs (l ++ [(⟨w.heap.size, x, S, c, R, s⟩ : PairD)]) = pbs l ++ [.pointer (some ⟨w.heap.size, 0, none⟩)] := by simp [pbs]
    rw [e]
    exact ownsRow_setCell_other ho (a := ⟨b, 0, none⟩) (fun e => hgb (by simpa [Value.ownBlock] using e)) _
  · by_cases hlt : j < l.length
    · rw [hget j hlt]; exact (ha.pair j hlt).law hP hQ hcM hM
    · rw [hlast j hj hlt]; exact hda.law hP hQ hcM hM
  · by_cases hlt : j < l.length
    · rw [hget j hlt] at hk; exact h.foot j hlt k hk
    · rw [hlast j hj hlt] at hk; exact Nat.le_trans hBN (hfoot k hk)
  · by_cases hli : i < l.length
    · rw [hget i hli] at hk
      by_cases hlj : j < l.length
      · rw [hget j hlj]; exact h.apart i j hli hlj hij k hk
      · rw [hlast j hj hlj]; intro hm; have := hfoot k hm; have := hN i hli k hk; omega
    · rw [hlast i hi hli] at hk
      by_cases hlj : j < l.length
      · rw [hget j hlj]; intro hm; have := hfoot k hk; have := hN j hlj k hm; omega
      · rw [hlen] at hi hj; omega
  · have hBw : B ≤ w.heap.size := Nat.le_trans h.bB (Nat.le_of_lt h.blk.lt)
    exact (hba.mono hBw).trans ⟨hcM.os, hcM.tape, hcM.output, hcM.size, fun k hk => hcM.block k (by have := hba.size; omega) (fun hm => by have := hMB k hm; omega)⟩
end Go.Proofs.YtoiiaankpnhppaaGreatDoor
namespace Go.Proofs.YtoiiaankpnhppaaGreatDoor
open Go.RowKit
variable {F G : Stt}
structure RefNew (G : Stt) : Prop where
  good : ∀ (r room : Nat) (w : World), 1 ≤ r → r ≤ 6 → room ≤ 50 → Calls Tryz.prog 81 #[.int .i64 (r : Int), .int .i64 (room : Int)] w fun e w' => ∃ c R, e = .returned (.pointer (some ⟨c, 0, none⟩)) ∧ G w' c R ⟨[], List.replicate r [], []⟩ ∧ (∀ k, R k → w.heap.size ≤ k) ∧ Below w.heap.size w w'

theorem Tryz.infoPP : (Tryz.prog.info? 93).map (fun i => (i.zero, i.size, i.bytes)) = some (some (.pointer none), 1, 8) := by kernel_rfl

set_option maxHeartbeats 4000000 in
set_option maxRecDepth 100000 in
theorem made_any (hF : ProgOK F) (hV : RefNew G) (hP : ProgFrame F) (hQ : RefFrame G) (c B : Nat) (w : World) (b : Nat) (o : StepD) (ho : o.ok) (hcc : c < 1099511627776) (hJ : LawJ F G c B w b) :
    Calls Tryz.prog 46 #[.pointer (some ⟨b, 0, none⟩), o.val] w fun e w' => e = .returned (.bool true) ∧ LawJ F G (c + 1) B w' b ∧ Below B w w' := by
  obtain ⟨rv, l, hl, hI⟩ := hJ
  have HP : Hid (ProgFrame F) := hP
  have HQ : Hid (RefFrame G) := hQ
  have HVG : Hid (∀ (r room : Nat) (w : World), 1 ≤ r → r ≤ 6 → room ≤ 50 → _) := hV.good
  obtain ⟨iR, hiR, hzR0, hzR1, hzR2⟩ := info_parts Tryz.infoPP
  obtain ⟨k, a, n, m, s⟩ := o
  unfold StepD.val
  simp only at *
  have hb1 : Below w.heap.size w (w.alloc (.cells #[.int .i64 k, .int .i64 a, .int .i64 n, .int .i64 m, .string s] 56)) := (Below.refl _ w).alloc (Nat.le_refl _) _
  have hblk1 : Blk (w.alloc (.cells #[.int .i64 k, .int .i64 a, .int .i64 n, .int .i64 m, .string s] 56)) w.heap.size #[.int .i64 k, .int .i64 a, .int .i64 n, .int .i64 m, .string s] 56 := Blk.new w _ _
  have HN : Hid (∀ j (hj : j < l.length) i, l[j].foot i → i < w.heap.size) := fun j hj i hi => foot_lt hP hQ (hI.pair j hj) hi
  have hBw : B ≤ w.heap.size := Nat.le_trans hI.bB (Nat.le_of_lt hI.blk.lt)
  by_cases hbad : n < 1 ∨ 6 < n ∨ m < 0 ∨ 50 < m
  · have Hc : Hid (_) := hF.bad _ n m (hI.glob.mono hb1) hbad
    have HJ : Hid (∀ w', Below w.heap.size w w' → LawJ F G (c + 1) B w' b ∧ Below B w w') := fun w' hb => ⟨⟨rv, l, by omega, hI.below hP hQ hb⟩, hb.mono hBw⟩
    have Hb1 : Hid (_) := hb1
    have Hk1 : Hid (Blk (w.alloc (.cells #[.int .i64 k, .int .i64 a, .int .i64 n, .int .i64 m, .string s] 56)) w.heap.size #[.int .i64 k, .int .i64 a, .int .i64 n, .int .i64 m, .string s] 56) := hblk1
    clear hI ho hb1 hblk1 HN hF hV hP hQ HVG
    go_enter Tryz.func46, Tryz.ntmps46
    go_wp2_with fail
    refine Calls.mono Hc.out ?_
    rintro e w2 ⟨rfl, hb2⟩
    have q2 : w2.cell? ⟨w.heap.size, 2, none⟩ = some (.int .i64 n) := ((Hk1.out.below hb2).cell 2).trans rfl
    have q3 : w2.cell? ⟨w.heap.size, 3, none⟩ = some (.int .i64 m) := ((Hk1.out.below hb2).cell 3).trans rfl
    have HB2 : Hid (Below w.heap.size w w2) := Hb1.out.trans (hb2.mono Hb1.out.size)
    clear hb2 Hc Hb1 Hk1
    go_wp2_with fail
    refine Calls.mono (Fresh_bad n m w2 hbad) ?_
    rintro e w3 ⟨rfl, rfl⟩
    go_wp2_with (first | (go_at_call 82; refine (num_any _ _).mono ?_; rintro e w5 ⟨rfl, rfl⟩))
    go_ret
    exact ⟨rfl, HJ.out _ HB2.out⟩
  · obtain ⟨r, rfl⟩ := Int.eq_ofNat_of_zero_le (show 0 ≤ n by omega)
    obtain ⟨room, rfl⟩ := Int.eq_ofNat_of_zero_le (show 0 ≤ m by omega)
    have h1 : 1 ≤ r := by omega
    have h6 : r ≤ 6 := by omega
    have h50 : room ≤ 50 := by omega
    have Hc : Hid (_) := hF.good _ r room (hI.glob.mono hb1) h1 h6 h50
    have Hb1 : Hid (_) := hb1
    have Hk1 : Hid (Blk (w.alloc (.cells #[.int .i64 k, .int .i64 a, .int .i64 (r : Int), .int .i64 (room : Int), .string s] 56)) w.heap.size #[.int .i64 k, .int .i64 a, .int .i64 (r : Int), .int .i64 (room : Int), .string s] 56) := hblk1
    have HI : Hid (LawI F G B w b rv l) := hI
    have m1 : Hid (l.length + 1 ≤ maxLen) := by unfold Hid maxLen; omega
    have m2 : Hid ((l.length + 1) * 8 ≤ 140737488355328) := by unfold Hid; omega
    clear hI ho hb1 hblk1 hbad hF hV hP hQ
    go_enter Tryz.func46, Tryz.ntmps46
    go_wp2_with fail
    refine Calls.mono Hc.out ?_
    rintro e w2 ⟨x, S, rfl, hf, hS, hb2⟩
    have q2 : w2.cell? ⟨w.heap.size, 2, none⟩ = some (.int .i64 (r : Int)) := ((Hk1.out.below hb2).cell 2).trans rfl
    have q3 : w2.cell? ⟨w.heap.size, 3, none⟩ = some (.int .i64 (room : Int)) := ((Hk1.out.below hb2).cell 3).trans rfl
    have HB2 : Hid (Below w.heap.size w w2) := Hb1.out.trans (hb2.mono Hb1.out.size)
    have HF2 : Hid (F w2 x S ⟨[], List.replicate r [], []⟩) := hf
    have HS2 : Hid (∀ k, S k → w.heap.size ≤ k) := fun k hk => Nat.le_trans Hb1.out.size (hS k hk)
    clear hb2 Hc Hb1 Hk1 hf hS
    go_wp2_with fail
    refine Calls.mono (HVG.out r room w2 h1 h6 h50) ?_
    rintro e w3 ⟨cb, R, rfl, hr, hRb, hb3⟩
    have HB3 : Hid (Below w.heap.size w w3) := HB2.out.trans (hb3.mono HB2.out.size)
    have HF3 : Hid (F w3 x S ⟨[], List.replicate r [], []⟩) := HP.out.below HF2.out hb3
    have HR3 : Hid (_) := hr
    have Hrb : Hid (∀ k, R k → w.heap.size ≤ k) := fun k hk => Nat.le_trans HB2.out.size (hRb k hk)
    have HI3 : Hid (LawI F G B w3 b rv l) := HI.out.below HP.out HQ.out HB3.out
    have hbl : b < w3.heap.size := HI3.out.blk.lt
    have p0 : w3.cell? ⟨b, 0, none⟩ = some rv := (HI3.out.blk.cell 0).trans rfl
    have hB3 : B ≤ w3.heap.size := Nat.le_trans hBw HB3.out.size
    have HE : Hid (∀ o o', Blk ((w3.alloc o).alloc o') b #[rv, .bool false] 54) := fun o o' => (HI3.out.blk.alloc o).alloc o'
    have hne : Hid (rv.ownBlock ≠ some b) := fun e => Tagged.ne (HI3.out.rowTag b e) ⟨_, HI3.out.blk⟩ (by decide) rfl
    clear HB2 HF2 hr hb3 hRb q2 q3 HI
    go_wp2_with (first | (go_at_call 82; refine (num_any _ _).mono ?_; rintro e w5 ⟨rfl, rfl⟩) | (at_builtin; refine wpList_append_own _ rfl (.tmp 41) (.tmp 46) 52 rfl B 93 iR (.pointer none) 1 8 Tryz.underlying52 hiR hzR0 hzR1 hzR2 rfl (by decide) rv l.length (pbs l) rfl ((HI3.out.row.alloc _).alloc _) ⟨w5.heap.size + 1, 0, none⟩ 1 1 [.pointer (some ⟨w5.heap.size, 0, none⟩)] rfl rfl ?_ ?_ m1.out m2.out ?_ ?_; (intro j u hj; match j, hj with | 0, hj => (cases hj; simp [Addr.add])); (intro u hu; simp at hu; subst hu; rfl); (simp; omega); intro v6 w6 ho6 hg6 _; obtain ⟨g6, c6, rfl⟩ := own_some ho6 (Nat.succ_pos _); have k1 : w6.cell? ⟨b, 0, none⟩ = some rv := hg6.cell (((HE.out _ _).cell 0).trans rfl) (Ne.symm hne.out); have kf : w6.frozen? ⟨b, 0, none⟩ = false := Blk.frozen (cs := #[rv, .bool false]) (t := 54) ((hg6.block _ (HE.out _ _).lt (Ne.symm hne.out)).trans (HE.out _ _)) 0))
    go_ret
    obtain ⟨hL, hBe⟩ := HI3.out.more HP.out HQ.out HN.out hBw HF3.out HR3.out HS2.out Hrb.out ho6 hg6
    exact ⟨rfl, ⟨_, _, by simp; omega, hL⟩, (HB3.out.mono hBw).trans hBe⟩
end Go.Proofs.YtoiiaankpnhppaaGreatDoor
namespace Go.Proofs.YtoiiaankpnhppaaGreatDoor
open Go.RowKit
variable {F G : Stt}

set_option maxHeartbeats 400000 in
theorem pick_det (c : Int) (n : Nat) (h0 : -9223372036854775808 ≤ c) (h1 : c ≤ 9223372036854775807) (hn : 1 ≤ n) (hn2 : n ≤ 9223372036854775807) :
    ∃ j : Nat, j < n ∧ ∀ w : World, Calls Tryz.prog 47 #[.int .i64 c, .int .i64 (n : Int)] w fun r w' => r = .returned (.int .i64 (j : Int)) ∧ w' = w := by
  by_cases hc : c < 0
  · have e1 : IntKind.i64.wrap (c + 1) = c + 1 := wrap_in _ (by omega) (by omega)
    have e2 : IntKind.i64.wrap (-(c + 1)) = -(c + 1) := wrap_in _ (by omega) (by omega)
    obtain ⟨d, hd⟩ : ∃ d : Nat, -(c + 1) = (d : Int) := ⟨(-(c + 1)).toNat, by omega⟩
    have hnz : ((n : Int) == 0) = false := beq_eq_false_iff_ne.2 (by omega)
    have hnz' : ¬ n = 0 := by omega
    have e3 : (d : Int).tmod (n : Int) = ((d % n : Nat) : Int) := rfl
    have e4 : IntKind.i64.wrap ((d % n : Nat) : Int) = ((d % n : Nat) : Int) := wrap_in _ (by omega) (by have := Nat.mod_lt d (show n > 0 by omega); omega)
    refine ⟨d % n, Nat.mod_lt _ (by omega), fun w => ?_⟩
    go_enter Tryz.func47, Tryz.ntmps47
    go_wp2
    go_ret
    exact ⟨by first | rfl | (rw [Int.natCast_emod]; (first | done | rfl)), rfl⟩
  · obtain ⟨d, rfl⟩ : ∃ d : Nat, c = (d : Int) := ⟨c.toNat, by omega⟩
    have hnz : ((n : Int) == 0) = false := beq_eq_false_iff_ne.2 (by omega)
    have hnz' : ¬ n = 0 := by omega
    have e3 : (d : Int).tmod (n : Int) = ((d % n : Nat) : Int) := rfl
    have e4 : IntKind.i64.wrap ((d % n : Nat) : Int) = ((d % n : Nat) : Int) := wrap_in _ (by omega) (by have := Nat.mod_lt d (show n > 0 by omega); omega)
    refine ⟨d % n, Nat.mod_lt _ (by omega), fun w => ?_⟩
    go_enter Tryz.func47, Tryz.ntmps47
    go_wp2
    go_ret
    exact ⟨by first | rfl | (rw [Int.natCast_emod]; (first | done | rfl)), rfl⟩

set_option maxHeartbeats 4000000 in
set_option maxRecDepth 100000 in
theorem step_any (hF : ProgOK F) (hR : RefOK G) (hV : RefNew G) (hP : ProgFrame F) (hQ : RefFrame G) (c B : Nat) (w : World) (b : Nat) (o : StepD) (ho : o.ok) (hk4 : o.kind ≤ 7) (hcc : c < 1099511627776) (hJ : LawJ F G c B w b) :
    Calls Tryz.prog 26 #[.pointer (some ⟨b, 0, none⟩), o.val] w fun e w' => e = .returned (.bool true) ∧ LawJ F G (c + 1) B w' b ∧ Below B w w' := by
  have hBw : B ≤ w.heap.size := by obtain ⟨rv, l, _, hI⟩ := hJ; exact Nat.le_trans hI.bB (Nat.le_of_lt hI.blk.lt)
  have hJb : ∀ wx, Below w.heap.size w wx → LawJ F G c B wx b := fun wx hb => by obtain ⟨rv, l, hl, hI⟩ := hJ; exact ⟨rv, l, hl, hI.below hP hQ hb⟩
  by_cases hk1 : o.kind = 1
  · have HM : Hid (∀ wx, Below w.heap.size w wx → Calls Tryz.prog 46 #[.pointer (some ⟨b, 0, none⟩), .agg #[.int .i64 o.kind, .int .i64 o.a, .int .i64 o.n, .int .i64 o.m, .string o.s]] wx fun e w' => e = .returned (.bool true) ∧ LawJ F G (c + 1) B w' b ∧ Below B w w') := fun wx hb => by
      refine Calls.mono (made_any hF hV hP hQ c B wx b o ho hcc (hJb wx hb)) ?_
      rintro e w' ⟨rfl, h1, h2⟩
      exact ⟨rfl, h1, (hb.mono hBw).trans h2⟩
    unfold StepD.val
    obtain ⟨k, a, n, m, s⟩ := o
    simp only at *
    subst hk1
    clear ho hJ hJb hk4 hF hR hV hP hQ
    go_enter Tryz.func26, Tryz.ntmps26
    go_wp2_with fail
    refine Calls.mono (HM.out _ ((Below.refl _ w).alloc (Nat.le_refl _) _)) ?_
    rintro e w2 ⟨rfl, h1, h2⟩
    have H : Hid (LawJ F G (c + 1) B w2 b ∧ Below B w w2) := ⟨h1, h2⟩
    clear HM h1 h2
    go_wp2
    go_ret
    exact ⟨rfl, H.out⟩
  · obtain ⟨rv, l, hl, hI⟩ := hJ
    by_cases hl0 : l.length = 0
    · have hrv : rv = .slice none 0 0 ∨ ∃ g cap, rv = .slice (some ⟨g, 0, none⟩) 0 cap := by
        obtain ⟨_, ⟨h1, _⟩ | ⟨g, cap, cur, h1, _⟩⟩ := hI.row
        · exact Or.inl h1
        · rw [hl0] at h1; exact Or.inr ⟨g, cap, h1⟩
      have HJ : Hid (∀ wx, Below w.heap.size w wx → LawJ F G (c + 1) B wx b ∧ Below B w wx) := fun wx hb => ⟨⟨rv, l, by omega, hI.below hP hQ hb⟩, hb.mono hBw⟩
      have hbl := hI.blk.lt
      have p0 : ∀ ob, (w.alloc ob).cell? ⟨b, 0, none⟩ = some rv := fun ob => ((hI.blk.alloc ob).cell 0).trans rfl
      unfold StepD.val
      obtain ⟨k, a, n, m, s⟩ := o
      simp only at *
      have kk : (k == 1) = false := beq_eq_false_iff_ne.2 hk1
      have hb1 : Hid (∀ ob, Below w.heap.size w (w.alloc ob)) := fun ob => (Below.refl _ w).alloc (Nat.le_refl _) ob
      clear ho hJb hk4 hI hF hR hV hP hQ
      rcases hrv with rfl | ⟨g, cap, rfl⟩
      · go_enter Tryz.func26, Tryz.ntmps26
        go_wp2
        go_ret
        exact ⟨rfl, HJ.out _ (hb1.out _)⟩
      · go_enter Tryz.func26, Tryz.ntmps26
        go_wp2
        go_ret
        exact ⟨rfl, HJ.out _ (hb1.out _)⟩
    · obtain ⟨g, cap, rfl⟩ := own_some hI.row (by omega)
      obtain ⟨j, hj, hpick⟩ := pick_det o.a l.length ho.2.1.1 ho.2.1.2 (by omega) (by omega)
      have HPk : Hid (_) := hpick
      have hS4 : (∀ i, l[j].S i → 4 ≤ i) ∧ (∀ i, l[j].R i → 4 ≤ i) := ⟨fun i hi => Nat.le_trans hI.b4 (hI.foot j hj i (Or.inl hi)), fun i hi => Nat.le_trans hI.b4 (hI.foot j hj i (Or.inr hi))⟩
      have HT : Hid (∀ wx, Below w.heap.size w wx → (o.kind = 3 ∨ o.kind = 4) → Calls Tryz.prog 48 #[.pointer (some ⟨l[j].pb, 0, none⟩), .agg #[.int .i64 o.kind, .int .i64 o.a, .int .i64 o.n, .int .i64 o.m, .string o.s]] wx fun e w' => e = .returned (.bool true) ∧ LawJ F G (c + 1) B w' b ∧ Below B w w') := fun wx hb hk => by
        have hIx := hI.below hP hQ hb
        rcases hk with hk | hk
        · refine Calls.mono (tells_ask hF hR hP hQ wx hIx.glob _ _ _ _ _ _ (hIx.pair j hj) hS4 o ho hk) ?_
          rintro e w' ⟨rfl, h2⟩
          obtain ⟨h3, h4⟩ := hIx.told hP hQ (show l.length ≤ c + 1 by omega) j hj h2
          exact ⟨rfl, h3, (hb.mono hBw).trans h4⟩
        · refine Calls.mono (tells_knows hF hR hP hQ wx hIx.glob _ _ _ _ _ _ (hIx.pair j hj) hS4 o ho hk) ?_
          rintro e w' ⟨rfl, h2⟩
          obtain ⟨h3, h4⟩ := hIx.told hP hQ (show l.length ≤ c + 1 by omega) j hj h2
          exact ⟨rfl, h3, (hb.mono hBw).trans h4⟩
      have HU : Hid (∀ wx, Below w.heap.size w wx → (o.kind = 2 ∨ o.kind ≤ 0) → Calls Tryz.prog 52 #[.pointer (some ⟨l[j].pb, 0, none⟩), .agg #[.int .i64 o.kind, .int .i64 o.a, .int .i64 o.n, .int .i64 o.m, .string o.s]] wx fun e w' => e = .returned (.bool true) ∧ LawJ F G (c + 1) B w' b ∧ Below B w w') := fun wx hb hk => by
        have hIx := hI.below hP hQ hb
        rcases hk with hk | hk
        · refine Calls.mono (turns_do hF hR hP hQ wx hIx.glob _ _ _ _ _ _ (hIx.pair j hj) hS4 o ho hk) ?_
          rintro e w' ⟨rfl, s', h2⟩
          obtain ⟨h3, h4⟩ := hIx.told hP hQ (show l.length ≤ c + 1 by omega) j hj h2
          exact ⟨rfl, h3, (hb.mono hBw).trans h4⟩
        · refine Calls.mono (turns_idle wx _ o hk) ?_
          rintro e w' ⟨rfl, h2⟩
          have hb2 := hb.trans (h2.mono hb.size)
          exact ⟨rfl, ⟨_, _, by omega, hI.below hP hQ hb2⟩, hb2.mono hBw⟩
      have HFm : Hid (∀ wx, Below w.heap.size w wx → Calls Tryz.prog 49 #[.pointer (some ⟨b, 0, none⟩), .pointer (some ⟨l[j].pb, 0, none⟩), .int .i64 o.n] wx fun e w' => e = .returned (.bool true) ∧ LawJ F G (c + 1) B w' b ∧ Below B w w') := fun wx hb => by
        have hIx := hI.below hP hQ hb
        refine Calls.mono (frame_any hF hR hP hQ wx hIx.glob _ _ _ _ _ _ (hIx.pair j hj) hS4 b ((hIx.blk.cell 1).trans rfl) (hIx.notB hP hQ j hj) hIx.blk.lt o.n) ?_
        rintro e w' ⟨rfl, h2⟩
        obtain ⟨h3, h4⟩ := hIx.told hP hQ (show l.length ≤ c + 1 by omega) j hj h2
        exact ⟨rfl, h3, (hb.mono hBw).trans h4⟩
      have HFs : Hid (∀ wx, Below w.heap.size w wx → (o.kind = 5 ∨ o.kind = 7) → Calls Tryz.prog 50 #[.pointer (some ⟨b, 0, none⟩), .pointer (some ⟨l[j].pb, 0, none⟩), .agg #[.int .i64 o.kind, .int .i64 o.a, .int .i64 o.n, .int .i64 o.m, .string o.s]] wx fun e w' => e = .returned (.bool true) ∧ LawJ F G (c + 1) B w' b ∧ Below B w w') := fun wx hb hk => by
        have hIx := hI.below hP hQ hb
        refine Calls.mono (frames_any hF hR hP hQ wx hIx.glob _ _ _ _ _ _ (hIx.pair j hj) hS4 b ((hIx.blk.cell 1).trans rfl) (hIx.notB hP hQ j hj) hIx.blk.lt o ho hk) ?_
        rintro e w' ⟨rfl, s', h2⟩
        obtain ⟨h3, h4⟩ := hIx.told hP hQ (show l.length ≤ c + 1 by omega) j hj h2
        exact ⟨rfl, h3, (hb.mono hBw).trans h4⟩
      have Hp0 : Hid (∀ ob, (w.alloc ob).cell? ⟨b, 0, none⟩ = some (.slice (some ⟨g, 0, none⟩) l.length cap)) := fun ob => ((hI.blk.alloc ob).cell 0).trans rfl
      have Hg : Hid (∀ ob, (w.alloc ob).cell? ⟨g, j, none⟩ = some (.pointer (some ⟨l[j].pb, 0, none⟩))) := fun ob => by
        have h2 := (hI.row.alloc ob).cellAt j (by omega)
        rw [h2]; simp [pbs, hj]
      have hbl := hI.blk.lt
      have hlm : l.length ≤ 1099511627776 := by omega
      have hb1 : Hid (∀ ob, Below w.heap.size w (w.alloc ob).drew) := fun ob => ((Below.refl _ w).alloc (Nat.le_refl _) ob).drew
      unfold StepD.val
      obtain ⟨k, a, n, m, s⟩ := o
      simp only at *
      clear ho hJb hI hS4 hpick hF hR hV hP hQ
      have kk : (k == 1) = false := beq_eq_false_iff_ne.2 hk1
      have p0 := Hp0.out (.cells #[.int .i64 k, .int .i64 a, .int .i64 n, .int .i64 m, .string s] 56)
      have pg := Hg.out (.cells #[.int .i64 k, .int .i64 a, .int .i64 n, .int .i64 m, .string s] 56)
      have hbz := hb1.out (.cells #[.int .i64 k, .int .i64 a, .int .i64 n, .int .i64 m, .string s] 56)
      have kb : Blk (w.alloc (.cells #[.int .i64 k, .int .i64 a, .int .i64 n, .int .i64 m, .string s] 56)) w.heap.size #[.int .i64 k, .int .i64 a, .int .i64 n, .int .i64 m, .string s] 56 := Blk.new w _ _
      have s0 := (kb.cell 0).trans rfl
      have s1 := (kb.cell 1).trans rfl
      have s2 := (kb.cell 2).trans rfl
      have s3 := (kb.cell 3).trans rfl
      have s4 := (kb.cell 4).trans rfl
      clear kb Hp0 Hg hb1
      generalize l[j].pb = pb at *
      go_enter Tryz.func26, Tryz.ntmps26
      go_wp2_with fail
      generalize w.alloc (.cells #[.int .i64 k, .int .i64 a, .int .i64 n, .int .i64 m, .string s] 56) = w2 at *
      have hsm : Hid (∀ e : Nat, e < l.length → (e : Int) < (l.length : Int)) := fun e he => by omega
      go_region_held3 (fun w' => w' = w2.drew ∧ w'.cell? ⟨b, 0, none⟩ = some (.slice (some ⟨g, 0, none⟩) l.length cap) ∧ w'.cell? ⟨g, j, none⟩ = some (.pointer (some ⟨pb, 0, none⟩)) ∧ w'.cell? ⟨w.heap.size, 1, none⟩ = some (.int .i64 a)) ((refine ⟨?_, ?_, ?_, ?_⟩ <;> (first | rfl | assumption))) (first | (go_at_call 47; refine Calls.mono (HPk.out _) ?_; rintro e w3 ⟨rfl, rfl⟩))
      clear HPk
      have hcs : k = 3 ∨ k = 4 ∨ k = 2 ∨ k = 5 ∨ k = 6 ∨ k = 7 ∨ k ≤ 0 := by omega
      rcases hcs with rfl | rfl | rfl | rfl | rfl | rfl | hk0
      · go_wp2_with fail
        refine Calls.mono (HT.out _ hbz (by simp)) ?_
        rintro e w3 ⟨rfl, h1, h2⟩
        have H : Hid (LawJ F G (c + 1) B w3 b ∧ Below B w w3) := ⟨h1, h2⟩
        clear HT HU h1 h2
        go_wp2_with fail
        go_ret
        exact ⟨rfl, H.out⟩
      · go_wp2_with fail
        refine Calls.mono (HT.out _ hbz (by simp)) ?_
        rintro e w3 ⟨rfl, h1, h2⟩
        have H : Hid (LawJ F G (c + 1) B w3 b ∧ Below B w w3) := ⟨h1, h2⟩
        clear HT HU h1 h2
        go_wp2_with fail
        go_ret
        exact ⟨rfl, H.out⟩
      · go_wp2_with fail
        refine Calls.mono (HU.out _ hbz (by simp)) ?_
        rintro e w3 ⟨rfl, h1, h2⟩
        have H : Hid (LawJ F G (c + 1) B w3 b ∧ Below B w w3) := ⟨h1, h2⟩
        clear HT HU h1 h2
        go_wp2_with fail
        go_ret
        exact ⟨rfl, H.out⟩
      · go_wp2_with fail
        refine Calls.mono (HFs.out _ hbz (by simp)) ?_
        rintro e w3 ⟨rfl, h1, h2⟩
        have H : Hid (LawJ F G (c + 1) B w3 b ∧ Below B w w3) := ⟨h1, h2⟩
        clear HT HU HFm HFs h1 h2
        go_wp2_with fail
        go_ret
        exact ⟨rfl, H.out⟩
      · go_wp2_with fail
        refine Calls.mono (HFm.out _ hbz) ?_
        rintro e w3 ⟨rfl, h1, h2⟩
        have H : Hid (LawJ F G (c + 1) B w3 b ∧ Below B w w3) := ⟨h1, h2⟩
        clear HT HU HFm HFs h1 h2
        go_wp2_with fail
        go_ret
        exact ⟨rfl, H.out⟩
      · go_wp2_with fail
        refine Calls.mono (HFs.out _ hbz (by simp)) ?_
        rintro e w3 ⟨rfl, h1, h2⟩
        have H : Hid (LawJ F G (c + 1) B w3 b ∧ Below B w w3) := ⟨h1, h2⟩
        clear HT HU HFm HFs h1 h2
        go_wp2_with fail
        go_ret
        exact ⟨rfl, H.out⟩
      · have k3 : (k == 3) = false := beq_eq_false_iff_ne.2 (by omega)
        have k4 : (k == 4) = false := beq_eq_false_iff_ne.2 (by omega)
        have k9 : (k == 9) = false := beq_eq_false_iff_ne.2 (by omega)
        have k6 : (k == 6) = false := beq_eq_false_iff_ne.2 (by omega)
        have k5 : (k == 5) = false := beq_eq_false_iff_ne.2 (by omega)
        have k7 : (k == 7) = false := beq_eq_false_iff_ne.2 (by omega)
        have k8 : (k == 8) = false := beq_eq_false_iff_ne.2 (by omega)
        have n3 : ¬ k = 3 := by omega
        have n4 : ¬ k = 4 := by omega
        have n9 : ¬ k = 9 := by omega
        have n6 : ¬ k = 6 := by omega
        have n5 : ¬ k = 5 := by omega
        have n7 : ¬ k = 7 := by omega
        have n8 : ¬ k = 8 := by omega
        go_wp2_with fail
        refine Calls.mono (HU.out _ hbz (Or.inr hk0)) ?_
        rintro e w3 ⟨rfl, h1, h2⟩
        have H : Hid (LawJ F G (c + 1) B w3 b ∧ Below B w w3) := ⟨h1, h2⟩
        clear HT HU h1 h2
        go_wp2_with fail
        go_ret
        exact ⟨rfl, H.out⟩

theorem law_ok (hF : ProgOK F) (hR : RefOK G) (hV : RefNew G) (hP : ProgFrame F) (hQ : RefFrame G) : LawOK 7 (LawJ F G) := {
  heads := fun w hG => heads_any hF w hG
  start := fun w hG => ⟨.slice none 0 0, [], Nat.le_refl _, hG.mono ((Below.refl _ w).alloc (Nat.le_refl _) _), hG.size, Nat.le_refl _, Blk.new w _ _, World.ownsRow_nil _ _ _ _, fun j h => absurd h (by simp), fun j h => absurd h (by simp), fun i j h => absurd h (by simp)⟩
  step := fun c B w b o ho hk hc hJ => step_any hF hR hV hP hQ c B w b o ho hk hc hJ }
end Go.Proofs.YtoiiaankpnhppaaGreatDoor
namespace Go.Proofs.YtoiiaankpnhppaaGreatDoor
open Go.RowKit

structure FrInv (s : St) : Prop where
  f500 : s.fs.length ≤ 500
  src : ∀ f ∈ s.fs, f.src < s.kn.length ∧ f.dst < s.kn.length ∧ f.ack ≤ s.fs.length ∧ f.known.length ≤ s.es.length
  cnt : ∀ f ∈ s.fs, f.ack = 0 → cnt f.known ≤ cnt (s.kn.getD f.src [])
def AckAt (w : World) (av : Nat → Value) (n : Nat) (ab : Nat → Nat) : Prop := ∀ i, i < n → av i = .slice (some ⟨ab i, 0, none⟩) n n ∧ ∃ kl : List Int, kl.length = n ∧ SliceT 3 w (av i) (ints kl)
theorem AckAt.ints {w w' : World} {av : Nat → Value} {n : Nat} {ab : Nat → Nat} (h : AckAt w av n ab) (hk : IntsKept w w') : AckAt w' av n ab := fun i hi => by
  obtain ⟨h1, kl, h2, h3⟩ := h i hi
  obtain ⟨kl', h4, h5⟩ := h3.numbers hk
  exact ⟨h1, kl', by omega, h5⟩
theorem AckAt.tag {w : World} {av : Nat → Value} {n : Nat} {ab : Nat → Nat} (h : AckAt w av n ab) (i : Nat) (hi : i < n) : Tagged w (ab i) 3 := by
  obtain ⟨h1, kl, h2, h3⟩ := h i hi
  rw [h1] at h3
  rcases h3 with ⟨e1, _⟩ | ⟨b, off, cap, e1, _, e3, _⟩
  · cases e1
  · simp only [Value.slice.injEq, Option.some.injEq, Addr.mk.injEq] at e1
    obtain ⟨⟨e1, _⟩, _⟩ := e1
    rw [e1]
    exact e3

structure RefC (w : World) (c : Nat) (R : Nat → Prop) (s : St) (rb : Nat) (evv fv : Value) (av : Nat → Value) (room : Nat) (ab : Nat → Nat) : Prop where
  r : RefAt w c rb evv fv av room s.es s.es.length (s.es.length + (s.fs.length - 1)) s.kn
  f : FrAt w fv s.fs
  a : AckAt w av s.kn.length ab
  i : FrInv s
  own : ∀ k, R k ↔ k = c ∨ k = rb ∨ evv.ownBlock = some k ∨ fv.ownBlock = some k ∨ ∃ j, j < s.kn.length ∧ ab j = k
def RefG (w : World) (c : Nat) (R : Nat → Prop) (s : St) : Prop := ∃ rb evv fv av room ab, RefC w c R s rb evv fv av room ab

theorem ref_frame : RefFrame RefG := {
  stable := by
    rintro M w w' c R s ⟨rb, evv, fv, av, room, ab, h⟩ hc hR hb hi
    have hm := fun k hk => hR k ((h.own k).2 hk)
    exact ⟨rb, evv, fv, av, room, ab, h.r.chg hc (hm _ (Or.inl rfl)) (hm _ (Or.inr (Or.inl rfl))) (fun g hg => hm _ (Or.inr (Or.inr (Or.inl hg)))) hb hi, h.f.chg hc (fun g hg => hm _ (Or.inr (Or.inr (Or.inr (Or.inl hg))))) hb hi, h.a.ints hi, h.i, h.own⟩
  tags := by
    rintro w c R s k ⟨rb, evv, fv, av, room, ab, h⟩ hk
    rcases (h.own k).1 hk with rfl | rfl | hk | hk | ⟨j, hj, rfl⟩
    · exact ⟨_, Or.inl rfl, h.r.tc⟩
    · exact ⟨_, Or.inr (Or.inl rfl), h.r.trb⟩
    · exact ⟨_, Or.inr (Or.inr (Or.inl rfl)), (h.r.evLt k hk).2⟩
    · exact ⟨_, Or.inr (Or.inr (Or.inr (Or.inl rfl))), h.f.tag k hk⟩
    · exact ⟨_, Or.inr (Or.inr (Or.inr (Or.inr rfl))), h.a.tag j hj⟩ }
theorem ref_new : RefNew RefG := {
  good := by
    intro r room w h1 h6 h50
    refine Calls.mono (Fresh_good r room w h1 h6 h50) ?_
    rintro e w' ⟨rb, avs, rfl, hr, hav, hal, hb, hrb⟩
    have hat : ∀ i, i < r → ∃ b, avs.getD i .nilFunc = .slice (some ⟨b, 0, none⟩) r r ∧ w.heap.size ≤ b ∧ ∃ kl : List Int, kl.length = r ∧ SliceT 3 w' (avs.getD i .nilFunc) (ints kl) := fun i hi => by
      have hi' : i < avs.length := by omega
      have hm : avs.getD i .nilFunc ∈ avs := by
        rw [List.getD_eq_getElem?_getD, List.getElem?_eq_getElem hi']; exact List.getElem_mem hi'
      obtain ⟨b, kl, g1, g2, g3, g4⟩ := hav _ hm
      exact ⟨b, g1, g2, kl, g3, g4⟩
    obtain ⟨ab, hab⟩ : ∃ ab : Nat → Nat, ∀ i, i < r → avs.getD i .nilFunc = .slice (some ⟨ab i, 0, none⟩) r r ∧ w.heap.size ≤ ab i ∧ ∃ kl : List Int, kl.length = r ∧ SliceT 3 w' (avs.getD i .nilFunc) (ints kl) :=
      ⟨fun i => if h : i < r then (hat i h).choose else 0, fun i hi => by
        simp only [hi, dite_true]
        exact (hat i hi).choose_spec⟩
    refine ⟨w.heap.size, fun k => k = w.heap.size ∨ k = rb ∨ (Value.slice none 0 0).ownBlock = some k ∨ (Value.slice none 0 0).ownBlock = some k ∨ ∃ j, j < (List.replicate r ([] : List Bool)).length ∧ ab j = k, rfl, ⟨rb, .slice none 0 0, .slice none 0 0, fun i => avs.getD i .nilFunc, room, ab, hr, FrAt.nil w', fun i hi => ?_, ⟨by simp, fun f hf => absurd hf (by simp), fun f hf => absurd hf (by simp)⟩, fun k => Iff.rfl⟩, fun k hk => ?_, hb⟩
    · have hi' : i < r := by simpa using hi
      obtain ⟨g1, _, g3⟩ := hab i hi'
      simp only [List.length_replicate]
      exact ⟨g1, g3⟩
    · rcases hk with rfl | rfl | hk | hk | ⟨j, hj, rfl⟩
      · exact Nat.le_refl _
      · exact hrb
      · cases hk
      · cases hk
      · exact (hab j (by simpa using hj)).2.1 }

theorem cnt_moreOf (known : List Bool) (n : Nat) : cnt known ≤ cnt (moreOf known n) := by
  unfold moreOf cnt
  rw [List.filter_append, List.filter_append, List.length_append, List.length_append]
  omega
theorem cnt_delK (a b : List Bool) : cnt a ≤ cnt (delK a b) := by
  unfold delK
  split
  · omega
  · exact Nat.le_refl _
theorem knget (kn : List (List Bool)) (k : Nat) (hk : k < kn.length) : kn.getD k [] = kn[k] := by simp [hk]
theorem getDs (kn : List (List Bool)) (k : Nat) (hk : k < kn.length) (a : List Bool) (j : Nat) : (kn.set k a).getD j [] = if k = j then a else kn.getD j [] := by
  rw [List.getD_eq_getElem?_getD, List.getElem?_set]
  by_cases e : k = j
  · subst e; simp [hk]
  · rw [if_neg e, if_neg e, List.getD_eq_getElem?_getD]

theorem ref_ok : RefOK RefG := {
  up := by
    rintro w c R s i ⟨rb, evv, fv, av, room, ab, h⟩
    exact Up_any w c rb evv fv av room s.es _ _ s.kn h.r i
  does := by
    rintro w c R s i t ⟨rb, evv, fv, av, room, ab, h⟩ ht
    have hn5 := h.r.n500
    have hf5 := h.i.f500
    refine Calls.mono (RefDo_any w c rb evv fv av room s.es (s.es.length + (s.fs.length - 1)) (by omega) s.kn h.r i t ht) ?_
    rintro e w' ⟨r, evv', es', kn', rfl, hd, hr, hc, hev⟩
    have hno : ∀ {b : Nat} {t : TypeId}, Tagged w b t → t = 4 ∨ t = 3 ∨ t = 201 → ¬ (b = c ∨ b = rb ∨ evv.ownBlock = some b) := by
      rintro b t hb ht (e | e | e)
      · exact Tagged.ne hb h.r.tc (by rcases ht with rfl | rfl | rfl <;> decide) e
      · exact Tagged.ne hb h.r.trb (by rcases ht with rfl | rfl | rfl <;> decide) e
      · exact Tagged.ne hb (h.r.evLt b e).2 (by rcases ht with rfl | rfl | rfl <;> decide) rfl
    have hi : IntsKept w w' := IntsKept.of_chg hc (fun b hb => hno hb (Or.inr (Or.inl rfl)))
    have hF := h.f.chg hc (fun g hg => hno (h.f.tag g hg) (Or.inr (Or.inr rfl))) (fun b hb => hno hb (Or.inl rfl)) hi
    have hkl : kn'.length = s.kn.length ∧ s.es.length ≤ es'.length ∧ ∀ j, cnt (s.kn.getD j []) ≤ cnt (kn'.getD j []) := by
      rcases hd with ⟨_, _, rfl, rfl⟩ | ⟨_, _, _, _, rfl, rfl⟩ | ⟨_, _, _, _, _, rfl, rfl⟩ | ⟨c', e', hi', _, _, _, _, _, _, _, _, rfl, rfl⟩
      · exact ⟨rfl, Nat.le_refl _, fun _ => Nat.le_refl _⟩
      · exact ⟨rfl, Nat.le_refl _, fun _ => Nat.le_refl _⟩
      · exact ⟨rfl, Nat.le_refl _, fun _ => Nat.le_refl _⟩
      · refine ⟨by simp, by simp, fun j => ?_⟩
        rw [getDs _ _ (by omega)]
        by_cases e9 : i.toNat = j
        · rw [if_pos e9, ← e9]; exact cnt_moreOf _ _
        · rw [if_neg e9]; exact Nat.le_refl _
    have hm : s.es.length + (s.fs.length - 1) + (es'.length - s.es.length) = es'.length + (s.fs.length - 1) := by omega
    rw [hm] at hr
    refine ⟨r, es', kn', rfl, hd, fun k => k = c ∨ k = rb ∨ evv'.ownBlock = some k ∨ fv.ownBlock = some k ∨ ∃ j, j < kn'.length ∧ ab j = k, ⟨rb, evv', fv, av, room, ab, hr, hF, ?_, ⟨hf5, fun f hf => ?_, fun f hf h0 => Nat.le_trans (h.i.cnt f hf h0) (hkl.2.2 _)⟩, fun k => Iff.rfl⟩, fun k hk => ?_, hc.mono (fun x _ hx => (h.own x).2 ?_), hi⟩
    · show AckAt w' av kn'.length ab
      rw [hkl.1]; exact h.a.ints hi
    · obtain ⟨q1, q2, q3, q4⟩ := h.i.src f hf
      exact ⟨by rw [hkl.1]; exact q1, by rw [hkl.1]; exact q2, q3, Nat.le_trans q4 hkl.2.1⟩
    · rcases hk with hk | hk | hk | hk | ⟨j, hj, hk⟩
      · exact Or.inl ((h.own k).2 (Or.inl hk))
      · exact Or.inl ((h.own k).2 (Or.inr (Or.inl hk)))
      · rcases hev with he | ⟨g, he, hg⟩
        · exact Or.inl ((h.own k).2 (Or.inr (Or.inr (Or.inl (he.symm.trans hk)))))
        · rw [he] at hk; cases hk; exact Or.inr hg
      · exact Or.inl ((h.own k).2 (Or.inr (Or.inr (Or.inr (Or.inl hk)))))
      · exact Or.inl ((h.own k).2 (Or.inr (Or.inr (Or.inr (Or.inr ⟨j, by rw [← hkl.1]; exact hj, hk⟩)))))
    · rcases hx with hx | hx | hx
      · exact Or.inl hx
      · exact Or.inr (Or.inl hx)
      · exact Or.inr (Or.inr (Or.inl hx))
  asks := by
    rintro w c R s i t ⟨rb, evv, fv, av, room, ab, h⟩ ht
    exact RefAsk_any w c rb evv fv av room s.es _ _ s.kn h.r i t ht
  cells := by
    rintro w c R s ⟨rb, evv, fv, av, room, ab, h⟩
    obtain ⟨cap, f1, hcap⟩ := h.r.f1
    refine ⟨h.r.n6, rb, cap, f1, hcap, fun i hi => ?_⟩
    obtain ⟨⟨kv, a0, b0⟩, _⟩ := h.r.reps i hi
    have := h.r.kn _ (List.getElem_mem hi)
    have := h.r.n500
    exact ⟨kv, a0, b0, by omega⟩
  sends := by
    rintro w c R s i j s' ⟨rb, evv, fv, av, room, ab, h⟩ ⟨t1, t2, t3⟩
    obtain ⟨es', kn', fs'⟩ := s'
    simp only at t1 t2 t3
    subst t1 t2
    have same : ∀ (n r : Int), sendR s i j = (n, r) → r ≠ 0 → fs' = s.fs → (Ending.returned (.tuple #[.int .i64 n, .int .i64 r]) : Ending) = .returned (.tuple #[.int .i64 (sendR s i j).1, .int .i64 (sendR s i j).2]) ∧ ∃ R', RefG w c R' ⟨s.es, s.kn, fs'⟩ ∧ (∀ k, R' k → R k ∨ w.heap.size ≤ k) ∧ Chg R w w ∧ IntsKept w w := fun n r e1 _ e3 => ⟨by rw [e1], R, by rw [e3]; exact ⟨rb, evv, fv, av, room, ab, h⟩, fun k hk => Or.inl hk, Chg.refl _ _, IntsKept.of_below (Below.refl _ _)⟩
    by_cases hb : (0 ≤ i ∧ i < s.kn.length) ∧ (0 ≤ j ∧ j < s.kn.length)
    · by_cases hij : i = j
      · have e1 : sendR s i j = (0, 1) := by unfold sendR; rw [if_pos hb, if_pos hij]
        rw [e1, if_neg (by decide)] at t3
        refine Calls.mono (RefSend_bad w c rb evv fv av room s.es _ _ s.kn h.r s.fs h.f h.i.f500 i j hb.1 hb.2 (Or.inl hij)) ?_
        rw [if_pos hij]
        rintro e w' ⟨rfl, rfl⟩
        exact same 0 1 e1 (by decide) t3
      · by_cases h5 : 500 ≤ s.fs.length
        · have e1 : sendR s i j = (0, 7) := by unfold sendR; rw [if_pos hb, if_neg hij, if_pos h5]
          rw [e1, if_neg (by decide)] at t3
          refine Calls.mono (RefSend_bad w c rb evv fv av room s.es _ _ s.kn h.r s.fs h.f h.i.f500 i j hb.1 hb.2 (Or.inr h5)) ?_
          rw [if_neg hij]
          rintro e w' ⟨rfl, rfl⟩
          exact same 0 7 e1 (by decide) t3
        · obtain ⟨k, rfl⟩ := Int.eq_ofNat_of_zero_le hb.1.1
          obtain ⟨k', rfl⟩ := Int.eq_ofNat_of_zero_le hb.2.1
          have hk : k < s.kn.length := by omega
          have hk' : k' < s.kn.length := by omega
          have e1 : sendR s (k : Int) (k' : Int) = ((s.fs.length : Int) + 1, 0) := by unfold sendR; rw [if_pos hb, if_neg hij, if_neg h5]
          rw [e1, if_pos rfl] at t3
          obtain ⟨b, rfl⟩ := t3
          refine Calls.mono (RefSend_ok w c rb evv fv av room s.es _ _ s.kn h.r s.fs h.f k k' hk hk' (by omega) (by omega) (fun f hf h0 hs => by have := h.i.cnt f hf h0; rw [hs, knget _ _ hk] at this; exact this) ⟨_, _, _, (h.a k hk).1⟩ b) ?_
          rintro e w' ⟨rfl, fv', hr, hF, hc, hn⟩
          have hno : ∀ {b : Nat}, Tagged w b 3 → ¬ (b = c ∨ fv.ownBlock = some b) := by
            rintro b hb (e | e)
            · exact Tagged.ne hb h.r.tc (by decide) e
            · exact Tagged.ne hb (h.f.tag b e) (by decide) rfl
          have hi : IntsKept w w' := IntsKept.of_chg hc (fun b hb => hno hb)
          have hf5 := h.i.f500
          have hn5 := h.r.n500
          refine ⟨by rw [e1], fun g => g = c ∨ g = rb ∨ evv.ownBlock = some g ∨ fv'.ownBlock = some g ∨ ∃ j, j < s.kn.length ∧ ab j = g, ⟨rb, evv, fv', av, room, ab, hr.most_mono (by simp only [List.length_append, List.length_singleton]; omega) (by simp only [List.length_append, List.length_singleton]; omega), by show FrAt w' fv' (s.fs ++ [(⟨((k : Int)).toNat, ((k' : Int)).toNat, 0, s.kn.getD ((k : Int)).toNat [], b⟩ : FrD)]); simp only [Int.toNat_natCast]; rw [knget _ _ hk]; exact hF, h.a.ints hi, ⟨by simp; omega, fun f hf => ?_, fun f hf h0 => ?_⟩, fun g => Iff.rfl⟩, fun g hg => ?_, hc.mono (fun x _ hx => (h.own x).2 (hx.elim Or.inl (fun hx => Or.inr (Or.inr (Or.inr (Or.inl hx)))))), hi⟩
          · rcases List.mem_append.1 hf with h1 | h1
            · obtain ⟨q1, q2, q3, q4⟩ := h.i.src f h1
              exact ⟨q1, q2, by simp; omega, q4⟩
            · have e9 : f = _ := List.mem_singleton.1 h1
              subst e9
              refine ⟨hk, hk', by simp, ?_⟩
              simp only [Int.toNat_natCast]
              rw [knget _ _ hk]
              exact h.r.kn _ (List.getElem_mem hk)
          · rcases List.mem_append.1 hf with h1 | h1
            · exact h.i.cnt f h1 h0
            · have e9 : f = _ := List.mem_singleton.1 h1
              subst e9
              exact Nat.le_refl _
          · rcases hg with hg | hg | hg | hg | hg
            · exact Or.inl ((h.own g).2 (Or.inl hg))
            · exact Or.inl ((h.own g).2 (Or.inr (Or.inl hg)))
            · exact Or.inl ((h.own g).2 (Or.inr (Or.inr (Or.inl hg))))
            · exact (hn g hg).imp (fun h9 => (h.own g).2 (Or.inr (Or.inr (Or.inr (Or.inl h9))))) id
            · exact Or.inl ((h.own g).2 (Or.inr (Or.inr (Or.inr (Or.inr hg)))))
    · have e1 : sendR s i j = (0, 2) := by unfold sendR; rw [if_neg hb]
      rw [e1, if_neg (by decide)] at t3
      refine Calls.mono (RefSend_no w c rb evv fv av room s.es _ _ s.kn h.r i j hb) ?_
      rintro e w' ⟨rfl, rfl⟩
      exact same 0 2 e1 (by decide) t3
  dels := by
    rintro w c R s f s' ⟨rb, evv, fv, av, room, ab, h⟩ ⟨t1, t2⟩
    obtain ⟨es', kn', fs'⟩ := s'
    simp only at t1
    subst t1
    have hf5 := h.i.f500
    have hn5 := h.r.n500
    by_cases hf : 1 ≤ f ∧ f ≤ s.fs.length
    · obtain ⟨k, rfl⟩ : ∃ k : Nat, f = (k : Int) + 1 := ⟨(f - 1).toNat, by omega⟩
      have hk : k < s.fs.length := by omega
      have hno : frNo s ((k : Int) + 1) = some s.fs[k] := by
        unfold frNo
        rw [if_pos (by omega), show ((k : Int) + 1).toNat - 1 = k by omega, List.getElem?_eq_getElem hk]
      rw [hno] at t2
      dsimp only at t2
      obtain ⟨q1, q2, q3, q4⟩ := h.i.src _ (List.getElem_mem hk)
      by_cases ha : 0 < s.fs[k].ack
      · rw [if_pos (Or.inl ha)] at t2
        obtain ⟨rfl, rfl⟩ := t2
        have e1 : delR s ((k : Int) + 1) = (0, 0) := by unfold delR; rw [hno]; exact if_pos ha
        obtain ⟨a1, kl, a2, a3⟩ := h.a _ q2
        refine Calls.mono (RefDel_ack w c rb evv fv av room s.es _ _ s.kn h.r s.fs h.f k hk q2 q1 hf5 (s.fs[k].ack - 1) (by omega) (by omega) (ab s.fs[k].dst) a1 kl a2 (by rw [← a1]; exact a3)) ?_
        rintro e w' ⟨rfl, hr, hF, hc, hi⟩
        exact ⟨by rw [e1], R, ⟨rb, evv, fv, av, room, ab, hr, hF, h.a.ints hi, h.i, h.own⟩, fun k hk => Or.inl hk, hc.mono (fun x _ hx => (h.own x).2 (hx.elim (fun hx => Or.inr (Or.inr (Or.inr (Or.inr ⟨_, q2, hx.symm⟩)))) (fun hx => Or.inr (Or.inr (Or.inr (Or.inl hx)))))), hi⟩
      · by_cases h5 : 500 ≤ s.fs.length
        · rw [if_pos (Or.inr h5)] at t2
          obtain ⟨rfl, rfl⟩ := t2
          have e1 : delR s ((k : Int) + 1) = (0, 7) := by unfold delR; rw [hno]; exact (if_neg ha).trans (if_pos h5)
          refine Calls.mono (RefDel_full w c rb evv fv av room s.es _ _ s.kn h.r s.fs h.f k hk q2 (by omega) (by omega)) ?_
          rintro e w' ⟨rfl, hb⟩
          exact ⟨by rw [e1], R, ref_frame.below ⟨rb, evv, fv, av, room, ab, h⟩ hb, fun k hk => Or.inl hk, Chg.of_below hb, IntsKept.of_below hb⟩
        · rw [if_neg (by omega)] at t2
          obtain ⟨rfl, b, rfl⟩ := t2
          have e1 : delR s ((k : Int) + 1) = ((s.fs.length : Int) + 1, 0) := by unfold delR; rw [hno]; exact (if_neg ha).trans (if_neg h5)
          refine Calls.mono (RefDel_ok w c rb evv fv av room s.es _ _ (by omega) s.kn h.r s.fs h.f k hk q2 q1 (by omega) (by omega) q4 b) ?_
          rintro e w' ⟨rfl, fv', hr, hF, hc, hn⟩
          have hkd : s.kn.getD s.fs[k].dst [] = s.kn[s.fs[k].dst] := knget _ _ q2
          have hno2 : ∀ {b : Nat}, Tagged w b 3 → ¬ (b = c ∨ b = rb ∨ fv.ownBlock = some b) := by
            rintro b hb (e | e | e)
            · exact Tagged.ne hb h.r.tc (by decide) e
            · exact Tagged.ne hb h.r.trb (by decide) e
            · exact Tagged.ne hb (h.f.tag b e) (by decide) rfl
          have hi : IntsKept w w' := IntsKept.of_chg hc (fun b hb => hno2 hb)
          have hkn : s.kn.set s.fs[k].dst (delK (s.kn.getD s.fs[k].dst []) s.fs[k].known) = s.kn.set s.fs[k].dst (if cnt s.kn[s.fs[k].dst] < cnt (bothL s.kn[s.fs[k].dst] s.fs[k].known) then bothL s.kn[s.fs[k].dst] s.fs[k].known else s.kn[s.fs[k].dst]) := by rw [hkd]; (first | done | rfl)
          have hlen : (s.kn.set s.fs[k].dst (delK (s.kn.getD s.fs[k].dst []) s.fs[k].known)).length = s.kn.length := by simp
          refine ⟨by rw [e1], fun g => g = c ∨ g = rb ∨ evv.ownBlock = some g ∨ fv'.ownBlock = some g ∨ ∃ j, j < (s.kn.set s.fs[k].dst (delK (s.kn.getD s.fs[k].dst []) s.fs[k].known)).length ∧ ab j = g, ⟨rb, evv, fv', av, room, ab, ?_, hF, ?_, ⟨by simp; omega, fun f hf => ?_, fun f hf h0 => ?_⟩, fun g => Iff.rfl⟩, fun g hg => ?_, hc.mono (fun x _ hx => (h.own x).2 ?_), hi⟩
          · show RefAt w' c rb evv fv' av room s.es s.es.length (s.es.length + ((s.fs ++ [(⟨s.fs[k].dst, s.fs[k].src, k + 1, [], b⟩ : FrD)]).length - 1)) (s.kn.set s.fs[k].dst (delK (s.kn.getD s.fs[k].dst []) s.fs[k].known))
            rw [hkn]
            exact hr.most_mono (by simp only [List.length_append, List.length_singleton]; omega) (by simp only [List.length_append, List.length_singleton]; omega)
          · show AckAt w' av (s.kn.set s.fs[k].dst (delK (s.kn.getD s.fs[k].dst []) s.fs[k].known)).length ab
            rw [hlen]
            exact h.a.ints hi
          · show f.src < (s.kn.set s.fs[k].dst (delK (s.kn.getD s.fs[k].dst []) s.fs[k].known)).length ∧ f.dst < (s.kn.set s.fs[k].dst (delK (s.kn.getD s.fs[k].dst []) s.fs[k].known)).length ∧ f.ack ≤ (s.fs ++ [(⟨s.fs[k].dst, s.fs[k].src, k + 1, [], b⟩ : FrD)]).length ∧ f.known.length ≤ s.es.length
            rw [hlen, List.length_append, List.length_singleton]
            rcases List.mem_append.1 hf with h1 | h1
            · obtain ⟨p1, p2, p3, p4⟩ := h.i.src f h1
              exact ⟨p1, p2, by omega, p4⟩
            · have e9 : f = _ := List.mem_singleton.1 h1
              subst e9
              exact ⟨q2, q1, by show k + 1 ≤ _; omega, by simp⟩
          · show cnt f.known ≤ cnt ((s.kn.set s.fs[k].dst (delK (s.kn.getD s.fs[k].dst []) s.fs[k].known)).getD f.src [])
            rcases List.mem_append.1 hf with h1 | h1
            · refine Nat.le_trans (h.i.cnt f h1 h0) ?_
              rw [getDs _ _ q2]
              by_cases e9 : s.fs[k].dst = f.src
              · rw [if_pos e9, ← e9]; exact cnt_delK _ _
              · rw [if_neg e9]; exact Nat.le_refl _
            · have e9 : f = _ := List.mem_singleton.1 h1
              subst e9
              exact absurd h0 (Nat.succ_ne_zero _)
          · rw [hlen] at hg
            rcases hg with hg | hg | hg | hg | hg
            · exact Or.inl ((h.own g).2 (Or.inl hg))
            · exact Or.inl ((h.own g).2 (Or.inr (Or.inl hg)))
            · exact Or.inl ((h.own g).2 (Or.inr (Or.inr (Or.inl hg))))
            · exact (hn g hg).imp (fun h9 => (h.own g).2 (Or.inr (Or.inr (Or.inr (Or.inl h9))))) id
            · exact Or.inl ((h.own g).2 (Or.inr (Or.inr (Or.inr (Or.inr hg)))))
          · rcases hx with hx | hx | hx
            · exact Or.inl hx
            · exact Or.inr (Or.inl hx)
            · exact Or.inr (Or.inr (Or.inr (Or.inl hx)))
    · have hno : frNo s f = none := by unfold frNo; rw [if_neg hf]
      rw [hno] at t2
      obtain ⟨rfl, rfl⟩ := t2
      refine Calls.mono (RefDel_bad w c fv s.fs h.r.f4 h.f hf5 f hf) ?_
      rintro e w' ⟨rfl, rfl⟩
      exact ⟨by unfold delR; rw [hno], R, ⟨rb, evv, fv, av, room, ab, h⟩, fun k hk => Or.inl hk, Chg.refl _ _, IntsKept.of_below (Below.refl _ _)⟩
  bound := by
    rintro w c R s f ⟨rb, evv, fv, av, room, ab, h⟩
    refine Calls.mono (Bound_any w c fv s.fs h.r.f4 h.f h.i.f500 f) ?_
    rintro e w' ⟨n, rfl, hn, hz, rfl⟩
    refine ⟨n, rfl, hn, ?_, rfl⟩
    unfold noFr at hz
    rw [hz]
    unfold frNo
    by_cases hf : 1 ≤ f ∧ f ≤ s.fs.length
    · rw [if_pos hf, List.getElem?_eq_getElem (by omega)]
      simp [hf]
    · rw [if_neg hf]
      simp [hf] }
end Go.Proofs.YtoiiaankpnhppaaGreatDoor

