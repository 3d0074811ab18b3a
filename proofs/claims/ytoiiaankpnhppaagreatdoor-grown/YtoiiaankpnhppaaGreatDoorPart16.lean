import Derived.Test.YtoiiaankpnhppaaGreatDoorPart15
set_option linter.unusedVariables false
set_option linter.unusedSimpArgs false
namespace Go.Proofs.YtoiiaankpnhppaaGreatDoor
open Go.RowKit

theorem ChAt.store {w : World} {b : Nat} {p : ByteArray} {a : UInt8} {v : ByteArray} {n : Int} (h : ChAt w b p a v n) (p' : ByteArray) (a' : UInt8) (v' : ByteArray) (n' : Int) :
    ChAt ((((w.setCell ⟨b, 0, none⟩ (.string p')).setCell ⟨b, 1, none⟩ (.int .u8 (a'.toNat : Int))).setCell ⟨b, 2, none⟩ (.string v')).setCell ⟨b, 3, none⟩ (.int .i64 n')) b p' a' v' n' :=
  (((h.set0 p').set1 a').set2 v').set3 n'
theorem ChAt.store0 {w : World} {b : Nat} {p : ByteArray} {a : UInt8} {v : ByteArray} {n : Int} (h : ChAt w b p a v n) :
    ChAt ((((w.setCell ⟨b, 0, none⟩ (.string ⟨#[]⟩)).setCell ⟨b, 1, none⟩ (.int .u8 0)).setCell ⟨b, 2, none⟩ (.string ⟨#[]⟩)).setCell ⟨b, 3, none⟩ (.int .i64 0)) b ⟨#[]⟩ 0 ⟨#[]⟩ 0 :=
  h.store ⟨#[]⟩ 0 ⟨#[]⟩ 0
theorem below_store {B : Nat} {a w : World} (h : Below B a w) {b : Nat} (hb : B ≤ b) (x y z u : Value) :
    Below B a ((((w.setCell ⟨b, 0, none⟩ x).setCell ⟨b, 1, none⟩ y).setCell ⟨b, 2, none⟩ z).setCell ⟨b, 3, none⟩ u) :=
  (((h.setCell (p := ⟨b, 0, none⟩) hb x).setCell (p := ⟨b, 1, none⟩) hb y).setCell (p := ⟨b, 2, none⟩) hb z).setCell (p := ⟨b, 3, none⟩) hb u

theorem toL_take (s : ByteArray) (k : Nat) : toL (s.extract 0 k) = (toL s).take k := by
  show (s.extract 0 k).data.toList = s.data.toList.take k
  rw [ByteArray.data_extract, Array.toList_extract]; simp
theorem toL_drop (s : ByteArray) (k : Nat) : toL (s.extract k s.size) = (toL s).drop k := by
  show (s.extract k s.size).data.toList = s.data.toList.drop k
  rw [ByteArray.data_extract, Array.toList_extract]
  show (s.data.toList.drop k).take (s.size - k) = _
  rw [List.take_of_length_le]
  simp

theorem actionsOf_val (k : UInt8) (w : World) : Calls Tryz.prog 64 #[.int .u8 (k.toNat : Int)] w fun e w' => e = .returned (.string ⟨(actsOf k).toArray⟩) ∧ w' = w := by
  refine (actionsOf_any k w).mono ?_
  rintro e w' ⟨t, rfl, ht, rfl⟩
  exact ⟨by rw [← ht, mk_toL], rfl⟩

theorem fits_acts (k a : UInt8) : Thk.fits k a = (actsOf k).contains a := by
  unfold Thk.fits actsOf
  have hc : ∀ n : Nat, ((k.toNat : Int) = (n : Int)) ↔ k.toNat = n := fun n => by omega
  simp only [show ((115 : Int)) = ((115 : Nat) : Int) from rfl, show ((102 : Int)) = ((102 : Nat) : Int) from rfl, show ((114 : Int)) = ((114 : Nat) : Int) from rfl, show ((99 : Int)) = ((99 : Nat) : Int) from rfl, hc]
  repeat' split
  all_goals
    rw [Bool.eq_iff_iff]
    simp only [List.contains_cons, List.contains_nil, Bool.or_eq_true, beq_iff_eq, ← UInt8.toNat_inj, Bool.or_false]
    simp <;> omega

theorem operand_inl {p : Thk.Bs} {a : UInt8} {v : Thk.Bs} {m : Nat} (h : Thk.operand p a v = .inl m) : m = 5 := by
  unfold Thk.operand at h
  split at h
  · split at h <;> simp_all
  · split at h
    · split at h <;> simp_all
    · split at h <;> simp_all
theorem operand_inr {p : Thk.Bs} {a : UInt8} {v : Thk.Bs} {c : Thk.Ch} (h : Thk.operand p a v = .inr c) : c = ⟨p, a, v, c.n⟩ := by
  unfold Thk.operand at h
  split at h
  · split at h
    · simp only [Sum.inr.injEq] at h; subst h; rfl
    · cases h
  · split at h
    · split at h
      · simp only [Sum.inr.injEq] at h; subst h; rfl
      · cases h
    · split at h
      · simp only [Sum.inr.injEq] at h; subst h; rfl
      · cases h
theorem chg_below {B b : Nat} {a c : World} (h : Chg (fun x => x = b) a c) (hb : B ≤ b) (hs : B ≤ a.heap.size) : Below B a c :=
  ⟨h.os, h.tape, h.output, h.size, fun k hk => h.block k (by omega) (by omega)⟩
theorem keptVal_size (a : UInt8) (t : ByteArray) : (keptVal a t).size ≤ t.size := by
  unfold keptVal; split
  · exact Nat.le_refl _
  · exact Nat.zero_le _

set_option maxHeartbeats 4000000 in
set_option maxRecDepth 100000 in
theorem ProgRead_any (s : ByteArray) (w : World) (hs : s.size ≤ 1048576) (hG : Glob w) :
    Calls Tryz.prog 38 #[.string s] w fun e w' => e = .returned (readV (Thk.read (toL s))) ∧ Below w.heap.size w w' := by
  have Hi : Hid (_) := fun wx => IndexAny_any s wx hs
  have Hz : Hid (ChAt (w.alloc (.cells #[.string ⟨#[]⟩, .int .u8 0, .string ⟨#[]⟩, .int .i64 0] 81)) w.heap.size ⟨#[]⟩ 0 ⟨#[]⟩ 0) := chAt_alloc w ⟨#[]⟩ 0 ⟨#[]⟩ 0
  have HzB : Hid (∀ o, Below w.heap.size w (w.alloc o)) := fun o => (Below.refl _ w).alloc (Nat.le_refl _) o
  have HG : Hid (Glob w) := hG
  clear hG
  rcases indexAny_acts (toL s) with ⟨hk, hx⟩ | ⟨hk, hx, ha⟩
  · have Hr : Hid (Thk.read (toL s) = .inl 4) := by unfold Hid Thk.read; rw [if_pos hk]
    have Hx : Hid (Lib.indexAny (toL s) (toL actsB) = -1) := hx
    clear hx hk
    go_enter Tryz.func38, Tryz.ntmps38
    go_wp2_with fail
    refine Calls.mono (Hi.out _) ?_
    rintro e w1 ⟨rfl, hb1⟩
    rw [Hx.out]
    have a1 := Hz.out.below hb1
    have b1 : Hid (Below w.heap.size w w1) := (HzB.out _).trans (hb1.mono (by simp))
    clear hb1
    have x0 := a1.c0
    have x1 := a1.c1
    have x2 := a1.c2
    have x3 := a1.c3
    have xf := a1.tag.frozen
    have A1 : Hid (ChAt w1 w.heap.size ⟨#[]⟩ 0 ⟨#[]⟩ 0) := a1
    clear a1
    go_wp2
    have hF := A1.out.store0
    have hB := below_store b1.out (Nat.le_refl w.heap.size) (.string ⟨#[]⟩) (.int .u8 0) (.string ⟨#[]⟩) (.int .i64 0)
    generalize ((((w1.setCell ⟨w.heap.size, 0, none⟩ (.string ⟨#[]⟩)).setCell ⟨w.heap.size, 1, none⟩ (.int .u8 0)).setCell ⟨w.heap.size, 2, none⟩ (.string ⟨#[]⟩)).setCell ⟨w.heap.size, 3, none⟩ (.int .i64 0)) = WF at *
    exact bodyPost_ret (v := .tuple #[noCh, .int .i64 4]) (by simp [results, Tryz.results38, go_sem, hF.c0, hF.c1, hF.c2, hF.c3, noCh]) rfl ⟨by rw [Hr.out]; rfl, hB⟩
  · have Hr : Hid (Thk.read (toL s) = Thk.readAt (toL s) ((toL s).findIdx Thk.isAct)) := by unfold Hid Thk.read; rw [if_neg (by omega)]
    have Hx : Hid (Lib.indexAny (toL s) (toL actsB) = (((toL s).findIdx Thk.isAct : Nat) : Int)) := hx
    clear hx ha
    generalize (toL s).findIdx Thk.isAct = k at *
    rw [toL_length] at hk
    have hk0 : (0 : Int) ≤ (k : Int) := by omega
    have hks : (k : Int) ≤ (s.size : Int) := by omega
    have hkn : ¬ ((k : Int) < 0) := by omega
    obtain ⟨p, hp⟩ : ∃ p, p = s.extract 0 k := ⟨_, rfl⟩
    have Hp : Hid (toL p = (toL s).take k) := by unfold Hid; rw [hp, toL_take]
    have hps : p.size ≤ 1048576 := by
      have : p.size = (toL p).length := (toL_length p).symm
      rw [this, Hp.out, List.length_take, toL_length]; omega
    go_enter Tryz.func38, Tryz.ntmps38
    go_wp2_with fail
    refine Calls.mono (Hi.out _) ?_
    rintro e w1 ⟨rfl, hb1⟩
    rw [Hx.out]
    have b1 : Hid (Below w.heap.size w w1) := (HzB.out _).trans (hb1.mono (by simp))
    have a1 : Hid (ChAt w1 w.heap.size ⟨#[]⟩ 0 ⟨#[]⟩ 0) := Hz.out.below hb1
    clear hb1
    go_wp2_with fail
    rw [← hp]
    clear hp
    obtain ⟨m, hm⟩ := (HG.out.mono b1.out).len
    have Hc2 : Hid (_) := ReadPath_any p m w1 hps hm
    clear hm
    refine Calls.mono Hc2.out ?_
    rintro e w2 ⟨rfl, hb2⟩
    have b2 : Hid (Below w.heap.size w w2) := b1.out.trans (hb2.mono b1.out.size)
    have a2 : Hid (ChAt w2 w.heap.size ⟨#[]⟩ 0 ⟨#[]⟩ 0) := a1.out.below hb2
    clear hb2 Hc2
    cases hpa : Thk.path (toL p)
    · have Hq : Hid (Thk.readAt (toL s) k = .inl 4) := by unfold Hid Thk.readAt; rw [if_pos (by rw [← Hp.out]; exact hpa)]
      have x0 := a2.out.c0
      have x1 := a2.out.c1
      have x2 := a2.out.c2
      have x3 := a2.out.c3
      have xf := a2.out.tag.frozen
      go_wp2
      have hF := a2.out.store0
      have hB := below_store b2.out (Nat.le_refl w.heap.size) (.string ⟨#[]⟩) (.int .u8 0) (.string ⟨#[]⟩) (.int .i64 0)
      generalize ((((w2.setCell ⟨w.heap.size, 0, none⟩ (.string ⟨#[]⟩)).setCell ⟨w.heap.size, 1, none⟩ (.int .u8 0)).setCell ⟨w.heap.size, 2, none⟩ (.string ⟨#[]⟩)).setCell ⟨w.heap.size, 3, none⟩ (.int .i64 0)) = WF at *
      exact bodyPost_ret (v := .tuple #[noCh, .int .i64 4]) (by simp [results, Tryz.results38, go_sem, hF.c0, hF.c1, hF.c2, hF.c3, noCh]) rfl ⟨by rw [Hr.out, Hq.out]; rfl, hB⟩
    · have hok : okStr true p = p := rfl
      rw [hok]
      have Hpa : Hid (Thk.path (toL p) = true) := hpa
      clear hok hpa
      have hkl : k < s.size := hk
      have hx1 : ((s[k]'hkl).toNat : Int).toNat.toUInt8 = s[k]'hkl := by simp
      obtain ⟨ix, hix⟩ : ∃ ix, ix = Lib.indexByte (actsOf (Thk.kindOf (toL p))) (s[k]'hkl) := ⟨_, rfl⟩
      have Hk1 : Hid (∀ wx, Calls Tryz.prog 65 #[.string p] wx fun e w' => e = .returned (.int .u8 ((Thk.kindOf (toL p)).toNat : Int)) ∧ w' = wx) := fun wx => Kind_any p wx hps Hpa.out
      have Hk2 : Hid (∀ wx, Calls Tryz.prog 64 #[.int .u8 ((Thk.kindOf (toL p)).toNat : Int)] wx fun e w' => e = .returned (.string ⟨(actsOf (Thk.kindOf (toL p))).toArray⟩) ∧ w' = wx) := fun wx => actionsOf_val _ wx
      have Hk3 : Hid (∀ wx, Calls Tryz.prog 63 #[.string ⟨(actsOf (Thk.kindOf (toL p))).toArray⟩, .int .u8 ((s[k]'hkl).toNat : Int)] wx fun e w' => e = .returned (.int .i64 ix) ∧ w' = wx) := fun wx => by
        refine (Tryz.strings_IndexByte _ _ _).mono ?_
        rintro e w' ⟨rfl, rfl⟩
        rw [hx1, hix]
        exact ⟨rfl, rfl⟩
      have Hfit : Hid (Thk.fits (Thk.kindOf (toL p)) (s[k]'hkl) = decide (0 ≤ ix)) := by
        unfold Hid; rw [fits_acts, hix]; exact Lib.contains_iff_indexByte _ _
      clear hix
      go_wp2_with fail
      go_quiet (first | (go_at_call 65; exact Calls.mono (Hk1.out _) (fun _ _ h => ⟨h.1, _, h.2⟩)) | (go_at_call 64; exact Calls.mono (Hk2.out _) (fun _ _ h => ⟨h.1, _, h.2⟩)) | (go_at_call 63; exact Calls.mono (Hk3.out _) (fun _ _ h => ⟨h.1, _, h.2⟩)))
      have b3 : Hid (Below w.heap.size w (w2.drewN nq)) := below_drewN b2.out nq
      have a3 : Hid (ChAt (w2.drewN nq) w.heap.size ⟨#[]⟩ 0 ⟨#[]⟩ 0) := a2.out.below (below_drewN (Below.refl _ _) nq)
      have hgd : Hid ((toL s).getD k 0 = s[k]'hkl) := by
        unfold Hid; rw [List.getD_eq_getElem?_getD, show (toL s)[k]? = some (s[k]'hkl) from Lib.data_getElem? s k hkl]; (first | done | rfl)
      have Hpf : Hid (¬ Thk.path ((toL s).take k) = false) := by unfold Hid; rw [← Hp.out, Hpa.out]; simp
      generalize w2.drewN nq = w3 at *
      clear a1 a2 b1 b2 Hk1 Hk2 Hk3
      by_cases hlt : ix < 0
      · have Hq : Hid (Thk.readAt (toL s) k = .inl 6) := by
          unfold Hid Thk.readAt
          rw [if_neg Hpf.out, hgd.out, ← Hp.out, Hfit.out, if_pos (by simp; omega)]
        have x0 := a3.out.c0
        have x1 := a3.out.c1
        have x2 := a3.out.c2
        have x3 := a3.out.c3
        have xf := a3.out.tag.frozen
        go_wp2
        have hF := a3.out.store0
        have hB := below_store b3.out (Nat.le_refl w.heap.size) (.string ⟨#[]⟩) (.int .u8 0) (.string ⟨#[]⟩) (.int .i64 0)
        generalize ((((w3.setCell ⟨w.heap.size, 0, none⟩ (.string ⟨#[]⟩)).setCell ⟨w.heap.size, 1, none⟩ (.int .u8 0)).setCell ⟨w.heap.size, 2, none⟩ (.string ⟨#[]⟩)).setCell ⟨w.heap.size, 3, none⟩ (.int .i64 0)) = WF at *
        exact bodyPost_ret (v := .tuple #[noCh, .int .i64 6]) (by simp [results, Tryz.results38, go_sem, hF.c0, hF.c1, hF.c2, hF.c3, noCh]) rfl ⟨by rw [Hr.out, Hq.out]; rfl, hB⟩
      · have Hq : Hid (Thk.readAt (toL s) k = Thk.operand (toL p) (s[k]'hkl) ((toL s).drop (k + 1))) := by
          unfold Hid Thk.readAt
          rw [if_neg Hpf.out, hgd.out, ← Hp.out, Hfit.out, if_neg (by simp; omega)]
        have hwr : IntKind.i64.wrap ((k : Int) + 1) = (k : Int) + 1 := wrap_small _ (by omega) (by omega)
        have hle : (k : Int) + 1 ≤ (s.size : Int) := by omega
        have hle0 : (0 : Int) ≤ (k : Int) + 1 := by omega
        go_wp2_with fail
        obtain ⟨t, ht⟩ : ∃ t, t = s.extract (k + 1) s.size := ⟨_, rfl⟩
        have Ht : Hid (toL t = (toL s).drop (k + 1)) := by unfold Hid; rw [ht, toL_drop]
        have hts : t.size ≤ 1048576 := by
          have : t.size = (toL t).length := (toL_length t).symm
          rw [this, Ht.out, List.length_drop, toL_length]; omega
        rw [← ht]
        clear ht
        rw [← Ht.out] at Hq
        clear hgd Hfit hx1
        generalize (s[k]'hkl) = a at *
        have hB3 : Hid (w.heap.size < w3.heap.size) := a3.out.tag.lt
        have bz : Hid (Below w.heap.size w (w3.alloc (.cells #[.string p, .int .u8 (a.toNat : Int), .string ⟨#[]⟩, .int .i64 0] 81))) := b3.out.alloc (Nat.le_of_lt hB3.out) _
        have az : Hid (ChAt (w3.alloc (.cells #[.string p, .int .u8 (a.toNat : Int), .string ⟨#[]⟩, .int .i64 0] 81)) w.heap.size ⟨#[]⟩ 0 ⟨#[]⟩ 0) := a3.out.below ((Below.refl _ _).alloc (Nat.le_refl _) _)
        refine Calls.mono (readOperand_any w3.heap.size p a t _ hts ((HG.out.mono bz.out)) (chAt_alloc w3 p a ⟨#[]⟩ 0)) ?_
        rintro e w4 ⟨rfl, hc, hchg⟩
        have b4 : Hid (Below w.heap.size w w4) := bz.out.trans (chg_below hchg (Nat.le_of_lt hB3.out) bz.out.size)
        have a4 : Hid (ChAt w4 w.heap.size ⟨#[]⟩ 0 ⟨#[]⟩ 0) := az.out.chg hchg (Nat.ne_of_lt hB3.out)
        clear hchg
        have x0 := a4.out.c0
        have x1 := a4.out.c1
        have x2 := a4.out.c2
        have x3 := a4.out.c3
        have xf := a4.out.tag.frozen
        cases hop : Thk.operand (toL p) a (toL t) with
        | inl m =>
          have hm5 := operand_inl hop
          subst hm5
          have Hop : Hid (Thk.operand (toL p) a (toL t) = .inl 5) := hop
          clear hop hc
          have hri : (Sum.inl 5 : Nat ⊕ Thk.Ch).isRight = false := rfl
          rw [hri]
          go_wp2
          have hF := a4.out.store0
          have hB := below_store b4.out (Nat.le_refl w.heap.size) (.string ⟨#[]⟩) (.int .u8 0) (.string ⟨#[]⟩) (.int .i64 0)
          generalize ((((w4.setCell ⟨w.heap.size, 0, none⟩ (.string ⟨#[]⟩)).setCell ⟨w.heap.size, 1, none⟩ (.int .u8 0)).setCell ⟨w.heap.size, 2, none⟩ (.string ⟨#[]⟩)).setCell ⟨w.heap.size, 3, none⟩ (.int .i64 0)) = WF at *
          exact bodyPost_ret (v := .tuple #[noCh, .int .i64 5]) (by simp [results, Tryz.results38, go_sem, hF.c0, hF.c1, hF.c2, hF.c3, noCh]) rfl ⟨by rw [Hr.out, Hq.out, Hop.out]; rfl, hB⟩
        | inr c =>
          have hcc := operand_inr hop
          have Hop : Hid (Thk.operand (toL p) a (toL t) = .inr c) := hop
          have y := hc c hop
          have hri : (Sum.inr c : Nat ⊕ Thk.Ch).isRight = true := rfl
          rw [hri]
          clear hop hc hri
          have Hv : Hid (chV c = .agg #[.string p, .int .u8 (a.toNat : Int), .string (keptVal a t), .int .i64 c.n]) := by
            unfold Hid chV
            rw [hcc]
            simp only [mk_toL]
          clear hcc
          have hvs : (keptVal a t).size ≤ 1048576 := Nat.le_trans (keptVal_size a t) hts
          generalize keptVal a t = v at *
          generalize c.n = n at *
          have y0 := y.c0
          have y1 := y.c1
          have y2 := y.c2
          have y3 := y.c3
          clear y
          go_wp2_with fail
          refine Calls.mono (copied_any p a v n w4 hps hvs) ?_
          rintro e w5 ⟨rfl, hb5⟩
          have b5 : Hid (Below w.heap.size w w5) := b4.out.trans (hb5.mono b4.out.size)
          have a5 : Hid (ChAt w5 w.heap.size ⟨#[]⟩ 0 ⟨#[]⟩ 0) := a4.out.below hb5
          clear hb5 x0 x1 x2 x3 xf y0 y1 y2 y3
          have x0 := a5.out.c0
          have x1 := a5.out.c1
          have x2 := a5.out.c2
          have x3 := a5.out.c3
          have xf := a5.out.tag.frozen
          go_wp2
          have hF := a5.out.store p a v n
          have hB := below_store b5.out (Nat.le_refl w.heap.size) (.string p) (.int .u8 (a.toNat : Int)) (.string v) (.int .i64 n)
          generalize ((((w5.setCell ⟨w.heap.size, 0, none⟩ (.string p)).setCell ⟨w.heap.size, 1, none⟩ (.int .u8 (a.toNat : Int))).setCell ⟨w.heap.size, 2, none⟩ (.string v)).setCell ⟨w.heap.size, 3, none⟩ (.int .i64 n)) = WF at *
          exact bodyPost_ret (v := .tuple #[.agg #[.string p, .int .u8 (a.toNat : Int), .string v, .int .i64 n], .int .i64 0]) (by simp [results, Tryz.results38, go_sem, hF.c0, hF.c1, hF.c2, hF.c3]) rfl ⟨by rw [Hr.out, Hq.out, Hop.out]; show _ = Ending.returned (.tuple #[chV c, .int .i64 0]); rw [Hv.out], hB⟩
end Go.Proofs.YtoiiaankpnhppaaGreatDoor

