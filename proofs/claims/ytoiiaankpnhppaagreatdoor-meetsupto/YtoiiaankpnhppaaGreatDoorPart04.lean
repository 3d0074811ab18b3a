import Derived.Handy
import Derived.Deep.DeepCutAuto
import Derived.Deep.RegionWith
import Derived.Deep.RegionLawGrows
import Derived.Laws.AppendOwnNone
import Derived.WalkKit
import Derived.Test.YtoiiaankpnhppaaGreatDoorPart03
set_option linter.unusedVariables false
set_option linter.unusedSimpArgs false
namespace Go.Proofs.YtoiiaankpnhppaaGreatDoor
open Go.RowKit

abbrev zeroEv : Value := .agg #[.string ⟨#[]⟩, .int .u8 0, .string ⟨#[]⟩, .int .i64 0, .slice none 0 0]
def ReadEnd (r : Nat ⊕ Thk.Ch) (e : Ending) : Prop :=
  match r with
  | .inl k => e = .returned (.tuple #[zeroEv, .int .i64 (k : Int)])
  | .inr c => ∃ p v, e = .returned (.tuple #[.agg #[.string p, .int .u8 (c.act.toNat : Int), .string v, .int .i64 c.n, .slice none 0 0], .int .i64 0]) ∧ toL p = c.path ∧ toL v = c.val

structure Blk5 (b : Nat) (v0 v1 v2 v3 v4 : Value) (w : World) : Prop where
  c0 : w.cell? ⟨b, 0, none⟩ = some v0
  c1 : w.cell? ⟨b, 1, none⟩ = some v1
  c2 : w.cell? ⟨b, 2, none⟩ = some v2
  c3 : w.cell? ⟨b, 3, none⟩ = some v3
  c4 : w.cell? ⟨b, 4, none⟩ = some v4
  f : ∀ j, w.frozen? ⟨b, j, none⟩ = false

theorem Blk5.below {b B : Nat} {v0 v1 v2 v3 v4 : Value} {w w' : World} (h : Blk5 b v0 v1 v2 v3 v4 w) (hb : Below B w w') (hB : b < B) : Blk5 b v0 v1 v2 v3 v4 w' :=
  ⟨(hb.cell (p := ⟨b, 0, none⟩) hB).trans h.c0, (hb.cell (p := ⟨b, 1, none⟩) hB).trans h.c1, (hb.cell (p := ⟨b, 2, none⟩) hB).trans h.c2, (hb.cell (p := ⟨b, 3, none⟩) hB).trans h.c3, (hb.cell (p := ⟨b, 4, none⟩) hB).trans h.c4, fun j => (hb.frozen (p := ⟨b, j, none⟩) hB).trans (h.f j)⟩

theorem blk5 {w w1 : World} {B : Nat} {v0 v1 v2 v3 v4 : Value} {t : TypeId} (hb : Below B (w.alloc (.cells #[v0, v1, v2, v3, v4] t)) w1) (hB : w.heap.size < B) : Blk5 w.heap.size v0 v1 v2 v3 v4 w1 := by
  have hc : ∀ j, w1.cell? ⟨w.heap.size, j, none⟩ = _ := fun j => hb.cell (p := ⟨w.heap.size, j, none⟩) hB
  have hf : ∀ j, w1.frozen? ⟨w.heap.size, j, none⟩ = _ := fun j => hb.frozen (p := ⟨w.heap.size, j, none⟩) hB
  refine ⟨?_, ?_, ?_, ?_, ?_, fun j => ?_⟩
  all_goals first | (rw [hc]; simp; done) | (rw [hf]; simp; done)

theorem below_set5 {B b : Nat} {w w1 : World} (h : Below B w w1) (hb : B ≤ b) (v0 v1 v2 v3 v4 : Value) :
    Below B w (((((w1.setCell ⟨b, 0, none⟩ v0).setCell ⟨b, 1, none⟩ v1).setCell ⟨b, 2, none⟩ v2).setCell ⟨b, 3, none⟩ v3).setCell ⟨b, 4, none⟩ v4) :=
  ((((h.setCell hb _).setCell hb _).setCell hb _).setCell hb _).setCell hb _

set_option maxHeartbeats 2000000 in
theorem Read_any (s : ByteArray) (w : World) (hs : s.size ≤ 1048576) :
    Calls Tryz.prog 144 #[.string s] w fun e w' => ReadEnd (Thk.read (toL s)) e ∧ Below w.heap.size w w' := by
  go_enter Tryz.func144, Tryz.ntmps144
  go_wp2
  go_loop [4, 5] (fun i _ => ∃ k : Nat, k ≤ s.size ∧ i = .int .i64 k ∧ Hid (∀ j (h : j < (toL s).length), j < k → Thk.isAct (toL s)[j] = false)) (fun i _ => s.size - (intOf i).toNat)
  case atStart => exact ⟨0, by omega, rfl, fun j _ b => by omega⟩
  case round =>
    obtain ⟨k, hk, rfl, Hall⟩ := hrel
    by_cases hlt : k < s.size
    · have hl := toL_length s
      have hget : (toL s)[k]'(by omega) = s[k] := toL_get s k hlt
      cases hact : Thk.isAct s[k]
      · have Hn : Hid (∀ j (h : j < (toL s).length), j < k + 1 → Thk.isAct (toL s)[j] = false) := by
          intro j h b
          by_cases e : j = k
          · subst e; rw [hget]; exact hact
          · exact Hall.out j h (by omega)
        have Ha : Hid (Thk.isAct s[k] = false) := hact
        clear hact Hall hget hl
        go_wp2_with (go_at_call 195; refine (action_any _ _).mono ?_; rintro e w' ⟨rfl, rfl⟩; rw [Ha.out])
        go_round
        case rel => exact ⟨k + 1, by omega, by go_num, Hn⟩
        case measure => simp [intOf]; omega
      · have Hread : Hid (Thk.read (toL s) = Thk.readAt (toL s) k) := Thk.read_some _ k (by omega) Hall.out (by rw [hget]; exact hact)
        have Ha : Hid (Thk.isAct s[k] = true) := hact
        have Hget : Hid ((toL s).getD k 0 = s[k]) := by unfold Hid; rw [List.getD_eq_getElem?_getD, List.getElem?_eq_getElem (by omega), hget]; (first | done | rfl)
        clear hact Hall hget hl
        go_wp2_with (go_at_call 195; refine (action_any _ _).mono ?_; rintro e w' ⟨rfl, rfl⟩; rw [Ha.out])
        refine (Path_any (s.extract 0 k) _ (by simp [ByteArray.size_extract]; omega)).mono ?_
        rintro e w1 ⟨rfl, hb1⟩
        have Hex : Hid (toL (s.extract 0 k) = (toL s).take k) := by unfold Hid; rw [toL_extract]; simp
        cases hp : Thk.path (toL (s.extract 0 k))
        · have hfin : Hid (Thk.read (toL s) = .inl 4) := by
            rw [Hex.out] at hp; unfold Hid; rw [Hread.out]; unfold Thk.readAt; rw [if_pos hp]
          have hB2 : Below w.heap.size w w1 := ((Below.refl _ _).alloc (Nat.le_refl _) _).trans (hb1.mono (by simp))
          obtain ⟨b0, b1, b2, b3, b4, hf⟩ := blk5 hb1 (by simp)
          clear hb1
          go_wp2
          refine bodyPost_ret (v := (.tuple #[zeroEv, .int .i64 4])) (by simp [results, Tryz.results144, go_sem, b0, b1, b2, b3, b4]) rfl ⟨?_, below_set5 hB2 (Nat.le_refl _) _ _ _ _ _⟩
          rw [hfin.out]; (first | done | rfl)
        · have hB1 : Below w.heap.size w w1 := ((Below.refl _ _).alloc (Nat.le_refl _) _).trans (hb1.mono (by simp))
          have HE : Hid (Blk5 w.heap.size (.string ⟨#[]⟩) (.int .u8 0) (.string ⟨#[]⟩) (.int .i64 0) (.slice none 0 0) w1) := blk5 hb1 (by simp)
          have hsz : w.heap.size < w1.heap.size := by have := hb1.size; simp at this; omega
          clear hb1
          go_wp2
          go_region
          go_wp2_with fail
          have Hkind : Hid (∀ wx : World, Calls Tryz.prog 190 #[.string (s.extract 0 k)] wx fun e w' => e = .returned (.int .u8 ((Thk.kindOf (toL (s.extract 0 k))).toNat : Int)) ∧ Below wx.heap.size wx w') := fun wx => kind_any _ wx (by simp [ByteArray.size_extract]; omega) hp
          have Hp : Hid (_) := hp
          have Hdr : Hid ((toL s).drop (k + 1) = toL (s.extract (k + 1) s.size)) := by unfold Hid; rw [toL_extract, ← toL_length s, List.take_length]
          clear hp
          go_cut [6] from 42 to 47 (fun ok wx => ok = .bool (fitsB (Thk.kindOf (toL (s.extract 0 k))) s[k]) ∧ Below w1.heap.size w1 wx ∧ Blk5 w1.heap.size (.string (s.extract 0 k)) (.int .u8 (s[k].toNat : Int)) (.string (s.extract (k + 1) s.size)) (.int .i64 0) (.slice none 0 0) wx)
          case first =>
            go_region_with (first | (go_at_call 190; refine (Hkind.out _).mono ?_; rintro e w2 ⟨rfl, hb2⟩; have hb3 : Below (w1.heap.size + 1) (w1.alloc (.cells #[.string (s.extract 0 k), .int .u8 (s[k].toNat : Int), .string (s.extract (k + 1) s.size), .int .i64 0, .slice none 0 0] 207)) w2 := Below.trans (by go_grown) (hb2.mono (by simp)); obtain ⟨d0, d1, d2, d3, d4, df⟩ := blk5 hb3 (by omega)) | (go_at_call 196; refine (fits_any _ _ _).mono ?_; rintro e w3 ⟨rfl, rfl⟩))
            all_goals
              go_wp2_with fail
              go_meet
              exact ⟨rfl, ((Below.refl _ _).alloc (Nat.le_refl _) _).trans (hb3.mono (by omega)), blk5 hb3 (by omega)⟩
          case rest =>
          obtain ⟨rfl, hb4, hev⟩ := hcut
          obtain ⟨b0, b1, b2, b3, b4, bf⟩ := HE.out.below hb4 hsz
          obtain ⟨d0, d1, d2, d3, d4, df⟩ := hev
          have hB2 : Below w.heap.size w wc := hB1.trans (hb4.mono (by omega))
          clear hb4 HE Hkind hB1
          cases hft : fitsB (Thk.kindOf (toL (s.extract 0 k))) s[k]
          · have hfin : Hid (Thk.read (toL s) = .inl 6) := by
              unfold Hid; rw [Hread.out]; unfold Thk.readAt; rw [if_neg (by rw [← Hex.out, Hp.out]; simp), if_pos (by rw [Hget.out, ← Hex.out]; exact hft)]
            clear hft
            go_wp2
            refine bodyPost_ret (v := (.tuple #[zeroEv, .int .i64 6])) (by simp [results, Tryz.results144, go_sem, b0, b1, b2, b3, b4]) rfl ⟨?_, below_set5 hB2 (Nat.le_refl _) _ _ _ _ _⟩
            rw [hfin.out]; (first | done | rfl)
          · have Hop : Hid (Thk.read (toL s) = Thk.operand (toL (s.extract 0 k)) s[k] (toL (s.extract (k + 1) s.size))) := by
              unfold Hid; rw [Hread.out]; unfold Thk.readAt; rw [if_neg (by rw [← Hex.out, Hp.out]; simp), if_neg (by rw [Hget.out, ← Hex.out]; unfold fitsB at hft; unfold Thk.fits; rw [hft]; simp), Hget.out, Hex.out, Hdr.out]
            clear hft Hread Hget Hex Hdr
            have hne : w.heap.size ≠ w1.heap.size := by omega
            cases h43 : ((s[k].toNat : Int) == 43)
            · cases h45 : ((s[k].toNat : Int) == 45)
              · cases h61 : ((s[k].toNat : Int) == 61)
                · cases h62 : ((s[k].toNat : Int) == 62)
                  · have hc3 : ¬ (s[k].toNat = 43 ∨ s[k].toNat = 45 ∨ s[k].toNat = 61) ∧ ¬ s[k].toNat = 62 := by simp only [beq_eq_false_iff_ne] at *; omega
                    cases hv : (s.extract (k + 1) s.size).toList.isEmpty
                    · have hfin : Hid (Thk.read (toL s) = .inl 5) := by
                        unfold Hid; rw [Hop.out]; unfold Thk.operand; rw [if_neg hc3.1, if_neg hc3.2, if_neg (by rw [toList_eq] at hv; simp only [toL]; intro h; rw [h] at hv; cases hv)]
                      clear hc3 Hop
                      go_wp2
                      refine bodyPost_ret (v := (.tuple #[zeroEv, .int .i64 5])) (by simp [results, Tryz.results144, go_sem, b0, b1, b2, b3, b4]) rfl ⟨?_, below_set5 hB2 (Nat.le_refl _) _ _ _ _ _⟩
                      rw [hfin.out]; (first | done | rfl)
                    · have hfin : Hid (Thk.read (toL s) = .inr ⟨toL (s.extract 0 k), s[k], toL (s.extract (k + 1) s.size), 0⟩) := by
                        unfold Hid; rw [Hop.out]; unfold Thk.operand; rw [if_neg hc3.1, if_neg hc3.2, if_pos (by rw [toList_eq] at hv; exact List.isEmpty_iff.1 hv)]
                      clear hc3 Hop
                      go_wp2
                      refine bodyPost_ret (v := (.tuple #[.agg #[.string (s.extract 0 k), .int .u8 (s[k].toNat : Int), .string (s.extract (k + 1) s.size), .int .i64 0, .slice none 0 0], .int .i64 0])) (by simp [results, Tryz.results144, go_sem, b0, b1, b2, b3, b4]) rfl ⟨?_, below_set5 hB2 (Nat.le_refl _) _ _ _ _ _⟩
                      rw [hfin.out]; exact ⟨_, _, rfl, rfl, rfl⟩
                  · have hc3 : s[k].toNat = 62 := by simp only [beq_iff_eq] at h62; omega
                    have Hop2 : Hid (Thk.read (toL s) = match Thk.num (toL (s.extract (k + 1) s.size)) with | some n => .inr ⟨toL (s.extract 0 k), s[k], toL (s.extract (k + 1) s.size), n⟩ | none => .inl 5) := by
                      unfold Hid; rw [Hop.out]; unfold Thk.operand; rw [if_neg (by omega), if_pos hc3]; (first | done | rfl)
                    clear hc3 Hop
                    go_wp2_with fail
                    refine (number_any _ _ (by simp [ByteArray.size_extract]; omega)).mono ?_
                    rintro e w' ⟨⟨m, rfl, hm⟩, rfl⟩
                    cases hn : Thk.num (toL (s.extract (k + 1) s.size)) with
                    | none =>
                      have hfin : Hid (Thk.read (toL s) = .inl 5) := by unfold Hid; rw [Hop2.out, hn]
                      clear hm hn Hop2
                      go_wp2
                      refine bodyPost_ret (v := .tuple #[zeroEv, .int .i64 5]) (by simp [results, Tryz.results144, go_sem, b0, b1, b2, b3, b4, hne, hne.symm]) rfl ⟨?_, below_set5 (hB2.setCell (by show w.heap.size ≤ w1.heap.size; omega) _) (Nat.le_refl _) _ _ _ _ _⟩
                      rw [hfin.out]; (first | done | rfl)
                    | some n =>
                      have hfin : Hid (Thk.read (toL s) = .inr ⟨toL (s.extract 0 k), s[k], toL (s.extract (k + 1) s.size), m⟩) := by unfold Hid; rw [Hop2.out, hn, hm n hn]
                      clear hm hn Hop2
                      go_wp2
                      refine bodyPost_ret (v := (.tuple #[.agg #[.string (s.extract 0 k), .int .u8 (s[k].toNat : Int), .string (s.extract (k + 1) s.size), .int .i64 m, .slice none 0 0], .int .i64 0])) (by simp [results, Tryz.results144, go_sem, b0, b1, b2, b3, b4, hne, hne.symm]) rfl ⟨?_, below_set5 (hB2.setCell (by show w.heap.size ≤ w1.heap.size; omega) _) (Nat.le_refl _) _ _ _ _ _⟩
                      rw [hfin.out]; exact ⟨_, _, rfl, rfl, rfl⟩
                · have hc3 : s[k].toNat = 43 ∨ s[k].toNat = 45 ∨ s[k].toNat = 61 := by simp only [beq_iff_eq, beq_eq_false_iff_ne] at *; omega
                  cases hv : Thk.val (s.extract (k + 1) s.size).data.toList
                  · have hfin : Hid (Thk.read (toL s) = .inl 5) := by
                      unfold Hid; rw [Hop.out]; unfold Thk.operand; rw [if_pos hc3, (show Thk.val (toL (s.extract (k + 1) s.size)) = _ from hv)]; (first | done | rfl)
                    have Hv : Hid (_) := hv
                    clear hv hc3
                    go_wp2_with (go_at_call 197; refine (value_any _ _ (by simp [ByteArray.size_extract]; omega)).mono ?_; rintro e w' ⟨rfl, rfl⟩; rw [Hv.out])
                    refine bodyPost_ret (v := (.tuple #[zeroEv, .int .i64 5])) (by simp [results, Tryz.results144, go_sem, b0, b1, b2, b3, b4]) rfl ⟨?_, below_set5 hB2 (Nat.le_refl _) _ _ _ _ _⟩
                    rw [hfin.out]; (first | done | rfl)
                  · have hfin : Hid (Thk.read (toL s) = .inr ⟨toL (s.extract 0 k), s[k], toL (s.extract (k + 1) s.size), 0⟩) := by
                      unfold Hid; rw [Hop.out]; unfold Thk.operand; rw [if_pos hc3, (show Thk.val (toL (s.extract (k + 1) s.size)) = _ from hv)]; (first | done | rfl)
                    have Hv : Hid (_) := hv
                    clear hv hc3
                    go_wp2_with (go_at_call 197; refine (value_any _ _ (by simp [ByteArray.size_extract]; omega)).mono ?_; rintro e w' ⟨rfl, rfl⟩; rw [Hv.out])
                    refine bodyPost_ret (v := (.tuple #[.agg #[.string (s.extract 0 k), .int .u8 (s[k].toNat : Int), .string (s.extract (k + 1) s.size), .int .i64 0, .slice none 0 0], .int .i64 0])) (by simp [results, Tryz.results144, go_sem, b0, b1, b2, b3, b4]) rfl ⟨?_, below_set5 hB2 (Nat.le_refl _) _ _ _ _ _⟩
                    rw [hfin.out]; exact ⟨_, _, rfl, rfl, rfl⟩
              · have hc3 : s[k].toNat = 43 ∨ s[k].toNat = 45 ∨ s[k].toNat = 61 := by simp only [beq_iff_eq, beq_eq_false_iff_ne] at *; omega
                cases hv : Thk.val (s.extract (k + 1) s.size).data.toList
                · have hfin : Hid (Thk.read (toL s) = .inl 5) := by
                    unfold Hid; rw [Hop.out]; unfold Thk.operand; rw [if_pos hc3, (show Thk.val (toL (s.extract (k + 1) s.size)) = _ from hv)]; (first | done | rfl)
                  have Hv : Hid (_) := hv
                  clear hv hc3
                  go_wp2_with (go_at_call 197; refine (value_any _ _ (by simp [ByteArray.size_extract]; omega)).mono ?_; rintro e w' ⟨rfl, rfl⟩; rw [Hv.out])
                  refine bodyPost_ret (v := (.tuple #[zeroEv, .int .i64 5])) (by simp [results, Tryz.results144, go_sem, b0, b1, b2, b3, b4]) rfl ⟨?_, below_set5 hB2 (Nat.le_refl _) _ _ _ _ _⟩
                  rw [hfin.out]; (first | done | rfl)
                · have hfin : Hid (Thk.read (toL s) = .inr ⟨toL (s.extract 0 k), s[k], toL (s.extract (k + 1) s.size), 0⟩) := by
                    unfold Hid; rw [Hop.out]; unfold Thk.operand; rw [if_pos hc3, (show Thk.val (toL (s.extract (k + 1) s.size)) = _ from hv)]; (first | done | rfl)
                  have Hv : Hid (_) := hv
                  clear hv hc3
                  go_wp2_with (go_at_call 197; refine (value_any _ _ (by simp [ByteArray.size_extract]; omega)).mono ?_; rintro e w' ⟨rfl, rfl⟩; rw [Hv.out])
                  refine bodyPost_ret (v := (.tuple #[.agg #[.string (s.extract 0 k), .int .u8 (s[k].toNat : Int), .string (s.extract (k + 1) s.size), .int .i64 0, .slice none 0 0], .int .i64 0])) (by simp [results, Tryz.results144, go_sem, b0, b1, b2, b3, b4]) rfl ⟨?_, below_set5 hB2 (Nat.le_refl _) _ _ _ _ _⟩
                  rw [hfin.out]; exact ⟨_, _, rfl, rfl, rfl⟩
            · have hc3 : s[k].toNat = 43 ∨ s[k].toNat = 45 ∨ s[k].toNat = 61 := by simp only [beq_iff_eq, beq_eq_false_iff_ne] at *; omega
              cases hv : Thk.val (s.extract (k + 1) s.size).data.toList
              · have hfin : Hid (Thk.read (toL s) = .inl 5) := by
                  unfold Hid; rw [Hop.out]; unfold Thk.operand; rw [if_pos hc3, (show Thk.val (toL (s.extract (k + 1) s.size)) = _ from hv)]; (first | done | rfl)
                have Hv : Hid (_) := hv
                clear hv hc3
                go_wp2_with (go_at_call 197; refine (value_any _ _ (by simp [ByteArray.size_extract]; omega)).mono ?_; rintro e w' ⟨rfl, rfl⟩; rw [Hv.out])
                refine bodyPost_ret (v := (.tuple #[zeroEv, .int .i64 5])) (by simp [results, Tryz.results144, go_sem, b0, b1, b2, b3, b4]) rfl ⟨?_, below_set5 hB2 (Nat.le_refl _) _ _ _ _ _⟩
                rw [hfin.out]; (first | done | rfl)
              · have hfin : Hid (Thk.read (toL s) = .inr ⟨toL (s.extract 0 k), s[k], toL (s.extract (k + 1) s.size), 0⟩) := by
                  unfold Hid; rw [Hop.out]; unfold Thk.operand; rw [if_pos hc3, (show Thk.val (toL (s.extract (k + 1) s.size)) = _ from hv)]; (first | done | rfl)
                have Hv : Hid (_) := hv
                clear hv hc3
                go_wp2_with (go_at_call 197; refine (value_any _ _ (by simp [ByteArray.size_extract]; omega)).mono ?_; rintro e w' ⟨rfl, rfl⟩; rw [Hv.out])
                refine bodyPost_ret (v := (.tuple #[.agg #[.string (s.extract 0 k), .int .u8 (s[k].toNat : Int), .string (s.extract (k + 1) s.size), .int .i64 0, .slice none 0 0], .int .i64 0])) (by simp [results, Tryz.results144, go_sem, b0, b1, b2, b3, b4]) rfl ⟨?_, below_set5 hB2 (Nat.le_refl _) _ _ _ _ _⟩
                rw [hfin.out]; exact ⟨_, _, rfl, rfl, rfl⟩
    · have hfin : Hid (Thk.read (toL s) = .inl 4) := Thk.read_none _ (fun j hj => Hall.out j hj (by rw [toL_length] at hj; omega))
      clear Hall
      go_wp2
      go_returns
      refine ⟨by rw [hfin.out]; (first | done | rfl), by go_grown⟩


theorem evCells_cons (e : Ev) (es : List Ev) (v : Value) (vs : List Value) : evCells (e :: es) (v :: vs) = [.string e.p, .int .u8 (e.a.toNat : Int), .string e.v, .int .i64 e.n, v] ++ evCells es vs := rfl
theorem evCells_get : ∀ (es : List Ev) (svs : List Value), svs.length = es.length → ∀ j (h : j < es.length) (h' : j < svs.length),
    (evCells es svs)[j * 5]? = some (.string es[j].p) ∧ (evCells es svs)[j * 5 + 1]? = some (.int .u8 (es[j].a.toNat : Int)) ∧ (evCells es svs)[j * 5 + 2]? = some (.string es[j].v) ∧ (evCells es svs)[j * 5 + 3]? = some (.int .i64 es[j].n) ∧ (evCells es svs)[j * 5 + 4]? = some svs[j] := by
  intro es
  induction es with
  | nil => intro svs _ j h; simp at h
  | cons e es ih =>
    intro svs hl j h h'
    cases svs with
    | nil => simp at hl
    | cons v vs =>
      rw [evCells_cons]
      cases j with
      | zero => simp
      | succ j =>
        have hl' : vs.length = es.length := by simpa using hl
        obtain ⟨a, b, c, d, f⟩ := ih vs hl' j (by simpa using h) (by simpa using h')
        have s : ∀ i, ([.string e.p, .int .u8 (e.a.toNat : Int), .string e.v, .int .i64 e.n, v] ++ evCells es vs)[(j + 1) * 5 + i]? = (evCells es vs)[j * 5 + i]? := by
          intro i
          rw [List.getElem?_append_right (by simp; omega)]
          congr 1
          simp; omega
        have s0 := s 0
        simp only [Nat.add_zero] at s0
        exact ⟨s0.trans a, (s 1).trans b, (s 2).trans c, (s 3).trans d, (s 4).trans f⟩
theorem evCells_snoc : ∀ (es : List Ev) (svs : List Value), svs.length = es.length → ∀ e v, evCells (es ++ [e]) (svs ++ [v]) = evCells es svs ++ [.string e.p, .int .u8 (e.a.toNat : Int), .string e.v, .int .i64 e.n, v] := by
  intro es svs hl e v
  unfold evCells
  rw [List.zip_append hl.symm, List.flatMap_append]; (first | done | rfl)

theorem RefAt.evsIn {w : World} {c rb : Nat} {evv fv : Value} {av : Nat → Value} {room : Nat} {es : List Ev} {acc most : Nat} {knowns : List (List Bool)} (h : RefAt w c rb evv fv av room es acc most knowns) : EvsIn w.heap.size w evv es := by
  obtain ⟨svs, hl, hown, hsv⟩ := h.evs
  have h0 := hown
  obtain ⟨hx, h1 | ⟨g, cap, cur, rfl, hg, hh, hc, hm, hs, hcur⟩⟩ := hown
  · left; exact ⟨h1.1, List.eq_nil_of_length_eq_zero h1.2⟩
  · right
    refine ⟨g, 0, cap, rfl, hc, (h0.lt g rfl).2, fun j hj => ?_⟩
    obtain ⟨a, b, c, d, f⟩ := evCells_get es svs hl j hj (by omega)
    have hcell : ∀ i, i < 5 → w.cell? ⟨g, 0 + j * 5 + i, none⟩ = (evCells es svs)[j * 5 + i]? := fun i hi => by
      rw [Nat.zero_add]; exact h0.cellAt (j * 5 + i) (by omega)
    have hc0 := hcell 0 (by omega)
    simp only [Nat.add_zero] at hc0
    exact ⟨svs[j]'(by omega), hc0.trans a, (hcell 1 (by omega)).trans b, (hcell 2 (by omega)).trans c, (hcell 3 (by omega)).trans d, (hcell 4 (by omega)).trans f, (hsv j (by omega) hj).toIn⟩

set_option maxHeartbeats 1000000 in
theorem Alive_any (evv : Value) (es : List Ev) (kv : Value) (known : List Bool) (w : World) (hn : es.length ≤ 1000) (hkn : known.length ≤ 1000)
    (hev : EvsIn w.heap.size w evv es) (hkv : SliceIn w.heap.size w kv (bools known)) (hz : ∀ e ∈ es, EvOk e) :
    Calls Tryz.prog 139 #[evv, kv] w fun e w' => ∃ v, e = .returned v ∧ w'.ownsRow w.heap.size 3 1 v (aliveTo es known es.length).length (nats (aliveTo es known es.length)) ∧ Below w.heap.size w w' := by
  have hev0 := hev
  rcases hev with ⟨rfl, rfl⟩ | ⟨b, off, cap, rfl, hcap, hb, hc⟩
  · clear hz hkv hev0
    go_enter Tryz.func139, Tryz.ntmps139
    go_wp2
    go_rounds 1
    go_ret
    exact ⟨_, rfl, World.ownsRow_nil _ _ _ _, Below.refl _ _⟩
  · exact Alive_some w.heap.size b off cap es kv known w (Nat.le_refl _) hcap hn hkn hev0 hkv (fun e he => ⟨by have := (hz e he).p; omega, (hz e he).s⟩)

theorem EvsIn.mono {B B' : Nat} {w : World} {v : Value} {es : List Ev} (h : EvsIn B w v es) (hB : B ≤ B') : EvsIn B' w v es := by
  rcases h with h | ⟨b, off, cap, h1, h2, h3, h4⟩
  · exact Or.inl h
  · refine Or.inr ⟨b, off, cap, h1, h2, by omega, fun j hj => ?_⟩
    obtain ⟨sv, c0, c1, c2, c3, c4, c5⟩ := h4 j hj
    exact ⟨sv, c0, c1, c2, c3, c4, c5.mono hB⟩
theorem aliveTo_lt (es : List Ev) (known : List Bool) (n : Nat) : ∀ j ∈ aliveTo es known n, j < n := by
  intro j hj; unfold aliveTo at hj; have := (List.mem_filter.1 hj).1; simpa using this

def askR (es : List Ev) (knowns : List (List Bool)) (i : Int) (path : Thk.Bs) : Thk.Bs × Int :=
  if 0 ≤ i ∧ i < knowns.length then (if Thk.path path then (tellR es (aliveTo es (knowns.getD i.toNat []) es.length) path, 0) else ([], 4)) else ([], 2)

set_option maxHeartbeats 2000000 in
theorem RefAsk_any (w : World) (c rb : Nat) (evv fv : Value) (av : Nat → Value) (room : Nat) (es : List Ev) (acc most : Nat) (knowns : List (List Bool)) (h : RefAt w c rb evv fv av room es acc most knowns) (i : Int) (path : ByteArray) (hps : path.size ≤ 1048576) :
    Calls Tryz.prog 84 #[.pointer (some ⟨c, 0, none⟩), .int .i64 i, .string path] w fun e w' =>
      ∃ t, e = .returned (.tuple #[.string t, .int .i64 (askR es knowns i (toL path)).2]) ∧ toL t = (askR es knowns i (toL path)).1 ∧ Below w.heap.size w w' := by
  have H : Hid (RefAt w c rb evv fv av room es acc most knowns) := h
  by_cases hi : 0 ≤ i ∧ i < knowns.length
  · obtain ⟨k, rfl⟩ := Int.eq_ofNat_of_zero_le hi.1
    have hk : k < knowns.length := by omega
    have Hask : Hid (askR es knowns (k : Int) (toL path) = if Thk.path (toL path) then (tellR es (aliveTo es knowns[k] es.length) (toL path), 0) else ([], 4)) := by
      unfold Hid askR; rw [if_pos hi]; simp [List.getElem?_eq_getElem hk]
    obtain ⟨cap, f1, hcap⟩ := h.f1
    have f2 := h.f2
    obtain ⟨kv, c0, hkv⟩ := (h.reps k hk).c0
    have h6 := h.n6
    have Hkv : Hid (SliceT 4 w kv (bools knowns[k])) := hkv
    have hck := h.tc.lt
    have hrb := h.trb.lt
    have Hevs : Hid (EvsIn w.heap.size w evv es) := h.evsIn
    have Hok : Hid (∀ e ∈ es, EvOk e) := h.ok
    have hn5 := h.n500
    have hkl := h.kn _ (List.getElem_mem hk)
    clear hkv h
    generalize knowns[k] = kn at *
    go_enter Tryz.func84, Tryz.ntmps84
    go_wp2_with fail
    refine (Up_any w c rb evv fv av room es acc most knowns H.out (k : Int)).mono ?_
    rintro e w1 ⟨rfl, hw1⟩
    subst hw1
    rw [if_pos hi]
    go_wp2_with fail
    refine (Path_any path _ hps).mono ?_
    rintro e w2 ⟨rfl, hb2⟩
    cases hp : Thk.path (toL path)
    · have Ha : Hid (askR es knowns (k : Int) (toL path) = ([], 4)) := by unfold Hid; rw [Hask.out, hp]; (first | done | rfl)
      clear hp
      go_wp2
      go_ret2
      exact ⟨ByteArray.empty, by rw [Ha.out]; (first | done | rfl), by rw [Ha.out]; (first | done | rfl), hb2⟩
    · have Ha : Hid (askR es knowns (k : Int) (toL path) = (tellR es (aliveTo es kn es.length) (toL path), 0)) := by unfold Hid; rw [Hask.out, hp]; (first | done | rfl)
      have Hp : Hid (Thk.path (toL path) = true) := hp
      have g1 := (hb2.cell (p := ⟨c, 1, none⟩) hck).trans f1
      have g2 := (hb2.cell (p := ⟨c, 2, none⟩) hck).trans f2
      have g0 := (hb2.cell (p := ⟨rb, k * 13, none⟩) hrb).trans c0
      clear hp f1 f2 c0
      go_wp2_with fail
      have Hal : Hid (∀ wx : World, Below w2.heap.size w2 wx → Calls Tryz.prog 139 #[evv, kv] wx fun e w' => ∃ v, e = .returned v ∧ w'.ownsRow wx.heap.size 3 1 v (aliveTo es kn es.length).length (nats (aliveTo es kn es.length)) ∧ Below wx.heap.size wx w') := by
        intro wx hwx
        have hb3 : Below w1.heap.size w1 wx := hb2.trans (hwx.mono hb2.size)
        exact Alive_any evv es kv kn wx (by omega) (by omega) ((Hevs.out.below hb3).mono hb3.size) ((Hkv.out.toIn.below hb3).mono hb3.size) Hok.out
      go_cut [10] from 21 to 33 (fun al wx => SliceT 3 wx al (nats (aliveTo es kn es.length)) ∧ Below w2.heap.size w2 wx)
      case first =>
        go_region_with (go_at_call 139; refine (Hal.out _ ?_).mono ?_; (go_grown); rintro e w3 ⟨v3, rfl, hown3, hb3⟩)
        all_goals
          go_wp2_with fail
          go_meet
          exact ⟨own_sliceT hown3, Below.trans (by go_grown) (hb3.mono (by simp))⟩
      case rest =>
      obtain ⟨hal, hb4⟩ := hcut
      have hb5 : Below w1.heap.size w1 wc := hb2.trans (hb4.mono hb2.size)
      have k2 := (hb4.cell (p := ⟨c, 2, none⟩) (Nat.lt_of_lt_of_le hck hb2.size)).trans g2
      have HT : Hid (_) := Tell_any wc.heap.size evv es _ (aliveTo es kn es.length) path wc (Nat.le_refl _) (by omega) ((Hevs.out.below hb5).mono hb5.size) hal.toIn (aliveTo_lt _ _ _) (by have := aliveTo_le es kn es.length; omega) Hok.out hps Hp.out
      clear g0 g1 g2 hal Hal
      go_wp2_with fail
      refine Calls.mono HT.out ?_
      rintro e w6 ⟨t, rfl, ht, hb6⟩
      go_wp2
      go_ret2
      exact ⟨t, by rw [Ha.out]; (first | done | rfl), by rw [Ha.out]; exact ht, hb5.trans (hb6.mono hb5.size)⟩
  · have Hask : Hid (askR es knowns i (toL path) = ([], 2)) := by unfold Hid askR; rw [if_neg hi]
    clear h
    go_enter Tryz.func84, Tryz.ntmps84
    go_wp2_with fail
    refine (Up_any w c rb evv fv av room es acc most knowns H.out i).mono ?_
    rintro e w1 ⟨rfl, hw1⟩
    subst hw1
    rw [if_neg hi]
    go_wp2
    go_ret2
    exact ⟨ByteArray.empty, by rw [Hask.out]; (first | done | rfl), by rw [Hask.out]; (first | done | rfl), Below.refl _ _⟩


theorem step_append_own {P : Program} {ops : Array Oper} {o : Oper} {a : Act} {w : World} {K : Act → World → Prop} {Q : Exit → Act → World → Prop} {E : Prop}
    (hg : o.guard = none) (s x : Operand) (t : TypeId) (hop : o.op = Op.call { callee := Callee.builtin Builtin.append, args := #[s, x], argTypes := #[t, t] })
    (base : Nat) (e : TypeId) (i : TypeInfo) (z : Value) (size bytes : Nat) (h1 : P.underlying t = some (.slice e)) (h2 : P.info? e = some i) (h3 : i.zero = some z) (h4 : i.size = size) (h5 : i.bytes = bytes) (h6 : z.cells.size = size) (h7 : 0 < size)
    (v : Value) (n : Nat) (xs : List Value) (hs : a.eval s = v) (hown : w.ownsRow base e size v n xs)
    (ad : Addr) (m c : Nat) (news : List Value) (hx : a.eval x = .slice (some ad) m c) (hn : news.length = m * size) (hc : ∀ j u, news[j]? = some u → w.cell? (ad.add j) = some u) (h1c : ∀ u ∈ news, u.oneCell' = true)
    (b1 : n + m ≤ maxLen) (b2 : (n + m) * bytes ≤ 140737488355328) (hbase : base ≤ w.heap.size)
    (hK : ∀ v' w', w'.ownsRow base e size v' (n + m) (xs ++ news) → w.grownBy w' v.ownBlock → K (a.put o.dst v') w') :
    if Region.wanted o (yielded ops a.tmps) = true then Oper.wp P o a w K Q else E := by
  have hw : Region.wanted o (yielded ops a.tmps) = true := by simp [Region.wanted, hg]
  rw [if_pos hw]
  obtain ⟨v', w', hrun, r1, r2, _⟩ := run_append_own (P := P) w base t o.type e i z size bytes h1 h2 h3 h4 h5 h6 h7 v n xs hown ad m c news hn hc h1c b1 b2 hbase
  unfold Oper.wp
  simp [execOp, hop, resolve, invoke, builtin, hs, hx, hrun, Result.andThen]
  exact hK v' w' r1 r2

theorem step_append_own_none {P : Program} {ops : Array Oper} {o : Oper} {a : Act} {w : World} {K : Act → World → Prop} {Q : Exit → Act → World → Prop} {E : Prop}
    (hg : o.guard = none) (s x : Operand) (t : TypeId) (hop : o.op = Op.call { callee := Callee.builtin Builtin.append, args := #[s, x], argTypes := #[t, t] })
    (base : Nat) (e : TypeId) (i : TypeInfo) (size : Nat) (h1 : P.underlying t = some (.slice e)) (h2 : P.info? e = some i)
    (v : Value) (n : Nat) (xs : List Value) (hs : a.eval s = v) (hown : w.ownsRow base e size v n xs) (hx : a.eval x = .slice none 0 0)
    (hK : K (a.put o.dst v) w) : if Region.wanted o (yielded ops a.tmps) = true then Oper.wp P o a w K Q else E := by
  have hw : Region.wanted o (yielded ops a.tmps) = true := by simp [Region.wanted, hg]
  rw [if_pos hw]
  have hrun := run_append_owned_none (P := P) (w := w) base t o.type e i size h1 h2 v n xs hown
  unfold Oper.wp
  simp [execOp, hop, resolve, invoke, builtin, hs, hx, hrun, Result.andThen]
  exact hK

theorem step_append_new {P : Program} {ops : Array Oper} {o : Oper} {a : Act} {w : World} {K : Act → World → Prop} {Q : Exit → Act → World → Prop} {E : Prop}
    (hg : o.guard = none) (s x : Operand) (t : TypeId) (hop : o.op = Op.call { callee := Callee.builtin Builtin.append, args := #[s, x], argTypes := #[t, t] })
    (base : Nat) (e : TypeId) (i : TypeInfo) (z : Value) (size bytes : Nat) (h1 : P.underlying t = some (.slice e)) (h2 : P.info? e = some i) (h3 : i.zero = some z) (h4 : i.size = size) (h5 : i.bytes = bytes) (h6 : z.cells.size = size) (h7 : 0 < size)
    (v : Value) (n : Nat) (xs : List Value) (hs : a.eval s = v) (hown : w.ownsRow base e size v n xs)
    (ad : Addr) (m c : Nat) (news : List Value) (hx : a.eval x = .slice (some ad) m c) (hn : news.length = m * size) (hc : ∀ j u, news[j]? = some u → w.cell? (ad.add j) = some u) (h1c : ∀ u ∈ news, u.oneCell' = true)
    (b1 : n + m ≤ maxLen) (b2 : (n + m) * bytes ≤ 140737488355328) (hpos : 0 < n + m) (W0 : World) (hW : Below base W0 w) (hbase : base ≤ W0.heap.size)
    (hK : ∀ g cap w', w'.ownsRow base e size (.slice (some ⟨g, 0, none⟩) (n + m) cap) (n + m) (xs ++ news) → Below base W0 w' → K (a.put o.dst (.slice (some ⟨g, 0, none⟩) (n + m) cap)) w') :
    if Region.wanted o (yielded ops a.tmps) = true then Oper.wp P o a w K Q else E := by
  have hb2 : base ≤ w.heap.size := Nat.le_trans hbase hW.size
  refine step_append_own hg s x t hop base e i z size bytes h1 h2 h3 h4 h5 h6 h7 v n xs hs hown ad m c news hx hn hc h1c b1 b2 hb2 ?_
  intro v' w' ho hgr
  have ho2 := ho
  obtain ⟨_, h | ⟨g, cap, cur, rfl, _⟩⟩ := ho2
  · omega
  · exact hK g cap w' ho (hW.grown hgr hb2 (fun k hk => (hown.lt k hk).1))

theorem step_append_below {P : Program} {ops : Array Oper} {o : Oper} {a : Act} {w : World} {K : Act → World → Prop} {Q : Exit → Act → World → Prop} {E : Prop}
    (hg : o.guard = none) (s x : Operand) (t : TypeId) (hop : o.op = Op.call { callee := Callee.builtin Builtin.append, args := #[s, x], argTypes := #[t, t] })
    (base : Nat) (e : TypeId) (i : TypeInfo) (z : Value) (size bytes : Nat) (h1 : P.underlying t = some (.slice e)) (h2 : P.info? e = some i) (h3 : i.zero = some z) (h4 : i.size = size) (h5 : i.bytes = bytes) (h6 : z.cells.size = size) (h7 : 0 < size)
    (v : Value) (n : Nat) (xs : List Value) (hs : a.eval s = v) (hown : w.ownsRow base e size v n xs)
    (ad : Addr) (m c : Nat) (news : List Value) (hx : a.eval x = .slice (some ad) m c) (hn : news.length = m * size) (h1c : ∀ u ∈ news, u.oneCell' = true)
    (b1 : n + m ≤ maxLen) (b2 : (n + m) * bytes ≤ 140737488355328) (W0 : World) (hW : Below base W0 w) (hbase : base ≤ W0.heap.size) (hc : ∀ wx, Below base W0 wx → ∀ j u, news[j]? = some u → wx.cell? (ad.add j) = some u)
    (hK : ∀ v' w', w'.ownsRow base e size v' (n + m) (xs ++ news) → Below base W0 w' → w.heap.size ≤ w'.heap.size → (∀ b o, b < w.heap.size → v.ownBlock ≠ some b → w'.cell? ⟨b, o, none⟩ = w.cell? ⟨b, o, none⟩) → K (a.put o.dst v') w') :
    if Region.wanted o (yielded ops a.tmps) = true then Oper.wp P o a w K Q else E := by
  have hb2 : base ≤ w.heap.size := Nat.le_trans hbase hW.size
  refine step_append_own hg s x t hop base e i z size bytes h1 h2 h3 h4 h5 h6 h7 v n xs hs hown ad m c news hx hn (hc w hW) h1c b1 b2 hb2 ?_
  intro v' w' ho hgr
  exact hK v' w' ho (hW.grown hgr hb2 (fun k hk => (hown.lt k hk).1)) hgr.size (fun b o hb hne => World.cell?_of_block (w := w) (hgr.block b hb (fun e => hne e.symm)))

theorem ownsRow_base {w : World} {base base' : Nat} {e : TypeId} {size : Nat} {v : Value} {n : Nat} {xs : List Value} (h : w.ownsRow base e size v n xs) (hb : base' ≤ base) : w.ownsRow base' e size v n xs := by
  obtain ⟨h1, h2 | ⟨g, cap, cur, hv, hg, r⟩⟩ := h
  · exact ⟨h1, Or.inl h2⟩
  · exact ⟨h1, Or.inr ⟨g, cap, cur, hv, Nat.le_trans hb hg, r⟩⟩

theorem step_append_row {P : Program} {ops : Array Oper} {o : Oper} {a : Act} {w : World} {K : Act → World → Prop} {Q : Exit → Act → World → Prop} {E : Prop}
    (hg : o.guard = none) (s x : Operand) (t : TypeId) (hop : o.op = Op.call { callee := Callee.builtin Builtin.append, args := #[s, x], argTypes := #[t, t] })
    (e : TypeId) (i : TypeInfo) (z : Value) (size bytes : Nat) (h1 : P.underlying t = some (.slice e)) (h2 : P.info? e = some i) (h3 : i.zero = some z) (h4 : i.size = size) (h5 : i.bytes = bytes) (h6 : z.cells.size = size) (h7 : 0 < size)
    (v : Value) (n : Nat) (xs : List Value) (hs : a.eval s = v) (hown : w.ownsRow 0 e size v n xs)
    (ad : Addr) (m c : Nat) (news : List Value) (hx : a.eval x = .slice (some ad) m c) (hn : news.length = m * size) (hc : ∀ j u, news[j]? = some u → w.cell? (ad.add j) = some u) (h1c : ∀ u ∈ news, u.oneCell' = true)
    (b1 : n + m ≤ maxLen) (b2 : (n + m) * bytes ≤ 140737488355328) (hpos : 0 < n + m)
    (hK : ∀ g cap w', w'.ownsRow 0 e size (.slice (some ⟨g, 0, none⟩) (n + m) cap) (n + m) (xs ++ news) → w.grownBy w' v.ownBlock → (v.ownBlock = some g ∨ w.heap.size ≤ g) → K (a.put o.dst (.slice (some ⟨g, 0, none⟩) (n + m) cap)) w') :
    if Region.wanted o (yielded ops a.tmps) = true then Oper.wp P o a w K Q else E := by
  have wide : ∀ w', w.grownBy w' none → w.grownBy w' v.ownBlock := fun w' h => ⟨h.os, h.tape, h.output, h.size, fun k hk _ => h.block k hk (by simp)⟩
  have fin : ∀ v' w', w'.ownsRow w.heap.size e size v' (n + m) (xs ++ news) → w.grownBy w' none → K (a.put o.dst v') w' := by
    intro v' w' ho hgr
    have ho2 := ho
    obtain ⟨_, h | ⟨g, cap, cur, rfl, hgb, _⟩⟩ := ho2
    · omega
    · exact hK g cap w' (ownsRow_base ho (Nat.zero_le _)) (wide w' hgr) (Or.inr hgb)
  have ho := hown
  obtain ⟨hx1, ⟨hv, hn0⟩ | ⟨g, cap, cur, hv, hgb, hh, hnc, hcm, hcs, htk⟩⟩ := ho
  · subst hv
    subst hn0
    have hxs : xs = [] := List.eq_nil_of_length_eq_zero (by rw [hx1]; simp)
    subst hxs
    exact step_append_grows hg s x t hop e i z size bytes h1 h2 h3 h4 h5 h6 h7 none 0 0 [] hs (fun _ => ⟨rfl, rfl⟩) (by simp) (fun b hb => by cases hb) ad m c news hx hn hc h1c (by omega) b1 b2 fin
  · subst hv
    by_cases hroom : n + m ≤ cap
    · have hw : Region.wanted o (yielded ops a.tmps) = true := by simp [Region.wanted, hg]
      rw [if_pos hw]
      obtain ⟨w', hrun, r1, r2⟩ := run_append_fits (P := P) w 0 t o.type e i size h1 h2 h4 g n cap xs hown ad m c news hn hc h1c hroom
      unfold Oper.wp
      simp [execOp, hop, resolve, invoke, builtin, hs, hx, hrun, Result.andThen]
      exact hK g cap w' r1 r2 (Or.inl rfl)
    · refine step_append_grows hg s x t hop e i z size bytes h1 h2 h3 h4 h5 h6 h7 (some ⟨g, 0, none⟩) n cap xs hs (fun h => by cases h) hx1 ?_ ad m c news hx hn hc h1c (by omega) b1 b2 fin
      intro b hb j u hj
      cases hb
      exact hown.cells rfl j u hj


theorem SliceT.chgT {t s : TypeId} {b : Nat} {w w' : World} {v : Value} {xs : List Value} (h : SliceT t w v xs) (hc : Chg (· = b) w w') (hb : Tagged w b s) (hne : t ≠ s) : SliceT t w' v xs :=
  h.chg hc fun c hcT e => (hcT.ne hb hne) e

theorem RepAt.keep {w w' : World} {rb off : Nat} {known : List Bool} {most most' : Nat} (h : RepAt w rb off known most) (hm : most ≤ most') (hS : ∀ t v xs, (t = 4 ∨ t = 3) → SliceT t w v xs → SliceT t w' v xs)
    (hcell : ∀ i, i < 13 → w'.cell? ⟨rb, off + i, none⟩ = w.cell? ⟨rb, off + i, none⟩) : RepAt w' rb off known most' := by
  obtain ⟨⟨kv, a0, b0⟩, a1, a7, ⟨m9, a9, b9⟩, ⟨kp, kl, a10, b10, d10⟩, ⟨m12, a12, b12⟩, hz⟩ := h
  exact ⟨⟨kv, (hcell 0 (by omega)).trans a0, hS _ _ _ (Or.inl rfl) b0⟩, (hcell 1 (by omega)).trans a1, (hcell 7 (by omega)).trans a7, ⟨m9, (hcell 9 (by omega)).trans a9, by omega⟩, ⟨kp, kl, (hcell 10 (by omega)).trans a10, hS _ _ _ (Or.inr rfl) b10, d10⟩, ⟨m12, (hcell 12 (by omega)).trans a12, by omega⟩, hz.of (fun i hi => hcell i (by omega))⟩

theorem RefAt.upd {w w' : World} {c rb : Nat} {evv fv : Value} {av : Nat → Value} {room : Nat} {es : List Ev} {acc most : Nat} {knowns : List (List Bool)} (h : RefAt w c rb evv fv av room es acc most knowns) (hc : Chg (· = rb) w w') (ht : Tagged w' rb 147)
    (hmost : most + 1 ≤ 1000) (k : Nat) (hk : k < knowns.length) (more : List Bool) (hml : more.length ≤ es.length) (hrep : RepAt w' rb (k * 13) more (most + 1))
    (hoth : ∀ j, j ≠ k → ∀ i, i < 13 → w'.cell? ⟨rb, j * 13 + i, none⟩ = w.cell? ⟨rb, j * 13 + i, none⟩) (h11 : w'.cell? ⟨rb, k * 13 + 11, none⟩ = w.cell? ⟨rb, k * 13 + 11, none⟩) : RefAt w' c rb evv fv av room es acc (most + 1) (knowns.set k more) := by
  have hne : c ≠ rb := h.tc.ne h.trb (by decide)
  have hcc : ∀ i, w'.cell? ⟨c, i, none⟩ = w.cell? ⟨c, i, none⟩ := fun i => World.cell?_of_block (w := w) (hc.block c h.tc.lt hne)
  have hS : ∀ t v xs, (t = 4 ∨ t = 3) → SliceT t w v xs → SliceT t w' v xs := fun t v xs ht hs => hs.chgT hc h.trb (by rcases ht with rfl | rfl <;> decide)
  obtain ⟨cap, f1, hcap⟩ := h.f1
  obtain ⟨svs, e1, e2, e3⟩ := h.evs
  refine ⟨h.tc.chg hc hne, ht, h.room50, by simpa using h.n6, h.n500, (hcc 0).trans h.f0, ⟨cap, by rw [hcc 1, f1]; simp, by simpa using hcap⟩, (hcc 2).trans h.f2, (hcc 3).trans h.f3, h.a500, hmost, ⟨svs, e1, ?_, fun j h1 h2 => hS _ _ _ (Or.inl rfl) (e3 j h1 h2)⟩, h.ok, ?_, ?_, (hcc 4).trans h.f4, fun i hi => ?_⟩
  · refine ownsRow_chg e2 hc ?_
    intro g hg e
    obtain ⟨hx, h1 | ⟨g', cap', cur, rfl, _, hh, _⟩⟩ := e2
    · rw [h1.1] at hg; cases hg
    · cases hg; exact (Tagged.ne ⟨cur, hh⟩ h.trb (by decide)) e
  · intro i hi
    simp only [List.length_set] at hi
    by_cases e : i = k
    · subst e; rw [List.getElem_set_self]; exact hrep
    · rw [List.getElem_set_ne (fun h => e h.symm)]
      exact (h.reps i hi).keep (by omega) hS (fun j hj => hoth i e j hj)
  · intro x hx
    rcases List.mem_or_eq_of_mem_set hx with h1 | h1
    · exact h.kn x h1
    · rw [h1]; exact hml
  · have hi' : i < knowns.length := by simpa using hi
    by_cases e : i = k
    · subst e; exact h11.trans (h.a11 i hi')
    · exact (hoth i e 11 (by omega)).trans (h.a11 i hi')

theorem own_lit0 {e : TypeId} {base : Nat} (w : World) (g : Nat) (hg : g = w.heap.size) (hb : base ≤ w.heap.size) : (w.alloc (.cells #[] e)).ownsRow base e 1 (.slice (some ⟨g, 0, none⟩) 0 0) 0 [] := by
  subst hg; exact World.ownsRow_lit w #[] 0 hb (by decide) rfl

theorem write_fin {w w' : World} {c rb : Nat} {evv fv : Value} {av : Nat → Value} {room : Nat} {es : List Ev} {acc most : Nat} {knowns : List (List Bool)} (h : RefAt w c rb evv fv av room es acc most knowns) (k : Nat) (hk : k < knowns.length)
    (mv : Value) (more : List Bool) (hmv : SliceT 4 w mv (bools more)) (hml : more.length ≤ es.length) (hmost : most + 1 ≤ 1000) (hc : Chg (· = rb) w w') (ht : Tagged w' rb 147)
    (e0 : w'.cell? ⟨rb, k * 13, none⟩ = some mv) (m9 : Nat) (h9 : m9 ≤ most) (e9 : w'.cell? ⟨rb, k * 13 + 9, none⟩ = some (.int .i64 ((m9 : Int) + 1))) (kp : Value) (kl : List Int) (e10 : w'.cell? ⟨rb, k * 13 + 10, none⟩ = some kp) (s10 : SliceT 3 w' kp (ints kl)) (l10 : kl.length ≤ 50)
    (m12 : Nat) (h12 : m12 ≤ most + 1) (e12 : w'.cell? ⟨rb, k * 13 + 12, none⟩ = some (.int .i64 (m12 : Int)))
    (hoth : ∀ o, o ≠ k * 13 → o ≠ k * 13 + 9 → o ≠ k * 13 + 10 → o ≠ k * 13 + 12 → w'.cell? ⟨rb, o, none⟩ = w.cell? ⟨rb, o, none⟩) : RefAt w' c rb evv fv av room es acc (most + 1) (knowns.set k more) := by
  have hr := h.reps k hk
  refine h.upd hc ht hmost k hk more hml ⟨⟨mv, e0, hmv.chgT hc h.trb (by decide)⟩, (hoth _ (by omega) (by omega) (by omega) (by omega)).trans hr.c1, (hoth _ (by omega) (by omega) (by omega) (by omega)).trans hr.c7, ⟨m9 + 1, by rw [e9]; simp, by omega⟩, ⟨kp, kl, e10, s10, l10⟩, ⟨m12, e12, h12⟩, hr.z.of (fun i hi => hoth _ (by omega) (by omega) (by omega) (by omega))⟩ ?_ (hoth _ (by omega) (by omega) (by omega) (by omega))
  intro j hj i hi
  exact hoth _ (by omega) (by omega) (by omega) (by omega)

theorem SliceT.tail1 {t : TypeId} {w : World} {g c n' : Nat} {a : Option Addr} {xs : List Value} (h : SliceT t w (.slice (some ⟨g, 0, none⟩) n' c) xs) (n c' : Nat) (hx : xs.length = n + 1) (ha : (a = some ⟨g, 0, none⟩ ∧ n = 0) ∨ a = some ⟨g, 1, none⟩) (hc' : n ≤ c') : SliceT t w (.slice a n c') xs.tail := by
  rcases h with ⟨h, _⟩ | ⟨b, off, cap, h1, h2, h3, h4⟩
  · cases h
  · simp only [Value.slice.injEq, Option.some.injEq, Addr.mk.injEq] at h1
    obtain ⟨⟨rfl, rfl, _⟩, rfl, rfl⟩ := h1
    right
    rcases ha with ⟨rfl, rfl⟩ | rfl
    · exact ⟨g, 0, c', by simp [hx], by simp [hx], h3, fun j hj => by simp [hx] at hj⟩
    · refine ⟨g, 1, c', by simp [hx], by simp [hx]; omega, h3, fun j hj => ?_⟩
      simp only [List.length_tail] at hj
      rw [List.getElem_tail, show 1 + j = 0 + (j + 1) by omega]; exact h4 (j + 1) (by omega)

theorem Tagged.drewN {w : World} {b : Nat} {t : TypeId} (h : Tagged w b t) (n : Nat) : Tagged (w.drewN n) b t := h
theorem Chg.drewN {M : Nat → Prop} {a w : World} (h : Chg M a w) (n : Nat) : Chg M a (w.drewN n) := h.below (below_drewN (Below.refl _ _) n)

theorem own_some {w : World} {B : Nat} {e : TypeId} {v : Value} {n size : Nat} {xs : List Value} (h : w.ownsRow B e size v n xs) (hn : 0 < n) : ∃ g cap, v = .slice (some ⟨g, 0, none⟩) n cap := by
  obtain ⟨_, h1 | ⟨g, cap, cur, h2, _⟩⟩ := h
  · omega
  · exact ⟨g, cap, h2⟩
end Go.Proofs.YtoiiaankpnhppaaGreatDoor

namespace Go.Proofs.YtoiiaankpnhppaaGreatDoor.Thk

theorem splitAcc_len (c : UInt8) : ∀ (l cur : Bs), ((splitAcc c cur l).map List.length).sum + (splitAcc c cur l).length = cur.length + l.length + 1 := by
  intro l
  induction l with
  | nil => intro cur; simp [splitAcc]
  | cons x r ih =>
    intro cur
    unfold splitAcc
    split
    · have := ih []
      simp at this ⊢; omega
    · have := ih (cur ++ [x])
      simp at this ⊢; omega
theorem sum_le (l : List Nat) (b : Nat) (h : ∀ x ∈ l, x ≤ b) : l.sum ≤ b * l.length := by
  induction l with
  | nil => simp
  | cons a r ih =>
    have h1 := h a (by simp)
    have h2 := ih (fun x hx => h x (by simp [hx]))
    simp only [List.sum_cons, List.length_cons, Nat.mul_succ]; omega
theorem path_len (l : Bs) (h : path l = true) : l.length ≤ 17 := by
  unfold path pathL at h
  simp only [Bool.and_eq_true, decide_eq_true_eq] at h
  have h3 := h.1.1
  have h5 : ∀ x ∈ (split 47 l).map List.length, x ≤ 5 := by
    intro x hx
    obtain ⟨y, hy, rfl⟩ := List.mem_map.1 hx
    have := List.all_eq_true.1 h.1.2 y hy
    unfold seg at this; simp at this; omega
  have hs := sum_le _ 5 h5
  have hl := splitAcc_len 47 l []
  rw [List.length_map] at hs
  unfold split at *
  simp at hl; omega
theorem numAbs_ok (neg : Bool) (l : Bs) (n : Int) (h : numAbs neg l = some n) : l.length ≤ 10 ∧ n ≤ 1000000000 ∧ -1000000000 ≤ n := by
  unfold numAbs at h
  by_cases hb : numBad neg l
  · rw [if_pos hb] at h; cases h
  · rw [if_neg hb] at h
    unfold numBad at hb
    simp only [Bool.or_eq_true, not_or, decide_eq_true_eq] at hb
    by_cases hc : (l.all isDig && decide (numv l ≤ 1000000000)) = true
    · rw [if_pos hc] at h
      simp only [Bool.and_eq_true, decide_eq_true_eq] at hc
      cases h
      refine ⟨by omega, ?_, ?_⟩ <;> (cases neg <;> simp <;> omega)
    · rw [if_neg hc] at h; cases h
theorem num_ok (l : Bs) (n : Int) (h : num l = some n) : l.length ≤ 11 ∧ n ≤ 1000000000 ∧ -1000000000 ≤ n := by
  unfold num at h
  by_cases hc : l.head? = some 45
  · rw [if_pos hc] at h
    have := numAbs_ok _ _ _ h
    simp at this; omega
  · rw [if_neg hc] at h
    have := numAbs_ok _ _ _ h
    omega
theorem read_ok (l : Bs) (c : Ch) (h : read l = .inr c) : c.path.length ≤ 17 ∧ c.val.length ≤ 11 ∧ c.n ≤ 1000000000 ∧ -1000000000 ≤ c.n ∧ path c.path = true := by
  unfold read at h
  by_cases h1 : l.findIdx isAct = l.length
  · rw [if_pos h1] at h; cases h
  · rw [if_neg h1] at h
    unfold readAt at h
    by_cases h2 : path (l.take (l.findIdx isAct)) = false
    · rw [if_pos h2] at h; cases h
    · rw [if_neg h2] at h
      have h2' : path (l.take (l.findIdx isAct)) = true := by simpa using h2
      by_cases h3 : fits (kindOf (l.take (l.findIdx isAct))) (l.getD (l.findIdx isAct) 0) = false
      · rw [if_pos h3] at h; cases h
      · rw [if_neg h3] at h
        have hp := path_len _ h2'
        generalize l.take (l.findIdx isAct) = p at *
        generalize l.drop (l.findIdx isAct + 1) = v at *
        generalize l.getD (l.findIdx isAct) 0 = a at *
        unfold operand at h
        split at h
        · split at h
          · rename_i hv
            cases h
            unfold val at hv; simp at hv
            exact ⟨hp, by simp; omega, by simp, by simp, h2'⟩
          · cases h
        · split at h
          · split at h
            · rename_i n hn
              cases h
              have := num_ok _ _ hn
              exact ⟨hp, by simp; omega, by simp; omega, by simp; omega, h2'⟩
            · cases h
          · split at h
            · rename_i hv
              cases h
              exact ⟨hp, by simp [hv], by simp, by simp, h2'⟩
            · cases h

theorem read_err (l : Bs) (m : Nat) (h : read l = .inl m) : 0 < m ∧ m ≤ 6 := by
  unfold read readAt operand at h
  repeat' split at h
  all_goals first | (cases h; omega) | (cases h; done)

end Go.Proofs.YtoiiaankpnhppaaGreatDoor.Thk

